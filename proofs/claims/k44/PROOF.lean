import PyProof.Rows.All
import Wide.All
import OpenK.AllK
import Wide.FinOn
import HandS.ForMost
import HandS.IsInst
import HandS.Evl
import HandS.WideBits
import HandS.Wide
import HandS.Flow
import HandS.Style
import HandS.SortInts
import HandS.Strs
import HandS.Conv
import HandS.TupLe
import HandS.Defaults
import HandS.Small
import KE.DataCmp
import HandS.SetFor
import KE.SortData
import HandS.CallLocal
import HandS.ExcInit
import HandS.ExcIs
import HandS.ExcValue
import HandS.ExcOwn
import KE.KExcIs
import HandS.DeepEq
import HandS.TryMany
import HandS.Zip
import HandS.Text
import HandS.Lambda
import HandS.EndTab
import HandS.Walk
import PySem.Challenge.RW_timedoors_k44_reasons_refused
set_option Elab.async false
set_option linter.all false
set_option maxRecDepth 100000
set_option maxHeartbeats 4000000
/-! # G1: defs whose promise is asked only where nothing is being printed (guards are empty): so repr of data is exact -/
namespace TD
open PySem PySem.Spec PyProof.Rows L2

/-- as FnOk, asked only where no repr is under way -/
structure FnG (P : Program) (w : World) (K : PySem.W.Frag) (mg : Str → Option Value) (base : Heap) (CX : CXT) (k : Nat) (f : Addr) (fd : FuncData) (ps : List Str) (sp : Sp) : Prop where
  ln : ∀ vs H Q E, sp vs H Q E → vs.length = ps.length
  go : ∀ (A : Around) (outer : List Env) (s : Shared) (H : Hp) (args : Args) (us : List Value) (vs : List V) (Q : VK) (E : XK),
    A.guards = some [] → Room k A → Env0 P w K mg base A outer s H → BindsTo s fd args (ps.zip us) → Vals vs us → sp vs H Q E →
    codeAny (model P w) A (.call (.ref f) args) (CR CX outer P w H s Q E) s

section
variable {P : Program} {w : World} {K : PySem.W.Frag} {mg : Str → Option Value} {base : Heap}
theorem FnG.up {CX : CXT} {j k : Nat} {f : Addr} {fd : FuncData} {ps : List Str} {sp : Sp} (F : FnG P w K mg base CX j f fd ps sp) (h : j ≤ k) :
    FnG P w K mg base CX k f fd ps sp := ⟨F.ln, fun A o s H a us vs Q E g r => F.go A o s H a us vs Q E g (r.mono h)⟩
theorem FnG.weak {CX : CXT} {k : Nat} {f : Addr} {fd : FuncData} {ps : List Str} {sp sp' : Sp} (F : FnG P w K mg base CX k f fd ps sp)
    (h : ∀ vs H Q E, sp' vs H Q E → sp vs H Q E) : FnG P w K mg base CX k f fd ps sp' :=
  ⟨fun vs H Q E q => F.ln vs H Q E (h _ _ _ _ q), fun A o s H a us vs Q E g r e b v q => F.go A o s H a us vs Q E g r e b v (h _ _ _ _ q)⟩
theorem FnG.of {CX : CXT} {k : Nat} {f : Addr} {fd : FuncData} {ps : List Str} {sp : Sp} (F : FnOk P w K mg base CX k f fd ps sp) :
    FnG P w K mg base CX k f fd ps sp := ⟨F.len, fun A o s H a us vs Q E _ r => F.run A o s H a us vs Q E r⟩
/-- the rule for a def, guards told -/
theorem fnG {CX : CXT} {x qual : Str} {st : Stmt} {f : Addr} {fd : FuncData} {N ps : List Str} {k : Nat} {sp : Sp} (F : Fun K x qual st f fd) (S : FnScope N ps (defScope st))
    (ln : ∀ vs H Q E, sp vs H Q E → vs.length = ps.length)
    (body : ∀ (cdv : Value) (A : Around) (outer : List Env) (s : Shared) (H : Hp) (vs : List V) (Q : VK) (E : XK),
      A.guards = some [] → Room k (A.deeper (envOfC qual (defScope st) s.heap.objs.size f cdv)) → sp vs H Q E →
      ∃ t, PSs (cxOf CX P w K mg base N qual (defScope st) f cdv A outer s H E) (defBody st) t ∧ t { nx := fun _ H' => Q .non H', rt := Q } (start N vs) H) :
    FnG P w K mg base CX (k + 1) f fd ps sp := by
  obtain ⟨oc, od, kV, doc, pm, an, cdv, ct, osl, rfl, lk, hcd⟩ := F.ex
  refine ⟨ln, ?_⟩
  intro A outer s H args us vs Q E hg hr e0 hb r hsp
  have keepB : ∀ b o, base.get? b = some o → s.heap.get? b = some o := fun b o e => (e0.bs b o e).1
  have inK : K.In s.heap := e0.mod.kin.keeps keepB
  have noLim : s.heap.NoLimit := e0.mod.nolimit.keeps keepB
  have kinds : ∀ y ∈ ps.zip us, (defScope st).names.lookup y.1 = some .local ∨
      ((defScope st).names.lookup y.1 = some .cell ∧ ((cellsFrom (s.heap.objs.size + 1) (defScope st).names []).lookup y.1).isSome = true) := by
    intro ⟨nm, u⟩ hy
    rcases S.par nm (List.of_mem_zip hy).1 with z | z
    · exact Or.inl z
    · exact Or.inr ⟨z, PySem.W.cellsFrom_some _ _ _ (Or.inl z)⟩
  refine codeAny_call_function hr.depth (inK _ _ lk) rfl S.co S.gen rfl (PySem.W.codeRec_of inK hcd) (hb _ _ _ _ ?_)
  refine wpAny_newFunctionEnv_cells S.kind kinds fun en hen s1 x1 => ?_
  subst hen
  refine ⟨noLim.keeps x1.toInCall.keep, codeAny_func ?_⟩
  obtain ⟨t, ht, hq⟩ := body cdv A outer s H vs Q E hg (hr.deeper _) hsp
  have I1 : Inv (cxOf CX P w K mg base N qual (defScope st) f cdv A outer s H E) [] (start N vs) H s1 := inv_start S hr.hd e0 (ln _ _ _ _ hsp) r x1
  refine wpAny_mono (ht.run [] s1 (start N vs) H _ I1 hq) ?_ (fun _ _ z => z)
  intro fl s2 hs
  match fl, hs with
  | .ret u, ⟨v, _, H2, J, rv, q⟩ => exact ⟨v, H2, J.os, J.bare, J.base, J.hok, rv, q⟩
  | .next, ⟨_, H2, J, q⟩ => exact ⟨V.non, H2, J.os, J.bare, J.base, J.hok, rfl, q⟩
  | .brk, ⟨_, _, _, q⟩ => exact q.elim
  | .cont, ⟨_, _, _, q⟩ => exact q.elim
end

section
variable {X : Cx} {CX : CXT} {k : Nat} {f : Addr} {fd : FuncData} {ps ks : List Str} {sp : Sp} {dvs : List V} {ds : List Value} {E : XK} {x : Str} {p pos : Pos} {e : Expr} {es : List Expr} {t tk : TA} {kws : List Keyword}
  {g : List Value → List Value → List Value} {gV : List V → List V → List V}
theorem runG {pins : List (Addr × Obj)} {σ : L2.St} {H : Hp} {s : Shared} {Q : VK} {us us2 : List Value} {kw : List (Str × Value)} {vs : List V}
    (F : FnG X.prog X.w X.K X.mg X.base CX k f fd ps sp) (hg : X.A.guards = some []) (hr : Room k X.A)
    (hb : BindsTo s fd ⟨us2, kw⟩ (ps.zip us)) (hx : Passes CX X E) (I : Inv X pins σ H s) (r : Vals vs us) (h : sp vs H Q E) :
    wpAny (model X.prog X.w) X.A (call (.ref f) us2 kw) (EP X pins σ Q) X.xe s := by
  refine wpAny_call (codeAny_mono (F.go X.A X.stack s H _ us vs Q E hg hr I.env0 hb r h) ?_)
  intro rs s2 hq
  match rs, hq with
  | .error e, hq => exact hx pins σ H s e s2 I hq
  | .ok (.ret u), hq => exact I.after hq
  | .ok .next, hq => exact hq.elim
  | .ok .brk, hq => exact hq.elim
  | .ok .cont, hq => exact hq.elim
/-- f(a, ..) -/
theorem pe_g (F : FnG X.prog X.w X.K X.mg X.base CX k f fd ps sp) (gu : X.A.guards = some []) (hr : Room k X.A) (hg : Gl X x) (hm : X.mg x = some (.ref f))
    (hk : PySem.W.keepIn X.K (.ref f) = true) (hb : Binds X.K fd ps []) (hx : Passes CX X E) (ha : PA X (e :: es) t)
    (d1 : (x == ("__debug__" : Str)) = false := by decide)
    (d2 : starEach (e :: es) X.env = (false, eval e X.env) :: starEach es X.env := by rfl)
    (d3 : (backTo pos (starEach es X.env)).any (·.1) = false := by rfl) :
    PE X (.Call (.Name x p) (e :: es) [] pos) (tCall sp [] E t) := by
  refine ⟨fun pins s σ H Q I h => wpAny_Call_Name_kw (ld_glob I hg hm ?_ d1)⟩
  refine PySem.W.callWith_K (h₀ := X.base) I.ok.mod.kin hk (thn (ha.run pos pins s σ H _ I h) ?_) d2 d3
  intro us s1 ⟨vs, H1, I1, r, q⟩
  have q' : sp vs H1 Q E := by
    have z : sp (vs ++ []) H1 Q E := q
    rw [List.append_nil] at z
    exact z
  have b := hb s1 us I1.kIn (by rw [List.append_nil, ← r.length]; exact F.ln _ _ _ _ q')
  rw [List.append_nil] at b
  exact ⟨I1.kIn, runG F gu hr b hx I1 r q'⟩
theorem pe_g0 (F : FnG X.prog X.w X.K X.mg X.base CX k f fd [] sp) (gu : X.A.guards = some []) (hr : Room k X.A) (hg : Gl X x) (hm : X.mg x = some (.ref f))
    (hk : PySem.W.keepIn X.K (.ref f) = true) (hb : Binds X.K fd [] []) (hx : Passes CX X E) (d1 : (x == ("__debug__" : Str)) = false := by decide) :
    PE X (.Call (.Name x p) [] [] pos) (tCall sp [] E tNil) := by
  refine ⟨fun pins s σ H Q I h => wpAny_Call_Name_kw (ld_glob I hg hm ?_ d1)⟩
  exact PySem.W.callWith_K0 I.kIn hk (runG (us := []) F gu hr (hb s [] I.kIn rfl) hx I .nil h)
/-- the keywords' binding: all by name -/
structure KAll (fd : FuncData) (ps ks : List Str) (g : List Value → List Value) (gV : List V → List V) : Prop where
  to : ∀ ws : List Value, ws.length = ks.length → bindArgs fd ⟨[], ks.zip ws⟩ = pure (ps.zip (g ws))
  rel : ∀ {zs : List V} {ws : List Value}, zs.length = ks.length → Vals zs ws → Vals (gV zs) (g ws)
def tCallKw (n : Nat) (sp : Sp) (gV : List V → List V) (E : XK) (tk : TA) : TE := fun σ H Q => tk σ H fun zs H2 => zs.length = n ∧ sp (gV zs) H2 Q E
/-- f(k = v, ..) -/
theorem pe_gk {g1 : List Value → List Value} {gV1 : List V → List V} (F : FnG X.prog X.w X.K X.mg X.base CX k f fd ps sp) (gu : X.A.guards = some []) (hr : Room k X.A) (hg : Gl X x) (hm : X.mg x = some (.ref f))
    (hk : PySem.W.keepIn X.K (.ref f) = true) (hb : KAll fd ps ks g1 gV1) (hx : Passes CX X E) (hkw : PK X kws tk)
    (d1 : (x == ("__debug__" : Str)) = false := by decide)
    (d2 : (backToKw pos (keywordEach kws X.env)).all (·.1.isSome) = true := by rfl)
    (d3 : (backToKw pos (keywordEach kws X.env)).filterMap (·.1) = ks := by rfl)
    (d4 : ((backTo pos (starEach [] X.env)).any (·.1) || (backToKw pos (keywordEach kws X.env)).any (·.1.isNone)) = false := by rfl) :
    PE X (.Call (.Name x p) [] kws pos) (tCallKw ks.length sp gV1 E tk) := by
  refine ⟨fun pins s σ H Q I h => wpAny_Call_Name_kw (ld_glob I hg hm ?_ d1)⟩
  refine PySem.W.callWith_KW0 (h₀ := X.base) I.ok.mod.kin hk d2 (thn (hkw.run pos pins s σ H _ I h) ?_) d4
  intro ws s2 ⟨zs, H2, I2, rz, hl, q⟩
  refine ⟨I2.kIn, ?_⟩
  rw [d3]
  exact runG (us := g1 ws) F gu hr (.of_eq (hb.to ws (rz.length.symm.trans hl))) hx I2 (hb.rel hl rz) q
end

/-! ### the end of a law row: the law's promise where guards are empty and sys.modules is a namespace of the base -/
section
theorem lawG {P : Program} {w : World} {K : PySem.W.Frag} {mg mb : Str → Option Value} {CX : CXT} {k : Nat} {fa a : Addr} {fd : FuncData} {x : Str} {sp : Sp} {s1 : Shared} {vs : List Value} {ns : List Int}
    (inK : K.In s1.heap) (hgl : s1.heap.Ns mainGlobals mg) (hbu : s1.heap.Ns builtinsNs mb) (hbb : ∀ x : Str, x ≠ "__name__" → mb x = bootBuiltins x) (lim : s1.heap.NoLimit) (see : s1.heap.NoSeer) (gen : s1.gens = #[])
    (at_ : s1.heap.get? a = some { cls := .type "list", data := .seq vs.toArray }) (hints : IntsAre vs ns) (len : ns.length ≤ sizeLine) (room : Room k callerA)
    (F : ∀ base : Heap, K.In base → base.Ns mainGlobals mg → (∃ mm, base.Ns sysModules mm) → FnG P w K mg base CX k fa fd [x] sp) (bind : ∀ (s : Shared) (u : Value), BindsTo s fd ⟨[u], []⟩ [(x, u)])
    (hsp : ∀ H : Hp, Only H → SqL K H a (ns.map V.int) → sp [.ref a] H (fun v _ => v = .bl true) fun _ _ _ => False)
    (hCX : ∀ H e s', CX [] H s1 (fun _ _ _ => False) e s' → False) :
    codeAny (model P w) callerA (.call (.ref fa) ⟨[.ref a], []⟩) (fun r s' => r = .ok (.ret (.bool true)) ∧ OldK s1.heap s'.heap ∧ s'.os = s1.os ∧ AllBare s'.gens) s1 := by
  have relV := vals_ints hints
  have lenV := hints.length
  have key : ∀ H : Hp, Only H → SqL K H a (ns.map V.int) → HOk P w H s1.heap → (∀ b, H b ≠ none → b = a) → (H a ≠ none → K.lookup a = none) →
      codeAny (model P w) callerA (.call (.ref fa) ⟨[.ref a], []⟩) (fun r s' => r = .ok (.ret (.bool true)) ∧ OldK s1.heap s'.heap ∧ s'.os = s1.os ∧ AllBare s'.gens) s1 := by
    intro H only hS ok one nk
    have not_a : ∀ {b : Addr} {o : Obj} {es : Array DictEntry} {ep : Nat}, s1.heap.get? b = some o → o.data = .dict es ep → H b = none := by
      intro b o es ep e d
      by_cases z : H b = none
      · exact z
      · have hb := one b z
        rw [hb, at_] at e
        cases e
        exact nomatch (show Data.seq vs.toArray _ = Data.dict es ep from d)
    have ns_ : ∀ {b : Addr} {m : Str → Option Value}, s1.heap.Ns b m → (hidT s1.heap H).Ns b m := by
      intro b m ⟨o, es, ep, e, d, r⟩
      exact ⟨o, es, ep, hidT_get e (not_a e d), d, r⟩
    have inB : K.In (hidT s1.heap H) := by
      intro b o e
      refine hidT_get (inK b o e) ?_
      by_cases z : H b = none
      · exact z
      · have hb := one b z
        rw [hb] at z e
        rw [nk z] at e
        cases e
    obtain ⟨mc, l1, l2⟩ := lim
    have md : Mod K mg (hidT s1.heap H) := ⟨inB, ns_ hgl, ⟨mb, ns_ hbu, hbb⟩, ⟨mc, ns_ l1, l2⟩⟩
    have e0 : Env0 P w K mg (hidT s1.heap H) callerA [] s1 H :=
      ⟨rfl, md, fun b o e => of_hidT e, Nat.le_of_eq (hidT_size _ _), trivial, (fun b hb => nomatch (show b ∈ ([] : List Addr) from hb)), ok, .of_eq gen⟩
    obtain ⟨mm, sm, _⟩ := see.mods
    refine codeAny_mono ((F _ inB (ns_ hgl) ⟨mm, ns_ sm⟩).go callerA [] s1 H ⟨[.ref a], []⟩ [.ref a] [.ref a] _ _ rfl room e0 (bind s1 (.ref a)) (.cons rfl .nil) (hsp H only hS)) ?_
    intro r s2 h
    match r, h with
    | .error e, h => exact (hCX H e s2 h).elim
    | .ok .next, h => exact False.elim h
    | .ok .brk, h => exact False.elim h
    | .ok .cont, h => exact False.elim h
    | .ok (.ret u), ⟨v, H2, os, bare, un, ok2, r2, q⟩ =>
      have qv : v = .bl true := q
      subst qv
      have ru : u = Value.bool true := r2
      subst ru
      refine ⟨rfl, OldK.of_keep ?_, os, bare⟩
      intro b o e
      rcases only b with z | ⟨ob, xs, z⟩
      · exact un.keep b o e z (fun y => nomatch (show b ∈ ([] : List Addr) from y)) (fun y => nomatch y)
      · obtain ⟨e1, _⟩ := ok b _ z
        obtain ⟨e2, _⟩ := ok2 b _ (un.frzs b ob _ z)
        rw [e1] at e
        cases e
        exact e2
  by_cases hk : K.lookup a = none
  · refine key (fun b => if b = a then some (.frz { cls := .type "list", data := .seq vs.toArray } (.lst (ns.map V.int))) else none) ?_ (.inl (.inr ⟨_, if_pos rfl⟩)) ?_ ?_ fun _ => hk
    · intro b
      by_cases hb : b = a
      · exact Or.inr ⟨_, _, if_pos hb⟩
      · exact Or.inl (if_neg hb)
    · intro b u z
      by_cases hb : b = a
      · subst hb
        have y := (if_pos rfl).symm.trans z
        cases y
        exact ⟨at_, by rw [List.length_map]; exact len, vs, _, relV, at_⟩
      · exact nomatch (if_neg hb).symm.trans z
    · intro b z
      by_cases hb : b = a
      · exact hb
      · exact (z (if_neg hb)).elim
  · obtain ⟨o, ho⟩ : ∃ o, K.lookup a = some o := by
      cases z : K.lookup a with
      | none => exact (hk z).elim
      | some o => exact ⟨o, rfl⟩
    have e := inK a o ho
    rw [at_] at e
    cases e
    refine key (fun _ => none) (fun _ => Or.inl rfl) (.inr ⟨_, vs.toArray, _, ho, rfl, rfl, rfl, by rw [List.size_toArray, lenV]; exact len, by simpa using relV⟩) ?_ (fun b z => absurd rfl z) fun z => absurd rfl z
    intro b u z
    exact nomatch (show (none : Option HO) = some u from z)
theorem walkG {l : PySem.W.OpenLaw} {n k : Nat} {q : Program} {loose : List Str} {XP : (Str → Option Value) → Heap → Prop} {YP : World → Heap → Prop} {d : DefRec} {K : Params → PySem.W.Frag} {CX : World → CXT} {sp : World → Sp} {x : Str}
    (h1 : l.most = some n) (h2 : n ≤ sizeLine) (h3 : d.params.defaults = []) (imp : importsNone q = true) (room : Room k callerA)
    (hY : ∀ (w : World) (h : Heap), YP w h → (K w.params).In h)
    (F : ∀ (w : World) (mg : Str → Option Value) (fa : Addr) (h : Heap), (K w.params).In h → h.Ns mainGlobals mg → mg d.name = some (.ref fa) →
      ∃ fd : FuncData, (∀ (s : Shared) (u : Value), BindsTo s fd ⟨[u], []⟩ [(x, u)]) ∧
        ∀ base : Heap, (K w.params).In base → base.Ns mainGlobals mg → (∃ mm, base.Ns sysModules mm) → FnG l.prog w (K w.params) mg base (CX w) k fa fd [x] (sp w))
    (hsp : ∀ (w : World) (H : Hp) (a : Addr) (ns : List Int), ns.length ≤ n → Only H → SqL (K w.params) H a (ns.map V.int) → sp w [.ref a] H (fun v _ => v = .bl true) fun _ _ _ => False)
    (hCX : ∀ (w : World) (H : Hp) (s : Shared) (e : Value) (s' : Shared), CX w [] H s (fun _ _ _ => False) e s' → False) :
    PySem.W.WalkO q loose XP YP l.row.toRowW d [] (fun f vs => PySem.call f vs) := by
  refine Att.attach_call h1 h3 ?_
  intro w s0 s1 mg mb fa o pm cd doc a vs ns G Y ho hd hcd hmg hobj hints hlen hgen
  have KX := hY w _ Y
  obtain ⟨fd, hb, hF⟩ := F w mg fa _ KX G.T.g hmg
  refine lawG KX G.T.g G.T.b G.T.builtins G.T.nolimit (G.T.seer imp) hgen hobj hints (Nat.le_trans hlen h2) room hF hb (fun H hO hS => hsp w H a ns hlen hO hS) ?_
  intro H e s2
  exact hCX w H s1 e s2
end
end TD

set_option maxHeartbeats 4000000
/-! # G2: data at any depth, dicts too: what stands in a heap for it; == and repr of it -/
namespace TD
open PySem PySem.Spec PyProof.Rows L2

def keyD : Key → PyData
  | .inl i => .int i
  | .inr x => .str x
mutual
inductive Da (K : PySem.W.Frag) (H : Hp) : V → PyData → Prop
  | non : Da K H .non .none
  | bl (b : Bool) : Da K H (.bl b) (.bool b)
  | int (i : Int) : Da K H (.int i) (.int i)
  | str (x : Str) : Da K H (.str x) (.str x)
  | lst {a : Addr} {xs : List V} {ds : List PyData} : H a = some (.lst xs) → Das K H xs ds → Da K H (.ref a) (.list ds)
  | tup {a : Addr} {xs : List V} {ds : List PyData} : H a = some (.tup xs) → Das K H xs ds → Da K H (.ref a) (.tuple ds)
  | dic {a : Addr} {kvs : List (Key × V)} {ds : List PyData} : H a = some (.dK kvs) → Das K H (kvs.map (·.2)) ds → Da K H (.ref a) (.dict ((kvs.map fun p => keyD p.1).zip ds))
inductive Das (K : PySem.W.Frag) (H : Hp) : List V → List PyData → Prop
  | nil : Das K H [] []
  | cons {v : V} {vs : List V} {d : PyData} {ds : List PyData} : Da K H v d → Das K H vs ds → Das K H (v :: vs) (d :: ds)
end
theorem Das.len {K : PySem.W.Frag} {H : Hp} : ∀ {vs : List V} {ds : List PyData}, Das K H vs ds → vs.length = ds.length
  | _, _, .nil => rfl
  | _, _, .cons _ t => congrArg Nat.succ t.len
theorem Das.get {K : PySem.W.Frag} {H : Hp} : ∀ {vs : List V} {ds : List PyData} {i : Nat} {v : V}, Das K H vs ds → vs[i]? = some v → ∃ d, ds[i]? = some d ∧ Da K H v d
  | _, _, _, _, .nil, h => by simp at h
  | _, _, 0, v, .cons (d := d) h t, e => by
    simp at e
    subst e
    exact ⟨d, rfl, h⟩
  | _, _, i + 1, v, .cons h t, e => by
    obtain ⟨d, e1, e2⟩ := t.get (i := i) (v := v) (by simpa using e)
    exact ⟨d, by simpa using e1, e2⟩
theorem Das.getD {K : PySem.W.Frag} {H : Hp} : ∀ {vs : List V} {ds : List PyData} {i : Nat} {d : PyData}, Das K H vs ds → ds[i]? = some d → ∃ v, vs[i]? = some v ∧ Da K H v d
  | _, _, _, _, .nil, h => by simp at h
  | _, _, 0, d, .cons (v := v) h t, e => by
    simp at e
    subst e
    exact ⟨v, rfl, h⟩
  | _, _, i + 1, d, .cons h t, e => by
    obtain ⟨v, e1, e2⟩ := t.getD (i := i) (d := d) (by simpa using e)
    exact ⟨v, by simpa using e1, e2⟩
theorem Das.app {K : PySem.W.Frag} {H : Hp} : ∀ {vs ws : List V} {ds es : List PyData}, Das K H vs ds → Das K H ws es → Das K H (vs ++ ws) (ds ++ es)
  | _, _, _, _, .nil, h => h
  | _, _, _, _, .cons a t, h => .cons a (t.app h)
theorem Das.take {K : PySem.W.Frag} {H : Hp} : ∀ {vs : List V} {ds : List PyData} (n : Nat), Das K H vs ds → Das K H (vs.take n) (ds.take n)
  | _, _, 0, _ => .nil
  | _, _, _ + 1, .nil => .nil
  | _, _, n + 1, .cons a t => .cons a (t.take n)
theorem Das.drop {K : PySem.W.Frag} {H : Hp} : ∀ {vs : List V} {ds : List PyData} (n : Nat), Das K H vs ds → Das K H (vs.drop n) (ds.drop n)
  | _, _, 0, h => h
  | _, _, _ + 1, .nil => .nil
  | _, _, n + 1, .cons a t => t.drop n
theorem rdEx {H H' : Hp} {a : Addr} {u : HO} (e : Evl.Ex H H') (h : Rd H a u) : Rd H' a u := Evl.ex_rd e h
mutual
theorem Da.ex {K : PySem.W.Frag} {H H' : Hp} (e : Evl.Ex H H') : ∀ {v : V} {d : PyData}, Da K H v d → Da K H' v d
  | _, _, .non => .non
  | _, _, .bl b => .bl b
  | _, _, .int i => .int i
  | _, _, .str x => .str x
  | _, _, .lst h t => .lst (e _ _ h) (Das.ex e t)
  | _, _, .tup h t => .tup (e _ _ h) (Das.ex e t)
  | _, _, .dic h t => .dic (e _ _ h) (Das.ex e t)
theorem Das.ex {K : PySem.W.Frag} {H H' : Hp} (e : Evl.Ex H H') : ∀ {vs : List V} {ds : List PyData}, Das K H vs ds → Das K H' vs ds
  | _, _, .nil => .nil
  | _, _, .cons a t => .cons (Da.ex e a) (Das.ex e t)
end
/-! ### what is read of it -/
section
variable {X : Cx} {pins : List (Addr × Obj)} {σ : L2.St} {H : Hp} {s : Shared}
theorem pairs_reads {P : Program} {w : World} {h : Heap} : ∀ {es : List DictEntry} {kvs : List (Key × V)} {vs : List (Key × Value)}, Pairs (mixKind P w) es vs → KV kvs vs →
    ReadsAll h (es.map (·.key)) (kvs.map fun p => keyD p.1) [] ∧ Vals (kvs.map (·.2)) (es.map (·.val))
  | _, _, _, .nil, .nil => ⟨.nil, .nil⟩
  | _, _, _, .cons (e := e) h1 h2 t, .cons (a := a) r u => by
    obtain ⟨q1, q2⟩ := pairs_reads (h := h) t u
    obtain ⟨r1, r2⟩ := r
    have h1' : keyIs a.1 e.key = true := by
      rw [r1]
      exact h1
    refine ⟨?_, .cons (by show L2.RelV a.2 e.val; rw [h2]; exact r2) q2⟩
    rcases keyIs_shape h1' with ⟨i, tk, ek, ev⟩ | ⟨x, tk, ek, ev⟩
    · have z := ReadsAll.cons (Reads.int (h := h) i tk) q1
      simp only [List.map_cons, ek, ev]
      exact z
    · have z := ReadsAll.cons (Reads.str (h := h) x tk) q1
      simp only [List.map_cons, ek, ev]
      exact z
theorem seq_not_sm {a : Addr} {o : Obj} {vs : Array Value} {n : Nat} (sm : ∃ mm, X.base.Ns sysModules mm) (I : Inv X pins σ H s) (ho : s.heap.get? a = some o) (hd : o.data = .seq vs n) : a ≠ sysModules := by
  intro e
  subst e
  obtain ⟨mm, q⟩ := sm
  obtain ⟨o2, es, ep, e2, d2, _⟩ := q.keeps I.bk
  rw [ho] at e2
  cases e2
  have z : o.data = .dict es ep := d2
  rw [hd] at z
  cases z
mutual
theorem Da.reads (sm : ∃ mm, X.base.Ns sysModules mm) (I : Inv X pins σ H s) : ∀ (d : PyData) (v : V) (u : Value), Da X.K H v d → RelV v u → ∃ as, Reads s.heap u d as ∧ sysModules ∉ as
  | .none, _, _, h, r => by
    cases h
    cases r
    exact ⟨_, Reads.none, fun z => nomatch z⟩
  | .bool b, _, _, h, r => by
    cases h
    cases r
    exact ⟨_, Reads.bool b, fun z => nomatch z⟩
  | .int i, _, _, h, r => by
    cases h
    obtain ⟨t, rfl⟩ := r
    exact ⟨_, Reads.int i t, fun z => nomatch z⟩
  | .str x, _, _, h, r => by
    cases h
    obtain ⟨t, rfl⟩ := r
    exact ⟨_, Reads.str x t, fun z => nomatch z⟩
  | .list ds, _, _, h, r => by
    cases h with
    | lst hs ha =>
      cases r
      obtain ⟨its, rv, ⟨o, n, ho, hc, _, hd⟩, _⟩ := I.list (SqL.of hs)
      obtain ⟨as, hr, hn⟩ := Das.reads sm I ds _ its ha rv
      refine ⟨_, Reads.list ho hc hd hr, fun z => ?_⟩
      rcases List.mem_cons.mp z with z | z
      · exact seq_not_sm sm I ho hd z.symm
      · exact hn z
  | .tuple ds, _, _, h, r => by
    cases h with
    | tup hs ha =>
      cases r
      obtain ⟨its, rv, ⟨o, ho, hc, n, hd⟩, _⟩ := I.tuple (SqT.of hs)
      obtain ⟨as, hr, hn⟩ := Das.reads sm I ds _ its ha rv
      exact ⟨_, Reads.tuple ho hc hd hr, hn⟩
  | .dict kds, v, u, h, r => by
    generalize hk : PyData.dict kds = dd at h
    cases h with
    | @dic a kvs ds hs ha =>
      cases r
      injection hk with hk
      subst hk
      obtain ⟨_, ns, vs, rel, o, es, ep, ho, hx, hd, _, hp, _⟩ := (I.hok a _ hs : ObjOk X.prog X.w H s.heap a (.dK kvs))
      obtain ⟨q1, q2⟩ := pairs_reads (h := s.heap) hp rel
      have l1 : (kvs.map fun p => keyD p.1).length = ds.length := by
        have := ha.len
        rw [List.length_map] at this ⊢
        exact this
      have ez : ((kvs.map fun p => keyD p.1).zip ds).map (·.2) = ds := List.map_snd_zip (by omega)
      obtain ⟨as, hr, hn⟩ := Das.readsZ sm I ((kvs.map fun p => keyD p.1).zip ds) _ _ (by rw [ez]; exact ha) q2
      refine ⟨_, Reads.dict (es := es) (n := ep) (as := []) (bs := as) ho hx.1 hd ?_ ?_, fun z => ?_⟩
      · rw [List.map_fst_zip (by omega)]
        exact q1
      · exact hr
      · rcases List.mem_cons.mp z with z | z
        · rw [← z] at ns
          simp at ns
        · exact hn (by simpa using z)
    | _ => cases hk
theorem Das.reads (sm : ∃ mm, X.base.Ns sysModules mm) (I : Inv X pins σ H s) : ∀ (ds : List PyData) (vs : List V) (us : List Value), Das X.K H vs ds → Vals vs us → ∃ as, ReadsAll s.heap us ds as ∧ sysModules ∉ as
  | [], _, _, h, r => by
    cases h
    cases r
    exact ⟨_, ReadsAll.nil, fun z => nomatch z⟩
  | d :: ds, _, _, h, r => by
    cases h with
    | cons h1 h2 =>
      cases r with
      | cons r1 r2 =>
        obtain ⟨as, q1, n1⟩ := Da.reads sm I d _ _ h1 r1
        obtain ⟨bs, q2, n2⟩ := Das.reads sm I ds _ _ h2 r2
        exact ⟨_, ReadsAll.cons q1 q2, fun z => (List.mem_append.mp z).elim n1 n2⟩
theorem Das.readsZ (sm : ∃ mm, X.base.Ns sysModules mm) (I : Inv X pins σ H s) : ∀ (kds : List (PyData × PyData)) (vs : List V) (us : List Value), Das X.K H vs (kds.map (·.2)) → Vals vs us → ∃ as, ReadsAll s.heap us (kds.map (·.2)) as ∧ sysModules ∉ as
  | [], _, _, h, r => by
    cases h
    cases r
    exact ⟨_, ReadsAll.nil, fun z => nomatch z⟩
  | (k, d) :: ds, _, _, h, r => by
    cases h with
    | cons h1 h2 =>
      cases r with
      | cons r1 r2 =>
        obtain ⟨as, q1, n1⟩ := Da.reads sm I d _ _ h1 r1
        obtain ⟨bs, q2, n2⟩ := Das.readsZ sm I ds _ _ h2 r2
        exact ⟨_, ReadsAll.cons q1 q2, fun z => (List.mem_append.mp z).elim n1 n2⟩
end
end
end TD
namespace TD
open PySem PySem.Spec PyProof.Rows L2
/-! ### how long the text of data is at most -/
mutual
def sz : PyData → Nat
  | .none => 10
  | .bool _ => 10
  | .int _ => 2000
  | .str x => (reprText x).length
  | .list xs => szs xs + 5
  | .tuple xs => szs xs + 5
  | .dict kvs => szk kvs + 5
def szs : List PyData → Nat
  | [] => 0
  | d :: ds => sz d + 2 + szs ds
def szk : List (PyData × PyData) → Nat
  | [] => 0
  | (k, v) :: r => sz k + sz v + 4 + szk r
end
def piles (ts : List Str) : Nat := (ts.map fun t => t.length + 2).sum
theorem textFrom_up : ∀ (ts : List Str) (k : Nat) (acc : Str), (textFrom k acc ts).length ≤ acc.length + piles ts
  | [], _, acc => by
    show acc.length ≤ acc.length + 0
    omega
  | t :: r, k, acc => by
    have h := textFrom_up r (k + 1) (acc ++ (if k > 0 then ", " else "" : String) ++ t)
    have e : (acc ++ (if k > 0 then ", " else "" : String) ++ t).length ≤ acc.length + 2 + t.length := by
      rw [strLen_append, strLen_append]
      split
      · show acc.length + 2 + t.length ≤ _
        omega
      · show acc.length + 0 + t.length ≤ _
        omega
    have z : piles (t :: r) = (t.length + 2) + piles r := rfl
    show (textFrom (k + 1) _ r).length ≤ _
    omega
theorem list_up (ts : List Str) : (listText ts).length ≤ piles ts + 2 := by
  have h := textFrom_up ts 0 "["
  have e : (Str.ofString "[").length = 1 := by decide
  have e2 : (Str.ofString "]").length = 1 := by decide
  unfold listText
  rw [strLen_append]
  have z : (textFrom 0 "[" ts).length ≤ 1 + piles ts := by
    rw [← e]
    exact h
  omega
theorem tuple_up (ts : List Str) : (tupleText ts).length ≤ piles ts + 5 := by
  unfold tupleText
  rw [strLen_append, strLen_append]
  have e1 : (Str.ofString "(").length = 1 := by decide
  have e2 : (Str.ofString ((if ts.length == 1 then ",)" else ")" : String))).length ≤ 2 := by split <;> decide
  have e3 : (Str.join ", " ts).length ≤ piles ts := by
    cases ts with
    | nil => exact Nat.zero_le _
    | cons t r =>
      have z := join_length_add (t :: r) (by simp)
      have y : piled (t :: r) = piles (t :: r) := rfl
      omega
  rw [e1]
  omega
theorem dict_up (ts : List Str) : (dictText ts).length ≤ piles ts + 5 := by
  unfold dictText
  rw [strLen_append, strLen_append]
  have e1 : (Str.ofString "{").length = 1 := by decide
  have e2 : (Str.ofString "}").length = 1 := by decide
  have e3 : (Str.join ", " ts).length ≤ piles ts := by
    cases ts with
    | nil => exact Nat.zero_le _
    | cons t r =>
      have z := join_length_add (t :: r) (by simp)
      have y : piled (t :: r) = piles (t :: r) := rfl
      omega
  omega
mutual
theorem shown_up : ∀ d : PyData, d.showable = true → d.shown.length ≤ sz d
  | .none, _ => by
    show (Str.ofString "None").length ≤ 10
    decide
  | .bool b, _ => by
    cases b
    · show (Str.ofString "False").length ≤ 10
      decide
    · show (Str.ofString "True").length ≤ 10
      decide
  | .int i, h => by
    have z : i.natAbs.log2 < 1920 := by simpa [PyData.showable] using h
    have y := int_text_len_1921 z
    show (Str.ofString (toString i)).length ≤ 2000
    omega
  | .str x, _ => Nat.le_refl _
  | .list xs, h => by
    have q := shown_ups xs (by simpa [PyData.showable] using h)
    have z := list_up (PyData.shownAll xs)
    have e : (PyData.list xs).shown = listText (PyData.shownAll xs) := by simp only [PyData.shown]
    rw [e]
    show _ ≤ szs xs + 5
    omega
  | .tuple xs, h => by
    have q := shown_ups xs (by simpa [PyData.showable] using h)
    have z := tuple_up (PyData.shownAll xs)
    have e : (PyData.tuple xs).shown = tupleText (PyData.shownAll xs) := by simp only [PyData.shown]
    rw [e]
    show _ ≤ szs xs + 5
    omega
  | .dict kvs, h => by
    have q := shown_upk kvs (by simpa [PyData.showable] using h)
    have z := dict_up (PyData.shownKv kvs)
    have e : (PyData.dict kvs).shown = dictText (PyData.shownKv kvs) := by simp only [PyData.shown]
    rw [e]
    show _ ≤ szk kvs + 5
    omega
theorem shown_ups : ∀ ds : List PyData, PyData.showableAll ds = true → piles (PyData.shownAll ds) ≤ szs ds
  | [], _ => by
    simp only [PyData.shownAll]
    exact Nat.le_refl _
  | d :: ds, h => by
    have z : d.showable = true ∧ PyData.showableAll ds = true := by simpa [PyData.showableAll] using h
    have h1 := shown_up d z.1
    have h2 := shown_ups ds z.2
    simp only [PyData.shownAll]
    show d.shown.length + 2 + piles (PyData.shownAll ds) ≤ sz d + 2 + szs ds
    omega
theorem shown_upk : ∀ kvs : List (PyData × PyData), PyData.showableKv kvs = true → piles (PyData.shownKv kvs) ≤ szk kvs
  | [], _ => by
    simp only [PyData.shownKv]
    exact Nat.le_refl _
  | (k, v) :: r, h => by
    have z : (k.showable = true ∧ v.showable = true) ∧ PyData.showableKv r = true := by simpa [PyData.showableKv] using h
    have h1 := shown_up k z.1.1
    have h2 := shown_up v z.1.2
    have h3 := shown_upk r z.2
    simp only [PyData.shownKv]
    show (k.shown ++ ": " ++ v.shown).length + 2 + piles (PyData.shownKv r) ≤ sz k + sz v + 4 + szk r
    rw [strLen_append, strLen_append]
    have e : (Str.ofString ": ").length = 2 := by decide
    omega
end
/-- data that may be printed: bounded ints, a bounded depth and a bounded text -/
structure Fine (d : PyData) : Prop where
  sh : d.showable = true
  dp : d.depth ≤ 100
  up : sz d ≤ 16000000
section
variable {X : Cx}
/-- repr(e) of data -/
def rRepr (K : PySem.W.Frag) : List V → Hp → VK → Prop := fun xs H Q => ∃ v d, xs = [v] ∧ Da K H v d ∧ Fine d ∧ Q (.str d.shown) H
theorem call_reprA (sm : ∃ mm, X.base.Ns sysModules mm) (gu : X.A.guards = some []) (hu : X.A.units + 200 < cLine) : CallR X (.builtin "repr") (rRepr X.K) := by
  intro pins s σ H xs us Q I r h
  obtain ⟨v, d, rfl, hd, hf, q⟩ := h
  obtain ⟨u, rfl, ru⟩ := vals1 r
  have up : d.shown.length ≤ sizeLine := Nat.le_trans (shown_up d hf.sh) (Nat.le_trans hf.up (by decide))
  obtain ⟨as, rd, hn⟩ := Da.reads sm I d v u hd ru
  have dp := hf.dp
  have big : wpAny (model X.prog X.w) X.A (call (.builtin "repr") [u]) (EP X pins σ Q) X.xe s := by
    cases rd with
    | none => exact PySem.P.repr_of_none ⟨.str _, H, I.tok _, ⟨_, rfl⟩, q⟩
    | bool b => exact PySem.P.repr_of_bool ⟨.str _, H, I.tok _, ⟨_, rfl⟩, q⟩
    | int i t => exact PySem.P.repr_of_int (by simpa [PyData.showable] using hf.sh) ⟨.str _, H, I.tok _, ⟨_, rfl⟩, q⟩
    | str x t => exact PySem.P.repr_of_str ⟨.str _, H, I.tok _, ⟨_, rfl⟩, q⟩ up
    | list h1 h2 h3 h4 =>
      exact repr_of_reads' (.list h1 h2 h3 h4) hf.sh (fun _ => hn) gu (by omega) (fun b o e => e) (fun h2 u2 tk k => ⟨.str _, H, I.kept k, ⟨_, rfl⟩, q⟩) up
    | tuple h1 h2 h3 h4 =>
      exact repr_of_reads' (.tuple h1 h2 h3 h4) hf.sh (fun _ => hn) gu (by omega) (fun b o e => e) (fun h2 u2 tk k => ⟨.str _, H, I.kept k, ⟨_, rfl⟩, q⟩) up
    | dict h1 h2 h3 h4 h5 =>
      exact repr_of_reads' (.dict h1 h2 h3 h4 h5) hf.sh (fun _ => hn) gu (by omega) (fun b o e => e) (fun h2 u2 tk k => ⟨.str _, H, I.kept k, ⟨_, rfl⟩, q⟩) up
  exact big
def rEqA (K : PySem.W.Frag) : R2 := fun x y H Q => ∃ d e, Da K H x d ∧ Da K H y e ∧ SeqAt.shaped d = true ∧ SeqAt.shaped e = true ∧ Q (.bl (PyData.eqv d e)) H
def rNeA (K : PySem.W.Frag) : R2 := fun x y H Q => ∃ d e, Da K H x d ∧ Da K H y e ∧ SeqAt.shaped d = true ∧ SeqAt.shaped e = true ∧ Q (.bl (!PyData.eqv d e)) H
theorem op_eqA (sm : ∃ mm, X.base.Ns sysModules mm) (hu : X.A.units + 64 < cLine) : OpR X (compareOp .Eq) (rEqA X.K) := by
  intro pins s σ H x y v u Q I rx ry h
  obtain ⟨d, e, hd, he, sd, se, q⟩ := h
  obtain ⟨as, r1, _⟩ := Da.reads sm I d x v hd rx
  obtain ⟨bs, r2, _⟩ := Da.reads sm I e y u he ry
  exact SeqAt.compareEq_shaped r1 r2 sd se hu ⟨.bl _, H, I, rfl, q⟩
theorem op_neA (sm : ∃ mm, X.base.Ns sysModules mm) (hu : X.A.units + 64 < cLine) : OpR X (compareOp .NotEq) (rNeA X.K) := by
  intro pins s σ H x y v u Q I rx ry h
  obtain ⟨d, e, hd, he, sd, se, q⟩ := h
  obtain ⟨as, r1, _⟩ := Da.reads sm I d x v hd rx
  obtain ⟨bs, r2, _⟩ := Da.reads sm I e y u he ry
  exact SeqAt.compareNe_shaped r1 r2 sd se hu ⟨.bl _, H, I, rfl, q⟩
end
end TD

set_option maxHeartbeats 4000000
/-! # G3: readings over data: what an expression, a test, a statement comes to where each slot holds known data.
B is the part of the heap H that is known to hold the data; what H holds besides (lists that somebody still changes) is not touched. -/
namespace TD
open PySem PySem.Spec PyProof.Rows L2
open Evl (Ex)
abbrev Fg := PySem.W.Frag

structure Le (B H B' H' : Hp) : Prop where
  ex : Ex H H'
  ek : Ex B B'
  sub : Ex B' H'
  old : ∀ a, B a = none → H a ≠ none → B' a = none
theorem Le.rfl' {B H : Hp} (s : Ex B H) : Le B H B H := ⟨Ex.refl H, Ex.refl B, s, fun _ h _ => h⟩
theorem Le.tr {B H B1 H1 B2 H2 : Hp} (a : Le B H B1 H1) (b : Le B1 H1 B2 H2) : Le B H B2 H2 :=
  ⟨a.ex.trans b.ex, a.ek.trans b.ek, b.sub, fun x h1 h2 => b.old x (a.old x h1 h2) (fun z => by
    cases q : H x with
    | none => exact h2 q
    | some o =>
      rw [a.ex x o q] at z
      cases z)⟩
theorem Le.new {B H : Hp} {p : Addr} {o : HO} (s : Ex B H) (h : H p = none) : Le B H (upd B p o) (upd H p o) where
  ex := Ex.new h
  ek := Ex.new (Evl.fresh_back s h)
  sub := fun a u e => by
    by_cases q : a = p
    · subst q
      rw [upd_same] at e ⊢
      exact e
    · rw [upd_ne q] at e ⊢
      exact s a u e
  old := fun a h1 h2 => by
    have q : a ≠ p := fun z => h2 (z ▸ h)
    rw [upd_ne q]
    exact h1

/-- slots that hold known data; none: nothing is known -/
abbrev En := List (Option PyData)
def SD (K : Fg) (B : Hp) (σ : L2.St) (ρ : En) : Prop := σ.length = ρ.length ∧ ∀ (i : Nat) (d : PyData), ρ[i]? = some (some d) → ∃ v, σ[i]? = some (some v) ∧ Da K B v d
theorem SD.up {K : Fg} {B B' : Hp} {σ : L2.St} {ρ : En} (e : Ex B B') (s : SD K B σ ρ) : SD K B' σ ρ := ⟨s.1, fun i d h => let ⟨v, a, b⟩ := s.2 i d h; ⟨v, a, b.ex e⟩⟩
theorem SD.put {K : Fg} {B : Hp} {σ : L2.St} {ρ : En} {v : V} {d : PyData} (s : SD K B σ ρ) (i : Nat) (h : Da K B v d) : SD K B (σ.set i (some v)) (ρ.set i (some d)) := by
  refine ⟨by rw [List.length_set, List.length_set]; exact s.1, fun j e hj => ?_⟩
  by_cases q : i = j
  · subst q
    by_cases l : i < ρ.length
    · rw [List.getElem?_set_self l] at hj
      cases hj
      exact ⟨v, List.getElem?_set_self (by rw [s.1]; exact l), h⟩
    · rw [List.getElem?_eq_none (by rw [List.length_set]; omega)] at hj
      cases hj
  · rw [List.getElem?_set_ne q] at hj
    obtain ⟨u, a, b⟩ := s.2 j e hj
    exact ⟨u, by rw [List.getElem?_set_ne q]; exact a, b⟩
/-- the block's own slots forgotten -/
def wipeD (ρ : En) : List Nat → En
  | [] => ρ
  | v :: vs => (wipeD ρ vs).set v none
theorem SD.drop {K : Fg} {B : Hp} {σ : L2.St} {ρ : En} (s : SD K B σ ρ) (i : Nat) (o : Option V) : SD K B (σ.set i o) (ρ.set i none) := by
  refine ⟨by rw [List.length_set, List.length_set]; exact s.1, fun j e hj => ?_⟩
  by_cases q : i = j
  · subst q
    by_cases l : i < ρ.length
    · rw [List.getElem?_set_self l] at hj
      cases hj
    · rw [List.getElem?_eq_none (by rw [List.length_set]; omega)] at hj
      cases hj
  · rw [List.getElem?_set_ne q] at hj
    obtain ⟨u, a, b⟩ := s.2 j e hj
    exact ⟨u, by rw [List.getElem?_set_ne q]; exact a, b⟩
theorem SD.wipe {K : Fg} {B : Hp} {σ : L2.St} {ρ : En} (s : SD K B σ ρ) : ∀ vs : List Nat, SD K B (L2.wipe σ vs) (wipeD ρ vs)
  | [] => s
  | v :: vs => (s.wipe vs).drop v none
theorem SD.less {K : Fg} {B : Hp} {σ : L2.St} {ρ ρ' : En} (s : SD K B σ ρ) (hl : ρ'.length = ρ.length) (h : ∀ (i : Nat) (d : PyData), ρ'[i]? = some (some d) → ρ[i]? = some (some d)) : SD K B σ ρ' :=
  ⟨s.1.trans hl.symm, fun i d e => s.2 i d (h i d e)⟩

/-! ### the judgements -/
section
variable (K : Fg)
def ED (te : TE) (ρ : En) (d : PyData) : Prop := ∀ σ B H, Ex B H → SD K B σ ρ → ∀ Q : VK, (∀ v B' H', Le B H B' H' → Da K B' v d → Q v H') → te σ H Q
def EA (ta : TA) (ρ : En) (ds : List PyData) : Prop := ∀ σ B H, Ex B H → SD K B σ ρ → ∀ Q : List V → Hp → Prop, (∀ vs B' H', Le B H B' H' → Das K B' vs ds → Q vs H') → ta σ H Q
def ET (tt : TT) (ρ : En) (b : Bool) : Prop := ∀ σ B H, Ex B H → SD K B σ ρ → ∀ Q : Bool → Hp → Prop, (∀ B' H', Le B H B' H' → Q b H') → tt σ H Q
/-- operations on values -/
def R2D (r : R2) (x y z : PyData) : Prop := ∀ v w B H, Ex B H → Da K B v x → Da K B w y → ∀ Q : VK, (∀ u B' H', Le B H B' H' → Da K B' u z → Q u H') → r v w H Q
def R1D (r : V → Hp → VK → Prop) (x z : PyData) : Prop := ∀ v B H, Ex B H → Da K B v x → ∀ Q : VK, (∀ u B' H', Le B H B' H' → Da K B' u z → Q u H') → r v H Q
def RcD (r : List V → Hp → VK → Prop) (xs : List PyData) (z : PyData) : Prop := ∀ vs B H, Ex B H → Das K B vs xs → ∀ Q : VK, (∀ u B' H', Le B H B' H' → Da K B' u z → Q u H') → r vs H Q
inductive Out where
  | nx (ρ : En) | ret (d : PyData) | br (ρ : En) | ct (ρ : En)
def Meet (D : Ends) (B H : Hp) : Out → Prop
  | .nx ρ => ∀ σ' B' H', Le B H B' H' → SD K B' σ' ρ → D.nx σ' H'
  | .ret d => ∀ v B' H', Le B H B' H' → Da K B' v d → D.rt v H'
  | .br ρ => ∀ σ' B' H', Le B H B' H' → SD K B' σ' ρ → D.bk σ' H'
  | .ct ρ => ∀ σ' B' H', Le B H B' H' → SD K B' σ' ρ → D.ct σ' H'
def XS (t : TS) (ρ : En) (o : Out) : Prop := ∀ σ B H (D : Ends), Ex B H → SD K B σ ρ → Meet K D B H o → t D σ H
/-- a target: data d bound to it -/
def TG_ (g : TG) (d : PyData) (ρ ρ' : En) : Prop := ∀ σ v B H, Ex B H → SD K B σ ρ → Da K B v d → ∀ Q : L2.St → Hp → Prop, (∀ σ' , SD K B σ' ρ' → Q σ' H) → g v σ H Q
/-- the promise of a def that only makes new things of its arguments: R tells what of what -/
def SpR (R : List PyData → PyData → Prop) : Sp := fun vs H Q _ => ∃ B ds d, Ex B H ∧ Das K B vs ds ∧ R ds d ∧ ∀ v B' H', Le B H B' H' → Da K B' v d → Q v H'
end
section
variable {K : Fg} {ρ ρ' ρ1 : En} {ta tb tc te : TE} {tt tu : TT} {t u : TS} {x y z d : PyData} {r : R2} {a b c : Bool} {o : Out} {g : TG}
theorem ed_var {i : Nat} (h : ρ[i]? = some (some d)) : ED K (tVar i) ρ d := fun σ B H s sd Q q =>
  let ⟨v, e, hd⟩ := sd.2 i d h
  ⟨v, e, q v B H (Le.rfl' s) hd⟩
theorem ed_int {i : Int} : ED K (tC (.int i)) ρ (.int i) := fun σ B H s _ Q q => q _ B H (Le.rfl' s) (.int i)
theorem ed_non : ED K (tC .non) ρ .none := fun σ B H s _ Q q => q _ B H (Le.rfl' s) .non
theorem ed_bl {i : Bool} : ED K (tC (.bl i)) ρ (.bool i) := fun σ B H s _ Q q => q _ B H (Le.rfl' s) (.bl i)
theorem ed_str {i : Str} : ED K (tC (.str i)) ρ (.str i) := fun σ B H s _ Q q => q _ B H (Le.rfl' s) (.str i)
theorem ed_op (ha : ED K ta ρ x) (hb : ED K tb ρ y) (hr : R2D K r x y z) : ED K (tOp r ta tb) ρ z := fun σ B H s sd Q q =>
  ha σ B H s sd _ fun v B1 H1 l1 d1 => hb σ B1 H1 l1.sub (sd.up l1.ek) _ fun w B2 H2 l2 d2 => hr v w B2 H2 l2.sub (d1.ex l2.ek) d2 Q fun u B3 H3 l3 d3 => q u B3 H3 ((l1.tr l2).tr l3) d3
theorem ed_un {r : V → Hp → VK → Prop} (ha : ED K ta ρ x) (hr : R1D K r x z) : ED K (tUn r ta) ρ z := fun σ B H s sd Q q =>
  ha σ B H s sd _ fun v B1 H1 l1 d1 => hr v B1 H1 l1.sub d1 Q fun u B3 H3 l3 d3 => q u B3 H3 (l1.tr l3) d3
theorem ed_is (h : ED K te ρ x) (e : x = y) : ED K te ρ y := e ▸ h
theorem et_is (h : ET K tt ρ a) (e : a = b) : ET K tt ρ b := e ▸ h
theorem ed_and (ha : ED K ta ρ (.bool a)) (hb : a = true → ED K tb ρ (.bool b)) : ED K (tAndV ta tb) ρ (.bool (a && b)) := fun σ B H s sd Q q =>
  ha σ B H s sd _ fun v B1 H1 l1 d1 => by
    cases d1
    refine ⟨a, rfl, ?_⟩
    cases a with
    | true =>
      show tb σ H1 Q
      exact hb rfl σ B1 H1 l1.sub (sd.up l1.ek) Q fun u B2 H2 l2 d2 => q u B2 H2 (l1.tr l2) d2
    | false =>
      show Q (.bl false) H1
      exact q _ B1 H1 l1 (.bl false)
theorem ed_or (ha : ED K ta ρ (.bool a)) (hb : a = false → ED K tb ρ (.bool b)) : ED K (tOrV ta tb) ρ (.bool (a || b)) := fun σ B H s sd Q q =>
  ha σ B H s sd _ fun v B1 H1 l1 d1 => by
    cases d1
    refine ⟨a, rfl, ?_⟩
    cases a with
    | false =>
      show tb σ H1 Q
      exact hb rfl σ B1 H1 l1.sub (sd.up l1.ek) Q fun u B2 H2 l2 d2 => q u B2 H2 (l1.tr l2) d2
    | true =>
      show Q (.bl true) H1
      exact q _ B1 H1 l1 (.bl true)
theorem ed_not (ha : ED K ta ρ (.bool a)) : ED K (tNotV ta) ρ (.bool (!a)) := fun σ B H s sd Q q =>
  ha σ B H s sd _ fun v B1 H1 l1 d1 => by
    cases d1
    exact ⟨a, rfl, q _ B1 H1 l1 (.bl _)⟩
theorem ed_if (h : ET K tt ρ b) (h1 : b = true → ED K ta ρ d) (h2 : b = false → ED K tb ρ d) : ED K (tIf tt ta tb) ρ d := fun σ B H s sd Q q =>
  h σ B H s sd _ fun B1 H1 l1 => by
    cases b with
    | true =>
      show ta σ H1 Q
      exact h1 rfl σ B1 H1 l1.sub (sd.up l1.ek) Q fun u B2 H2 l2 d2 => q u B2 H2 (l1.tr l2) d2
    | false =>
      show tb σ H1 Q
      exact h2 rfl σ B1 H1 l1.sub (sd.up l1.ek) Q fun u B2 H2 l2 d2 => q u B2 H2 (l1.tr l2) d2
theorem et_test (h : ED K te ρ (.bool b)) : ET K (tTest te) ρ b := fun σ B H s sd Q q => h σ B H s sd _ fun v B1 H1 l1 d1 => by
  cases d1
  exact ⟨b, rfl, q B1 H1 l1⟩
theorem et_B (h : ED K te ρ (.bool b)) : ET K (tB te) ρ b := fun σ B H s sd Q q => h σ B H s sd _ fun v B1 H1 l1 d1 => by
  cases d1
  exact ⟨b, rfl, q B1 H1 l1⟩
theorem et_and (h1 : ET K tt ρ a) (h2 : a = true → ET K tu ρ b) : ET K (tAnd tt tu) ρ (a && b) := fun σ B H s sd Q q => h1 σ B H s sd _ fun B1 H1 l1 => by
  cases a with
  | true =>
    show tu σ H1 Q
    exact h2 rfl σ B1 H1 l1.sub (sd.up l1.ek) Q fun B2 H2 l2 => q B2 H2 (l1.tr l2)
  | false =>
    show Q false H1
    exact q B1 H1 l1
theorem et_or (h1 : ET K tt ρ a) (h2 : a = false → ET K tu ρ b) : ET K (tOr tt tu) ρ (a || b) := fun σ B H s sd Q q => h1 σ B H s sd _ fun B1 H1 l1 => by
  cases a with
  | false =>
    show tu σ H1 Q
    exact h2 rfl σ B1 H1 l1.sub (sd.up l1.ek) Q fun B2 H2 l2 => q B2 H2 (l1.tr l2)
  | true =>
    show Q true H1
    exact q B1 H1 l1
theorem et_not (h : ET K tt ρ a) : ET K (tNot tt) ρ (!a) := fun σ B H s sd Q q => h σ B H s sd _ fun B1 H1 l1 => q B1 H1 l1
theorem ea_nil : EA K tNil ρ [] := fun σ B H s sd Q q => q [] B H (Le.rfl' s) .nil
theorem ea_cons {tr : TA} {ds : List PyData} (h : ED K ta ρ x) (hr : EA K tr ρ ds) : EA K (tCons ta tr) ρ (x :: ds) := fun σ B H s sd Q q =>
  h σ B H s sd _ fun v B1 H1 l1 d1 => hr σ B1 H1 l1.sub (sd.up l1.ek) _ fun vs B2 H2 l2 d2 => q (v :: vs) B2 H2 (l1.tr l2) (.cons (d1.ex l2.ek) d2)
theorem das_big {B : Hp} {vs : List V} {ds : List PyData} (h : Das K B vs ds) (hl : ds.length ≤ 100000) : vs.length ≤ sizeLine := by
  rw [h.len]
  exact Evl.sz_of hl
theorem ed_tup {tl : TA} {ds : List PyData} (h : EA K tl ρ ds) (hl : ds.length ≤ 100000 := by first | decide | omega) : ED K (tTup tl) ρ (.tuple ds) := fun σ B H s sd Q q =>
  h σ B H s sd _ fun vs B1 H1 l1 d1 => ⟨das_big d1 hl, fun p hp => q _ _ _ (l1.tr (Le.new l1.sub hp)) (.tup upd_same (d1.ex (Le.new (o := .tup vs) l1.sub hp).ek))⟩
theorem ed_lst {tl : TA} {ds : List PyData} (h : EA K tl ρ ds) (hl : ds.length ≤ 100000 := by first | decide | omega) : ED K (tLst tl) ρ (.list ds) := fun σ B H s sd Q q =>
  h σ B H s sd _ fun vs B1 H1 l1 d1 => ⟨das_big d1 hl, fun p hp => q _ _ _ (l1.tr (Le.new l1.sub hp)) (.lst upd_same (d1.ex (Le.new (o := .lst vs) l1.sub hp).ek))⟩
theorem ed_cb {rc : List V → Hp → VK → Prop} {tl : TA} {ds : List PyData} (h : EA K tl ρ ds) (hr : RcD K rc ds z) : ED K (tCB rc tl) ρ z := fun σ B H s sd Q q =>
  h σ B H s sd _ fun vs B1 H1 l1 d1 => hr vs B1 H1 l1.sub d1 Q fun u B2 H2 l2 d2 => q u B2 H2 (l1.tr l2) d2
theorem ed_call {R : List PyData → PyData → Prop} {E : XK} {tl : TA} {ds : List PyData} (h : EA K tl ρ ds) (hR : R ds z) : ED K (tCall (SpR K R) [] E tl) ρ z := fun σ B H s sd Q q =>
  h σ B H s sd _ fun vs B1 H1 l1 d1 => by
    show SpR K R (vs ++ []) H1 Q E
    rw [List.append_nil]
    exact ⟨B1, ds, z, l1.sub, d1, hR, fun u B2 H2 l2 d2 => q u B2 H2 (l1.tr l2) d2⟩
theorem ed_callk {R : List PyData → PyData → Prop} {E : XK} {tl : TA} {n : Nat} {gV : List V → List V} {ds es : List PyData} (h : EA K tl ρ ds) (hn : ds.length = n) (hg : ∀ (B : Hp) (vs : List V), Das K B vs ds → Das K B (gV vs) es) (hR : R es z) : ED K (tCallKw n (SpR K R) gV E tl) ρ z := fun σ B H s sd Q q =>
  h σ B H s sd _ fun vs B1 H1 l1 d1 => ⟨d1.len.trans hn, B1, es, z, l1.sub, hg B1 vs d1, hR, fun u B2 H2 l2 d2 => q u B2 H2 (l1.tr l2) d2⟩
/-! ### statements -/
theorem Meet.back {D : Ends} {B H B1 H1 : Hp} (l : Le B H B1 H1) : ∀ {o : Out}, Meet K D B H o → Meet K D B1 H1 o
  | .nx _, m => fun σ' B' H' l' s => m σ' B' H' (l.tr l') s
  | .ret _, m => fun v B' H' l' s => m v B' H' (l.tr l') s
  | .br _, m => fun σ' B' H' l' s => m σ' B' H' (l.tr l') s
  | .ct _, m => fun σ' B' H' l' s => m σ' B' H' (l.tr l') s
theorem xs_next : XS K tNext ρ (.nx ρ) := fun σ B H D s sd m => m σ B H (Le.rfl' s) sd
theorem xs_ret (h : ED K te ρ d) : XS K (tRet te) ρ (.ret d) := fun σ B H D s sd m => h σ B H s sd _ m
theorem xs_asgG (h : ED K te ρ d) (hg : TG_ K g d ρ ρ') : XS K (tAsg te g) ρ (.nx ρ') := fun σ B H D s sd m =>
  h σ B H s sd _ fun v B1 H1 l1 d1 => hg σ v B1 H1 l1.sub (sd.up l1.ek) d1 _ fun σ' s' => m σ' B1 H1 l1 s'
theorem tg_name {i : Nat} : TG_ K (gName i) d ρ (ρ.set i (some d)) := fun σ v B H s sd hd Q q => q _ (sd.put i hd)
theorem xs_asg {i : Nat} (h : ED K te ρ d) : XS K (tAsg te (gName i)) ρ (.nx (ρ.set i (some d))) := xs_asgG h tg_name
theorem xs_drop (h : ED K te ρ d) : XS K (tDrop te) ρ (.nx ρ) := fun σ B H D s sd m => h σ B H s sd _ fun v B1 H1 l1 _ => m σ B1 H1 l1 (sd.up l1.ek)
theorem xs_if (h : ET K tt ρ b) (h1 : b = true → XS K t ρ o) (h2 : b = false → XS K u ρ o) : XS K (tIfS tt t u) ρ o := fun σ B H D s sd m =>
  h σ B H s sd _ fun B1 H1 l1 => by
    cases b with
    | true =>
      show t D σ H1
      exact h1 rfl σ B1 H1 D l1.sub (sd.up l1.ek) (m.back l1)
    | false =>
      show u D σ H1
      exact h2 rfl σ B1 H1 D l1.sub (sd.up l1.ek) (m.back l1)
theorem xs_seq (h1 : XS K t ρ (.nx ρ1)) (h2 : XS K u ρ1 o) : XS K (tSeq t u) ρ o := fun σ B H D s sd m =>
  h1 σ B H _ s sd fun σ' B' H' l s' => h2 σ' B' H' D l.sub s' (m.back l)
/-- a statement that leaves the block -/
def Out.leaves : Out → Prop
  | .nx _ => False
  | _ => True
theorem xs_leave (h1 : XS K t ρ o) (hl : o.leaves) : XS K (tSeq t u) ρ o := fun σ B H D s sd m => by
  refine h1 σ B H _ s sd ?_
  cases o with
  | nx _ => exact hl.elim
  | ret _ => exact m
  | br _ => exact m
  | ct _ => exact m
theorem xs_is {o' : Out} (h : XS K t ρ o) (e : o = o') : XS K t ρ o' := e ▸ h
theorem xs_less (hl : ρ'.length = ρ.length) (hs : ∀ (i : Nat) (d : PyData), ρ'[i]? = some (some d) → ρ[i]? = some (some d)) (h : XS K t ρ' o) : XS K t ρ o := fun σ B H D s sd m => h σ B H D s (sd.less hl hs) m
/-! ### loops over what stands in a list, a tuple, a range -/
/-- the turns over the data that is left -/
inductive XF (K : Fg) (g : TG) (tb : TS) : List PyData → En → Out → Prop
  | nil {ρ : En} : XF K g tb [] ρ (.nx ρ)
  | go {d : PyData} {ds : List PyData} {ρ ρ0 ρ1 : En} {o : Out} : TG_ K g d ρ ρ0 → XS K tb ρ0 (.nx ρ1) → XF K g tb ds ρ1 o → XF K g tb (d :: ds) ρ o
  | goC {d : PyData} {ds : List PyData} {ρ ρ0 ρ1 : En} {o : Out} : TG_ K g d ρ ρ0 → XS K tb ρ0 (.ct ρ1) → XF K g tb ds ρ1 o → XF K g tb (d :: ds) ρ o
  | ret {d e : PyData} {ds : List PyData} {ρ ρ0 : En} : TG_ K g d ρ ρ0 → XS K tb ρ0 (.ret e) → XF K g tb (d :: ds) ρ (.ret e)
  | brk {d : PyData} {ds : List PyData} {ρ ρ0 ρ1 : En} : TG_ K g d ρ ρ0 → XS K tb ρ0 (.br ρ1) → XF K g tb (d :: ds) ρ (.nx ρ1)
/-- one turn of such a run, at any place of it -/
theorem xf_turn {tb : TS} {D : Ends} {B H : Hp} (m : Meet K D B H o) {dx : PyData} {ds : List PyData} {ρ : En} (f : XF K g tb (dx :: ds) ρ o) {σ' : L2.St} {B' H' : Hp} {v : V} (l : Le B H B' H') (sd : SD K B' σ' ρ) (hd : Da K B' v dx)
    {N : L2.St → Hp → Prop} (hN : ∀ ρ1 σ1 B1 H1, XF K g tb ds ρ1 o → Le B H B1 H1 → SD K B1 σ1 ρ1 → N σ1 H1) :
    g v σ' H' fun σ2 H2 => tb { D with nx := N, ct := N, bk := D.nx } σ2 H2 := by
  cases f with
  | go hg hx hr => exact hg σ' v B' H' l.sub sd hd _ fun σ2 s2 => hx σ2 B' H' _ l.sub s2 fun σ3 B3 H3 l3 s3 => hN _ σ3 B3 H3 hr (l.tr l3) s3
  | goC hg hx hr => exact hg σ' v B' H' l.sub sd hd _ fun σ2 s2 => hx σ2 B' H' _ l.sub s2 fun σ3 B3 H3 l3 s3 => hN _ σ3 B3 H3 hr (l.tr l3) s3
  | ret hg hx => exact hg σ' v B' H' l.sub sd hd _ fun σ2 s2 => hx σ2 B' H' _ l.sub s2 fun v3 B3 H3 l3 d3 => m v3 B3 H3 (l.tr l3) d3
  | brk hg hx => exact hg σ' v B' H' l.sub sd hd _ fun σ2 s2 => hx σ2 B' H' _ l.sub s2 fun σ3 B3 H3 l3 s3 => m σ3 B3 H3 (l.tr l3) s3
theorem drop_cons {α : Type} {ds : List α} {i : Nat} {e : α} (h : ds[i]? = some e) : ds.drop i = e :: ds.drop (i + 1) := by
  obtain ⟨hi, e1⟩ := List.getElem?_eq_some_iff.mp h
  rw [List.drop_eq_getElem_cons hi, e1]
theorem drop_all {α : Type} {ds : List α} {i : Nat} (h : ds.length ≤ i) : ds.drop i = [] := List.drop_of_length_le h
theorem xs_forL {tl : TE} {tb : TS} {ds : List PyData} (h : ED K tl ρ (.list ds)) (f : XF K g tb ds ρ o) : XS K (tFor (iList K tl) g tb) ρ o := fun σ B H D s sd m =>
  h σ B H s sd _ fun v B1 H1 l1 d1 => by
    cases d1 with
    | @lst p xs _ hs ha =>
      have hs' : SqL K H1 p xs := Evl.sq_of (l1.sub _ _ hs)
      refine ⟨p, rfl, ⟨xs, hs'⟩, ?_⟩
      refine for_list (K := K) (a := p) (xs := xs) (fun i σ' H' => ∃ B' ρ', XF K g tb (ds.drop i) ρ' o ∧ Le B1 H1 B' H' ∧ SD K B' σ' ρ') ⟨B1, ρ, by rw [List.drop_zero]; exact f, Le.rfl' l1.sub, sd.up l1.ek⟩
        (fun i σ' H' _ ⟨B', _, _, l, _⟩ => Evl.ex_l l.ex hs') (fun i v σ' H' hi ⟨B', ρ', f', l, s'⟩ => ?_) (fun σ' H' ⟨B', ρ', f', l, s'⟩ => ?_)
      · obtain ⟨e, he, hv⟩ := ha.get hi
        rw [drop_cons he] at f'
        exact xf_turn (m.back l1) f' l s' (hv.ex l.ek) fun ρ2 σ2 B2 H2 f2 l2 s2 => ⟨B2, ρ2, f2, l2, s2⟩
      · rw [drop_all (by rw [ha.len]; omega)] at f'
        cases f' with
        | nil => exact m σ' B' H' (l1.tr l) s'
theorem xs_forT {tl : TE} {tb : TS} {ds : List PyData} (h : ED K tl ρ (.tuple ds)) (f : XF K g tb ds ρ o) : XS K (tFor (iTup K tl) g tb) ρ o := fun σ B H D s sd m =>
  h σ B H s sd _ fun v B1 H1 l1 d1 => by
    cases d1 with
    | @tup p xs _ hs ha =>
      have hs' : SqT K H1 p xs := Evl.st_of (l1.sub _ _ hs)
      refine ⟨p, rfl, ⟨xs, hs'⟩, ?_⟩
      refine for_tup (K := K) (a := p) (xs := xs) (fun i σ' H' => ∃ B' ρ', XF K g tb (ds.drop i) ρ' o ∧ Le B1 H1 B' H' ∧ SD K B' σ' ρ') ⟨B1, ρ, by rw [List.drop_zero]; exact f, Le.rfl' l1.sub, sd.up l1.ek⟩
        (fun i σ' H' _ ⟨B', _, _, l, _⟩ => Evl.ex_t l.ex hs') (fun i v σ' H' hi ⟨B', ρ', f', l, s'⟩ => ?_) (fun σ' H' ⟨B', ρ', f', l, s'⟩ => ?_)
      · obtain ⟨e, he, hv⟩ := ha.get hi
        rw [drop_cons he] at f'
        exact xf_turn (m.back l1) f' l s' (hv.ex l.ek) fun ρ2 σ2 B2 H2 f2 l2 s2 => ⟨B2, ρ2, f2, l2, s2⟩
      · rw [drop_all (by rw [ha.len]; omega)] at f'
        cases f' with
        | nil => exact m σ' B' H' (l1.tr l) s'
/-- lo, lo + 1, .. n of them -/
def rgD (lo : Int) (n : Nat) : List PyData := (List.range n).map fun (i : Nat) => PyData.int (lo + (i : Int))
theorem rgD_get {lo : Int} {n i : Nat} (h : i < n) : (rgD lo n)[i]? = some (.int (lo + (i : Int))) := by
  unfold rgD
  rw [List.getElem?_map, List.getElem?_range h]
  rfl
theorem rgD_len (lo : Int) (n : Nat) : (rgD lo n).length = n := by
  unfold rgD
  rw [List.length_map, List.length_range]
theorem for_rngD {D : Ends} {σ : L2.St} {B H : Hp} {tb : TS} {lo : Int} {n : Nat} (s : Ex B H) (sd : SD K B σ ρ) (m : Meet K D B H o) (f : XF K g tb (rgD lo n) ρ o) :
    ∃ W : Nat → Nat → L2.St → Hp → Prop, (∃ m, W 0 m σ H) ∧ ∀ i m σ H, W i m σ H →
      ((Itr lo n).stop i H ∧ D.nx σ H) ∨ ((Itr lo n).go i H ∧ ∃ N : L2.St → Hp → Prop, (∀ σ' H', N σ' H' → ∃ m', m' < m ∧ W (i + 1) m' σ' H') ∧ ∀ x H', (Itr lo n).yld i H x H' → g x σ H' fun σ2 H2 => tb { D with nx := N, ct := N, bk := D.nx } σ2 H2) := by
  refine for_range (lo := lo) (n := n) (fun i σ' H' => ∃ B' ρ', XF K g tb ((rgD lo n).drop i) ρ' o ∧ Le B H B' H' ∧ SD K B' σ' ρ') ⟨B, ρ, by rw [List.drop_zero]; exact f, Le.rfl' s, sd⟩
    (fun i σ' H' hi ⟨B', ρ', f', l, s'⟩ => ?_) (fun σ' H' ⟨B', ρ', f', l, s'⟩ => ?_)
  · rw [drop_cons (rgD_get hi)] at f'
    exact xf_turn m f' l s' (.int _) fun ρ2 σ2 B2 H2 f2 l2 s2 => ⟨B2, ρ2, f2, l2, s2⟩
  · rw [drop_all (by rw [rgD_len]; omega)] at f'
    cases f' with
    | nil => exact m σ' B' H' l s'
theorem xs_forR1 {tl : TA} {tb : TS} {n : Int} (h : EA K tl ρ [.int n]) (hn : -1000000 ≤ n ∧ n ≤ 1000000) (f : XF K g tb (rgD 0 n.toNat) ρ o) : XS K (tFor (iRng1 tl) g tb) ρ o := fun σ B H D s sd m =>
  h σ B H s sd _ fun vs B1 H1 l1 d1 => by
    cases d1 with
    | cons h1 h2 =>
      cases h1
      cases h2
      exact ⟨n, rfl, by omega, by omega, for_rngD l1.sub (sd.up l1.ek) (m.back l1) f⟩
theorem xs_forR2 {tl : TA} {tb : TS} {lo n : Int} (h : EA K tl ρ [.int lo, .int n]) (hn : -1000000 ≤ lo ∧ lo ≤ 1000000 ∧ -1000000 ≤ n ∧ n ≤ 1000000) (f : XF K g tb (rgD lo (n - lo).toNat) ρ o) : XS K (tFor (iRng2 tl) g tb) ρ o := fun σ B H D s sd m =>
  h σ B H s sd _ fun vs B1 H1 l1 d1 => by
    cases d1 with
    | cons h1 h2 =>
      cases h1
      cases h2 with
      | cons h2 h3 =>
        cases h2
        cases h3
        exact ⟨lo, n, rfl, ⟨by omega, by omega, by omega, by omega⟩, for_rngD l1.sub (sd.up l1.ek) (m.back l1) f⟩
end
end TD

set_option maxHeartbeats 4000000
/-! # G4: operations on data: numbers, tests of kinds, items, lists put together, comprehensions -/
namespace TD
open PySem PySem.Spec PyProof.Rows L2
open Evl (Ex)
section
variable {K : Fg} {ρ ρ' : En} {ta tb tc te : TE} {tt : TT} {x y z d : PyData} {a b c : Bool} {i j k : Int}
theorem r_I0 {g : Int → Int → V} {gd : PyData} (h : ∀ B, Da K B (g i j) gd) : R2D K (rI0 g) (.int i) (.int j) gd := fun v w B H s h1 h2 Q q => by
  cases h1
  cases h2
  exact ⟨i, j, rfl, rfl, q _ B H (Le.rfl' s) (h B)⟩
theorem r_Ii {g : Int → Int → Int} : R2D K (rI0 fun i j => .int (g i j)) (.int i) (.int j) (.int (g i j)) := r_I0 fun _ => .int _
theorem r_Ib {g : Int → Int → Bool} : R2D K (rI0 fun i j => .bl (g i j)) (.int i) (.int j) (.bool (g i j)) := r_I0 fun _ => .bl _
theorem r_IC {C : Int → Int → Prop} {g : Int → Int → Int} (h : C i j) : R2D K (rI C fun i j => .int (g i j)) (.int i) (.int j) (.int (g i j)) := fun v w B H s h1 h2 Q q => by
  cases h1
  cases h2
  exact ⟨i, j, rfl, rfl, h, q _ B H (Le.rfl' s) (.int _)⟩
theorem r_eqI : R2D K rEq (.int i) (.int j) (.bool (decide (i = j))) := fun v w B H s h1 h2 Q q => by
  cases h1
  cases h2
  have e : decide (V.int i = V.int j) = decide (i = j) := by
    rw [dec_int]
    exact (Bool.beq_eq_decide_eq i j)
  exact ⟨rfl, by rw [e]; exact q _ B H (Le.rfl' s) (.bl _)⟩
theorem r_neI : R2D K rNe (.int i) (.int j) (.bool (!decide (i = j))) := fun v w B H s h1 h2 Q q => by
  cases h1
  cases h2
  have e : decide (V.int i = V.int j) = decide (i = j) := by
    rw [dec_int]
    exact (Bool.beq_eq_decide_eq i j)
  exact ⟨rfl, by rw [e]; exact q _ B H (Le.rfl' s) (.bl _)⟩
theorem r_eqB : R2D K rEq (.bool a) (.bool b) (.bool (a == b)) := fun v w B H s h1 h2 Q q => by
  cases h1
  cases h2
  exact ⟨rfl, by rw [dec_bl]; exact q _ B H (Le.rfl' s) (.bl _)⟩
theorem r_neS {u w' : Str} : R2D K rNe (.str u) (.str w') (.bool (!decide (u = w'))) := fun v w B H s h1 h2 Q q => by
  cases h1
  cases h2
  have e : decide (V.str u = V.str w') = decide (u = w') := by
    by_cases h : u = w'
    · rw [h]
      simp
    · rw [decide_eq_false h, decide_eq_false (fun z => h (V.str.inj z))]
  exact ⟨rfl, by rw [e]; exact q _ B H (Le.rfl' s) (.bl _)⟩
theorem r_eqS {u w' : Str} : R2D K rEq (.str u) (.str w') (.bool (decide (u = w'))) := fun v w B H s h1 h2 Q q => by
  cases h1
  cases h2
  have e : decide (V.str u = V.str w') = decide (u = w') := by
    by_cases h : u = w'
    · rw [h]
      simp
    · rw [decide_eq_false h, decide_eq_false (fun z => h (V.str.inj z))]
  exact ⟨rfl, by rw [e]; exact q _ B H (Le.rfl' s) (.bl _)⟩
theorem r_eqA (h1 : SeqAt.shaped x = true) (h2 : SeqAt.shaped y = true) : R2D K (rEqA K) x y (.bool (PyData.eqv x y)) := fun v w B H s dx dy Q q =>
  ⟨x, y, dx.ex s, dy.ex s, h1, h2, q _ B H (Le.rfl' s) (.bl _)⟩
theorem r_neA (h1 : SeqAt.shaped x = true) (h2 : SeqAt.shaped y = true) : R2D K (rNeA K) x y (.bool (!PyData.eqv x y)) := fun v w B H s dx dy Q q =>
  ⟨x, y, dx.ex s, dy.ex s, h1, h2, q _ B H (Le.rfl' s) (.bl _)⟩
theorem r1_neg : R1D K (rU fun i => .int (-i)) (.int i) (.int (-i)) := fun v B H s h Q q => by
  cases h
  exact ⟨i, rfl, q _ B H (Le.rfl' s) (.int _)⟩
theorem ed_neg1 : ED K (tUn (rU fun i => .int (-i)) (tC (.int 1))) ρ (.int (-1)) := ed_un ed_int r1_neg
/-- a < b < c -/
theorem ed_chain {r r' : R2} (ha : ED K ta ρ x) (hb : ED K tb ρ y) (hr : R2D K r x y (.bool a)) (hc : a = true → ED K tc ρ z) (hr' : a = true → R2D K r' y z (.bool b)) : ED K (tChain r r' ta tb tc) ρ (.bool (a && b)) := fun σ B H s sd Q q =>
  ha σ B H s sd _ fun v B1 H1 l1 d1 => hb σ B1 H1 l1.sub (sd.up l1.ek) _ fun w B2 H2 l2 d2 => hr v w B2 H2 l2.sub (d1.ex l2.ek) d2 _ fun u B3 H3 l3 d3 => by
    cases d3
    refine ⟨a, rfl, ?_⟩
    cases a with
    | true =>
      show tc σ H3 _
      refine hc rfl σ B3 H3 l3.sub (sd.up ((l1.tr l2).tr l3).ek) _ fun u B4 H4 l4 d4 => ?_
      exact hr' rfl w u B4 H4 l4.sub (d2.ex (l3.tr l4).ek) d4 Q fun u B5 H5 l5 d5 => q u B5 H5 ((((l1.tr l2).tr l3).tr l4).tr l5) d5
    | false =>
      show Q (.bl false) H3
      exact q _ B3 H3 ((l1.tr l2).tr l3) (.bl false)
/-! ### kinds -/
def isT (T : String) : PyData → Bool
  | .none => T == "NoneType"
  | .bool _ => T == "bool" || T == "int"
  | .int _ => T == "int"
  | .str _ => T == "str"
  | .list _ => T == "list"
  | .tuple _ => T == "tuple"
  | .dict _ => T == "dict"
def tyName : PyData → String
  | .none => "NoneType"
  | .bool _ => "bool"
  | .int _ => "int"
  | .str _ => "str"
  | .list _ => "list"
  | .tuple _ => "tuple"
  | .dict _ => "dict"
theorem da_ty {B : Hp} {v : V} (h : Da K B v d) : TyX K B v (.type (tyName d)) := by
  cases h with
  | non => exact .base .non
  | bl b => exact .base (.bl b)
  | int i => exact .base (.int i)
  | str x => exact .base (.str x)
  | lst h _ => exact .base (.lst h)
  | tup h _ => exact .base (.tup h)
  | dic h _ => exact .base (.dK h)
theorem kit_int : ∀ d : PyData, PySem.W.kitOne K (.type (tyName d)) (.type "int") = some (isT "int" d)
  | .none => (kit_ty (a := "NoneType") (b := "int") (r := false) (by decide +kernel))
  | .bool _ => (kit_ty (a := "bool") (b := "int") (r := true) (by decide +kernel))
  | .int _ => (kit_ty (a := "int") (b := "int") (r := true) (by decide +kernel))
  | .str _ => (kit_ty (a := "str") (b := "int") (r := false) (by decide +kernel))
  | .list _ => (kit_ty (a := "list") (b := "int") (r := false) (by decide +kernel))
  | .tuple _ => (kit_ty (a := "tuple") (b := "int") (r := false) (by decide +kernel))
  | .dict _ => (kit_ty (a := "dict") (b := "int") (r := false) (by decide +kernel))
theorem kit_bool : ∀ d : PyData, PySem.W.kitOne K (.type (tyName d)) (.type "bool") = some (isT "bool" d)
  | .none => (kit_ty (a := "NoneType") (b := "bool") (r := false) (by decide +kernel))
  | .bool _ => (kit_ty (a := "bool") (b := "bool") (r := true) (by decide +kernel))
  | .int _ => (kit_ty (a := "int") (b := "bool") (r := false) (by decide +kernel))
  | .str _ => (kit_ty (a := "str") (b := "bool") (r := false) (by decide +kernel))
  | .list _ => (kit_ty (a := "list") (b := "bool") (r := false) (by decide +kernel))
  | .tuple _ => (kit_ty (a := "tuple") (b := "bool") (r := false) (by decide +kernel))
  | .dict _ => (kit_ty (a := "dict") (b := "bool") (r := false) (by decide +kernel))
theorem kit_list : ∀ d : PyData, PySem.W.kitOne K (.type (tyName d)) (.type "list") = some (isT "list" d)
  | .none => (kit_ty (a := "NoneType") (b := "list") (r := false) (by decide +kernel))
  | .bool _ => (kit_ty (a := "bool") (b := "list") (r := false) (by decide +kernel))
  | .int _ => (kit_ty (a := "int") (b := "list") (r := false) (by decide +kernel))
  | .str _ => (kit_ty (a := "str") (b := "list") (r := false) (by decide +kernel))
  | .list _ => (kit_ty (a := "list") (b := "list") (r := true) (by decide +kernel))
  | .tuple _ => (kit_ty (a := "tuple") (b := "list") (r := false) (by decide +kernel))
  | .dict _ => (kit_ty (a := "dict") (b := "list") (r := false) (by decide +kernel))
theorem kit_tuple : ∀ d : PyData, PySem.W.kitOne K (.type (tyName d)) (.type "tuple") = some (isT "tuple" d)
  | .none => (kit_ty (a := "NoneType") (b := "tuple") (r := false) (by decide +kernel))
  | .bool _ => (kit_ty (a := "bool") (b := "tuple") (r := false) (by decide +kernel))
  | .int _ => (kit_ty (a := "int") (b := "tuple") (r := false) (by decide +kernel))
  | .str _ => (kit_ty (a := "str") (b := "tuple") (r := false) (by decide +kernel))
  | .list _ => (kit_ty (a := "list") (b := "tuple") (r := false) (by decide +kernel))
  | .tuple _ => (kit_ty (a := "tuple") (b := "tuple") (r := true) (by decide +kernel))
  | .dict _ => (kit_ty (a := "dict") (b := "tuple") (r := false) (by decide +kernel))
theorem kit_str : ∀ d : PyData, PySem.W.kitOne K (.type (tyName d)) (.type "str") = some (isT "str" d)
  | .none => (kit_ty (a := "NoneType") (b := "str") (r := false) (by decide +kernel))
  | .bool _ => (kit_ty (a := "bool") (b := "str") (r := false) (by decide +kernel))
  | .int _ => (kit_ty (a := "int") (b := "str") (r := false) (by decide +kernel))
  | .str _ => (kit_ty (a := "str") (b := "str") (r := true) (by decide +kernel))
  | .list _ => (kit_ty (a := "list") (b := "str") (r := false) (by decide +kernel))
  | .tuple _ => (kit_ty (a := "tuple") (b := "str") (r := false) (by decide +kernel))
  | .dict _ => (kit_ty (a := "dict") (b := "str") (r := false) (by decide +kernel))
theorem kitT {T : String} (hT : T = "int" ∨ T = "bool" ∨ T = "list" ∨ T = "tuple" ∨ T = "str") : PySem.W.kitOne K (.type (tyName d)) (.type T) = some (isT T d) := by
  rcases hT with rfl | rfl | rfl | rfl | rfl
  · exact kit_int d
  · exact kit_bool d
  · exact kit_list d
  · exact kit_tuple d
  · exact kit_str d
theorem ed_isi {T : String} (h : ED K te ρ d) (hT : T = "int" ∨ T = "bool" ∨ T = "list" ∨ T = "tuple" ∨ T = "str" := by simp) : ED K (tCB (rIsi K) (tCons te (tCons (tC (.ty T)) tNil))) ρ (.bool (isT T d)) := fun σ B H s sd Q q =>
  h σ B H s sd _ fun v B1 H1 l1 d1 => ⟨v, .ty T, _, _, isT T d, rfl, .ty T, da_ty (d1.ex l1.sub), kitT hT, q _ B1 H1 l1 (.bl _)⟩
/-! ### len, items -/
def rLen (K : Fg) : List V → Hp → VK → Prop := fun xs H Q => ∃ p ys, xs = [.ref p] ∧ (SqL K H p ys ∨ SqT K H p ys) ∧ Q (.int ys.length) H
theorem rc_lenL {ds : List PyData} : RcD K (rLen K) [.list ds] (.int ds.length) := fun vs B H s h Q q => by
  cases h with
  | cons h1 h2 =>
    cases h2
    cases h1 with
    | lst ha hs => exact ⟨_, _, rfl, .inl (SqL.of (s _ _ ha)), by rw [hs.len]; exact q _ B H (Le.rfl' s) (.int _)⟩
theorem rc_lenT {ds : List PyData} : RcD K (rLen K) [.tuple ds] (.int ds.length) := fun vs B H s h Q q => by
  cases h with
  | cons h1 h2 =>
    cases h2
    cases h1 with
    | tup ha hs => exact ⟨_, _, rfl, .inr (SqT.of (s _ _ ha)), by rw [hs.len]; exact q _ B H (Le.rfl' s) (.int _)⟩
theorem r_ixL {ds : List PyData} {i : Nat} (h : ds[i]? = some z) : R2D K (rIxL K) (.list ds) (.int (i : Int)) z := fun v w B H s h1 h2 Q q => by
  cases h2
  cases h1 with
  | lst ha hs =>
    obtain ⟨u, hu, hd⟩ := hs.getD h
    exact ⟨_, _, _, u, rfl, rfl, SqL.of (s _ _ ha), atI_nat hu, q _ B H (Le.rfl' s) hd⟩
theorem r_ixT {ds : List PyData} {i : Nat} (h : ds[i]? = some z) : R2D K (rIxT K) (.tuple ds) (.int (i : Int)) z := fun v w B H s h1 h2 Q q => by
  cases h2
  cases h1 with
  | tup ha hs =>
    obtain ⟨u, hu, hd⟩ := hs.getD h
    exact ⟨_, _, _, u, rfl, rfl, SqT.of (s _ _ ha), atI_nat hu, q _ B H (Le.rfl' s) hd⟩
theorem r_ixL0 {ds : List PyData} : R2D K (rIxL K) (.list (d :: ds)) (.int 0) d := r_ixL (i := 0) rfl
theorem r_ixT0 {ds : List PyData} : R2D K (rIxT K) (.tuple (d :: ds)) (.int 0) d := r_ixT (i := 0) rfl
theorem r_ixT1 {ds : List PyData} : R2D K (rIxT K) (.tuple (x :: d :: ds)) (.int 1) d := r_ixT (i := 1) rfl
theorem r_ixT2 {ds : List PyData} : R2D K (rIxT K) (.tuple (x :: y :: d :: ds)) (.int 2) d := r_ixT (i := 2) rfl
/-- a + b of lists -/
theorem r_cat {ds es : List PyData} (h : ds.length + es.length ≤ 100000) : R2D K rCat (.list ds) (.list es) (.list (ds ++ es)) := fun v w B H s h1 h2 Q q => by
  cases h1 with
  | @lst p1 xs1 _ ha hs =>
    cases h2 with
    | @lst p2 xs2 _ hb ht =>
      refine ⟨p1, p2, xs1, xs2, rfl, rfl, s _ _ ha, s _ _ hb, by rw [hs.len, ht.len]; exact Evl.sz_of h, fun p hp => ?_⟩
      have l := Le.new (o := .lst (xs1 ++ xs2)) s hp
      exact q _ _ _ l (.lst upd_same ((hs.app ht).ex l.ek))
theorem Das.rep {B : Hp} {vs : List V} {ds : List PyData} (h : Das K B vs ds) : ∀ n : Nat, Das K B (List.replicate n vs).flatten (List.replicate n ds).flatten
  | 0 => .nil
  | n + 1 => h.app (h.rep n)
theorem r_rep {ds : List PyData} (h : 0 ≤ k ∧ k ≤ 1000 ∧ ds.length ≤ 1000) : R2D K rRep (.list ds) (.int k) (.list (List.replicate k.toNat ds).flatten) := fun v w B H s h1 h2 Q q => by
  cases h2
  cases h1 with
  | @lst p1 xs1 _ ha hs =>
    refine ⟨p1, k, xs1, rfl, rfl, s _ _ ha, by omega, by omega, ?_, fun p hp => ?_⟩
    · rw [hs.len]
      exact Nat.le_trans (Nat.mul_le_mul h.2.2 (show k.toNat ≤ 1000 by omega)) (by decide)
    · have l := Le.new (o := .lst (List.replicate k.toNat xs1).flatten) s hp
      exact q _ _ _ l (.lst upd_same ((hs.rep _).ex l.ek))
/-- all of a list of Booleans -/
theorem bools_of {B : Hp} : ∀ {vs : List V} {bs : List Bool}, Das K B vs (bs.map PyData.bool) → vs = bs.map V.bl
  | [], [], _ => rfl
  | v :: vs, b :: bs, .cons h t => by
    cases h
    rw [bools_of t]
    rfl
theorem rc_all {bs : List Bool} : RcD K (rAll K) [.list (bs.map PyData.bool)] (.bool (bs.all id)) := fun vs B H s h Q q => by
  cases h with
  | cons h1 h2 =>
    cases h2
    cases h1 with
    | lst ha hs =>
      rw [bools_of hs] at ha
      exact ⟨_, bs, rfl, SqL.of (s _ _ ha), q _ B H (Le.rfl' s) (.bl _)⟩
def flatD : PyData → Bool
  | .none => true
  | .bool _ => true
  | .int _ => true
  | .str _ => true
  | _ => false
theorem flat_of {B : Hp} {v : V} (h : Da K B v d) (hf : flatD d = true) : flatV v = true := by
  cases h <;> first | rfl | (cases hf)
theorem flats_of {B : Hp} : ∀ {vs : List V} {ds : List PyData}, Das K B vs ds → ds.all flatD = true → vs.all flatV = true
  | _, _, .nil, _ => rfl
  | _, _, .cons h t, e => by
    rw [List.all_cons, Bool.and_eq_true] at e ⊢
    exact ⟨flat_of h e.1, flats_of t e.2⟩
theorem eqV_of {B : Hp} {v w : V} (h : Da K B v x) (h' : Da K B w y) (hf : flatD x = true) (hf' : flatD y = true) : eqV v w = PyData.eqv x y := by
  cases h with
  | lst _ _ => cases hf
  | tup _ _ => cases hf
  | dic _ _ => cases hf
  | non => cases h' with
    | lst _ _ => cases hf'
    | tup _ _ => cases hf'
    | dic _ _ => cases hf'
    | _ => simp [eqV, PyData.eqv]
  | bl b => cases h' with
    | lst _ _ => cases hf'
    | tup _ _ => cases hf'
    | dic _ _ => cases hf'
    | _ => simp [eqV, PyData.eqv]
  | int b => cases h' with
    | lst _ _ => cases hf'
    | tup _ _ => cases hf'
    | dic _ _ => cases hf'
    | _ => simp [eqV, PyData.eqv]
  | str b => cases h' with
    | lst _ _ => cases hf'
    | tup _ _ => cases hf'
    | dic _ _ => cases hf'
    | _ => simp [eqV, PyData.eqv]
theorem inV_of {B : Hp} {v : V} (h : Da K B v x) (hf : flatD x = true) : ∀ {vs : List V} {ds : List PyData}, Das K B vs ds → ds.all flatD = true → inV v vs = ds.any fun e => PyData.eqv e x
  | _, _, .nil, _ => rfl
  | _, _, .cons a t, e => by
    rw [List.all_cons, Bool.and_eq_true] at e
    have ih := inV_of h hf t e.2
    unfold inV at ih ⊢
    rw [List.any_cons, List.any_cons, ih, eqV_of a h e.1 hf]
theorem r_in {ds : List PyData} (hf : flatD x = true) (ha : ds.all flatD = true) : R2D K (rIn K false) x (.list ds) (.bool (ds.any fun e => PyData.eqv e x)) := fun v w B H s h1 h2 Q q => by
  cases h2 with
  | lst hb hs =>
    refine ⟨_, _, rfl, .inl (SqL.of (s _ _ hb)), flat_of h1 hf, flats_of hs ha, ?_⟩
    show Q (.bl (inV v _)) H
    rw [inV_of h1 hf hs ha]
    exact q _ B H (Le.rfl' s) (.bl _)
theorem r_ni {ds : List PyData} (hf : flatD x = true) (ha : ds.all flatD = true) : R2D K (rIn K true) x (.list ds) (.bool (!ds.any fun e => PyData.eqv e x)) := fun v w B H s h1 h2 Q q => by
  cases h2 with
  | lst hb hs =>
    refine ⟨_, _, rfl, .inl (SqL.of (s _ _ hb)), flat_of h1 hf, flats_of hs ha, ?_⟩
    show Q (.bl (!inV v _)) H
    rw [inV_of h1 hf hs ha]
    exact q _ B H (Le.rfl' s) (.bl _)
end
/-! ### comprehensions -/
section
variable {K : Fg} {ρ : En} {te : TE} {tt : TT}
def picked (ds : List PyData) (f : PyData → Bool) (g : PyData → PyData) : List PyData := (ds.filter f).map g
theorem picked_len (ds : List PyData) (f : PyData → Bool) (g : PyData → PyData) : (picked ds f g).length ≤ ds.length := by
  unfold picked
  rw [List.length_map]
  exact List.length_filter_le f ds
theorem picked_more {ds : List PyData} {f : PyData → Bool} {g : PyData → PyData} {i : Nat} {e : PyData} (h : ds[i]? = some e) :
    picked (ds.take (i + 1)) f g = picked (ds.take i) f g ++ (if f e = true then [g e] else []) := by
  unfold picked
  rw [List.take_add_one, h]
  show List.map g (List.filter f (ds.take i ++ [e])) = _
  rw [List.filter_append, List.map_append]
  congr 1
  rw [List.filter_cons]
  split <;> rfl
/-- what stands while the list is being made: B knows nothing of it -/
def Cz (K : Fg) (B H : Hp) (D : Addr) (out : List PyData) (H' : Hp) : Prop := ∃ B' acc, Le B H B' H' ∧ B' D = none ∧ H' D = some (.lst acc) ∧ Das K B' acc out
theorem cz_start {B H : Hp} {D : Addr} (s : Ex B H) (hD : H D = none) : Cz K B H D [] (upd H D (.lst [])) :=
  ⟨B, [], ⟨Ex.new hD, Ex.refl B, s.trans (Ex.new hD), fun _ h _ => h⟩, Evl.fresh_back s hD, upd_same, .nil⟩
theorem cz_end {B H H' : Hp} {D : Addr} {out : List PyData} (hD : H D = none) (c : Cz K B H D out H') : ∃ B', Le B H B' H' ∧ Da K B' (.ref D) (.list out) := by
  obtain ⟨B', acc, l, n, e, h⟩ := c
  have k : Ex B' (upd B' D (.lst acc)) := fun a o q => by
    rw [upd_ne (ne_of_none q n)]
    exact q
  refine ⟨upd B' D (.lst acc), ⟨l.ex, l.ek.trans k, fun a o q => ?_, fun a h1 h2 => ?_⟩, .lst upd_same (h.ex k)⟩
  · by_cases z : a = D
    · subst z
      rw [upd_same] at q
      cases q
      exact e
    · rw [upd_ne z] at q
      exact l.sub a o q
  · rw [upd_ne (fun z => h2 (by rw [z]; exact hD))]
    exact l.old a h1 h2
theorem cz_turn {B H : Hp} {D : Addr} {out : List PyData} {H' : Hp} {σ' : L2.St} {ρ' : En} {b : Bool} {y : PyData} (hD : H D = none) (c : Cz K B H D out H') (sd : SD K B σ' ρ') (hl : out.length ≤ 50000) (ht : ET K tt ρ' b) (he : b = true → ED K te ρ' y) {P : Hp → Prop}
    (h1 : b = true → ∀ H2, Cz K B H D (out ++ [y]) H2 → P H2) (h0 : b = false → ∀ H2, Cz K B H D out H2 → P H2) :
    tt σ' H' fun b2 H3 => if b2 = true then te σ' H3 fun v H4 => ∃ acc, H4 D = some (.lst acc) ∧ acc.length < sizeLine ∧ P (upd H4 D (.lst (acc ++ [v]))) else P H3 := by
  obtain ⟨B', acc, l, n, e, h⟩ := c
  refine ht σ' B' H' l.sub (sd.up l.ek) _ fun B3 H3 l3 => ?_
  have n3 : B3 D = none := l3.old D n (fun z => by rw [e] at z; cases z)
  cases b with
  | false => exact h0 rfl H3 ⟨B3, acc, l.tr l3, n3, l3.ex D _ e, h.ex l3.ek⟩
  | true =>
    show te σ' H3 _
    refine he rfl σ' B3 H3 l3.sub (sd.up (l.tr l3).ek) _ fun v B4 H4 l4 d4 => ?_
    have e3 := l3.ex D _ e
    have n4 : B4 D = none := l4.old D n3 (fun z => by rw [e3] at z; cases z)
    refine ⟨acc, l4.ex D _ e3, Evl.sz_lt (by rw [h.len]; omega), h1 rfl _ ⟨B4, acc ++ [v], ⟨fun a o q => ?_, (l.tr (l3.tr l4)).ek, fun a o q => ?_, (l.tr (l3.tr l4)).old⟩, n4, upd_same, (h.ex (l3.tr l4).ek).app (.cons d4 .nil)⟩⟩
    · by_cases z : a = D
      · subst z
        rw [hD] at q
        cases q
      · rw [upd_ne z]
        exact (l.tr (l3.tr l4)).ex a o q
    · rw [upd_ne (ne_of_none q n4)]
      exact l4.sub a o q
theorem wipe_put {σ : L2.St} {vs : List Nat} {j : Nat} {x : V} (h : ∀ x, L2.wipe ((L2.wipe σ vs).set j (some x)) vs = L2.wipe σ vs) : L2.wipe ((L2.wipe σ vs).set j (some x)) vs = L2.wipe σ vs := h x
theorem wipe_set {α : Type} : ∀ (vs : List Nat) (l : List (Option α)) (j : Nat) (o : Option α) (w : List (Option α) → List Nat → List (Option α)) (hw0 : ∀ l, w l [] = l) (hw1 : ∀ l v vs, w l (v :: vs) = (w l vs).set v none), j ∈ vs → w ((w l vs).set j o) vs = w (w l vs) vs
  | v :: vs, l, j, o, w, h0, h1, hj => by
    rw [h1, h1 ((w l (v :: vs)))]
    by_cases e : j ∈ vs
    · have ih := fun l' => wipe_set vs l' j o w h0 h1 e
      have c : ∀ (l' : List (Option α)) (i : Nat) (q : Option α) (us : List Nat), (i ∉ us) → w (l'.set i q) us = (w l' us).set i q := by
        intro l' i q us
        induction us with
        | nil =>
          intro _
          rw [h0, h0]
        | cons u us ihu =>
          intro hn
          rw [List.mem_cons, not_or] at hn
          rw [h1, h1, ihu hn.2, List.set_comm _ _ hn.1]
      by_cases e2 : v ∈ vs
      · have d : ∀ (l' : List (Option α)) (q : Option α) (us : List Nat), v ∈ us → w (l'.set v q) us = w l' us := by
          intro l' q us
          induction us with
          | nil => exact fun z => nomatch z
          | cons u us ihu =>
            intro hn
            rw [h1, h1]
            by_cases e3 : v ∈ us
            · rw [ihu e3]
            · rcases List.mem_cons.mp hn with z | z
              · subst z
                rw [c _ _ _ _ e3, List.set_set]
              · exact (e3 z).elim
        have d' : ∀ (l' : List (Option α)) (q : Option α) (us : List Nat), j ∈ us → w (l'.set j q) us = w l' us := by
          intro l' q us
          induction us with
          | nil => exact fun z => nomatch z
          | cons u us ihu =>
            intro hn
            rw [h1, h1]
            by_cases e3 : j ∈ us
            · rw [ihu e3]
            · rcases List.mem_cons.mp hn with z | z
              · subst z
                rw [c _ _ _ _ e3, List.set_set]
              · exact (e3 z).elim
        rw [d' _ _ _ e]
      · have d' : ∀ (l' : List (Option α)) (q : Option α) (us : List Nat), j ∈ us → w (l'.set j q) us = w l' us := by
          intro l' q us
          induction us with
          | nil => exact fun z => nomatch z
          | cons u us ihu =>
            intro hn
            rw [h1, h1]
            by_cases e3 : j ∈ us
            · rw [ihu e3]
            · rcases List.mem_cons.mp hn with z | z
              · subst z
                rw [c _ _ _ _ e3, List.set_set]
              · exact (e3 z).elim
        rw [d' _ _ _ e]
    · have ev : j = v := (List.mem_cons.mp hj).resolve_right e
      subst ev
      have c : ∀ (l' : List (Option α)) (i : Nat) (q : Option α) (us : List Nat), (i ∉ us) → w (l'.set i q) us = (w l' us).set i q := by
        intro l' i q us
        induction us with
        | nil =>
          intro _
          rw [h0, h0]
        | cons u us ihu =>
          intro hn
          rw [List.mem_cons, not_or] at hn
          rw [h1, h1, ihu hn.2, List.set_comm _ _ hn.1]
      rw [c _ _ _ _ e, List.set_set]
theorem wipe_none {σ : L2.St} : ∀ vs : List Nat, L2.wipe (L2.wipe σ vs) vs = L2.wipe σ vs := by
  have c : ∀ (us : List Nat) (l : L2.St) (i : Nat), L2.wipe (l.set i none) us = (L2.wipe l us).set i none := by
    intro us
    induction us with
    | nil => exact fun _ _ => rfl
    | cons u us ih =>
      intro l i
      show (L2.wipe (l.set i none) us).set u none = ((L2.wipe l us).set u none).set i none
      rw [ih]
      by_cases e : i = u
      · rw [e]
      · rw [List.set_comm _ _ e]
  intro vs
  induction vs with
  | nil => rfl
  | cons v vs ih =>
    show (L2.wipe ((L2.wipe σ vs).set v none) vs).set v none = (L2.wipe σ vs).set v none
    rw [c, ih, List.set_set]
/-- [e for x in xs if t] over a list -/
theorem ed_lcL {tl : TE} {j : Nat} {vs : List Nat} {ds : List PyData} (f : PyData → Bool) (g : PyData → PyData) (h : ED K tl ρ (.list ds)) (hj : j ∈ vs) (hz : ds.length ≤ 40000)
    (ht : ∀ d, d ∈ ds → ET K tt ((wipeD ρ vs).set j (some d)) (f d)) (he : ∀ d, d ∈ ds → f d = true → ED K te ((wipeD ρ vs).set j (some d)) (g d)) :
    ED K (tLc (iList K tl) (gName j) tt te vs) ρ (.list (picked ds f g)) := fun σ B H s sd Q q =>
  h σ B H s sd _ fun v B1 H1 l1 d1 => by
    cases d1 with
    | @lst p xs _ ha hs =>
      have hx : SqL K H1 p xs := SqL.of (l1.sub _ _ ha)
      refine ⟨p, rfl, ⟨xs, hx⟩, fun D hD => ?_⟩
      refine lc_list (K := K) (a := p) (xs := xs) (fun i H' => Cz K B1 H1 D (picked (ds.take i) f g) H') (cz_start l1.sub hD) (fun i H' _ ⟨B', acc, l, _⟩ => SqL.of (l.ex _ _ (l1.sub _ _ ha))) (fun i x H' hi c => ?_) (fun H' c => ?_)
      · obtain ⟨e, he1, hd⟩ := hs.get hi
        have me : e ∈ ds := List.mem_of_getElem? he1
        refine ⟨?_, ?_⟩
        · exact wipe_set vs σ j (some x) L2.wipe (fun _ => rfl) (fun _ _ _ => rfl) hj |>.trans (wipe_none vs)
        · refine cz_turn hD c ((((sd.up l1.ek).wipe vs)).put j hd) ?_ (ht e me) (he e me) (fun hf H2 c2 => ?_) (fun hf H2 c2 => ?_)
          · have z1 := picked_len (ds.take i) f g
            have z2 : (ds.take i).length ≤ ds.length := by
              rw [List.length_take]
              omega
            omega
          · show Cz K B1 H1 D (picked (ds.take (i + 1)) f g) H2
            rw [picked_more he1, if_pos hf]
            exact c2
          · show Cz K B1 H1 D (picked (ds.take (i + 1)) f g) H2
            rw [picked_more he1, if_neg (by rw [hf]; exact Bool.false_ne_true), List.append_nil]
            exact c2
      · have e : ds.take xs.length = ds := by
          rw [hs.len]
          exact List.take_length
        rw [e] at c
        obtain ⟨B', l, hd⟩ := cz_end hD c
        exact q _ _ _ (l1.tr l) hd
/-- [e for x in range(lo, lo + n) if t] -/
theorem lc_rngD {σ : L2.St} {B1 H1 : Hp} {j : Nat} {vs : List Nat} {lo : Int} {n : Nat} (f : PyData → Bool) (g : PyData → PyData) (s : Ex B1 H1) (sd : SD K B1 σ ρ) (hj : j ∈ vs) (hz : n ≤ 40000)
    (ht : ∀ d, d ∈ rgD lo n → ET K tt ((wipeD ρ vs).set j (some d)) (f d)) (he : ∀ d, d ∈ rgD lo n → f d = true → ED K te ((wipeD ρ vs).set j (some d)) (g d)) {Q : VK}
    (q : ∀ v B' H', Le B1 H1 B' H' → Da K B' v (.list (picked (rgD lo n) f g)) → Q v H') : ∀ D, H1 D = none → ∃ W : Nat → Nat → Hp → Prop, (∃ m, W 0 m (upd H1 D (.lst []))) ∧ ∀ i m H, W i m H →
      ((Itr lo n).stop i H ∧ Q (.ref D) H) ∨ ((Itr lo n).go i H ∧ ∃ Nx : Hp → Prop, (∀ H', Nx H' → ∃ m', m' < m ∧ W (i + 1) m' H') ∧ ∀ x H', (Itr lo n).yld i H x H' → gName j x (L2.wipe σ vs) H' fun σ2 H2 => L2.wipe σ2 vs = L2.wipe σ vs ∧ tt σ2 H2 fun b H3 =>
        if b = true then te σ2 H3 fun y H4 => ∃ acc, H4 D = some (.lst acc) ∧ acc.length < sizeLine ∧ Nx (upd H4 D (.lst (acc ++ [y]))) else Nx H3) := fun D hD => by
  refine lc_range (lo := lo) (n := n) (fun i H' => Cz K B1 H1 D (picked ((rgD lo n).take i) f g) H') (cz_start s hD) (fun i H' hi c => ?_) (fun H' c => ?_)
  · have he1 := rgD_get (lo := lo) hi
    have me : PyData.int (lo + (i : Int)) ∈ rgD lo n := List.mem_of_getElem? he1
    refine ⟨?_, ?_⟩
    · exact wipe_set vs σ j _ L2.wipe (fun _ => rfl) (fun _ _ _ => rfl) hj |>.trans (wipe_none vs)
    · refine cz_turn hD c ((sd.wipe vs).put j (.int _)) ?_ (ht _ me) (he _ me) (fun hf H2 c2 => ?_) (fun hf H2 c2 => ?_)
      · have z1 := picked_len ((rgD lo n).take i) f g
        have z2 : ((rgD lo n).take i).length ≤ n := by
          rw [List.length_take, rgD_len]
          omega
        omega
      · show Cz K B1 H1 D (picked ((rgD lo n).take (i + 1)) f g) H2
        rw [picked_more he1, if_pos hf]
        exact c2
      · show Cz K B1 H1 D (picked ((rgD lo n).take (i + 1)) f g) H2
        rw [picked_more he1, if_neg (by rw [hf]; exact Bool.false_ne_true), List.append_nil]
        exact c2
  · have e : (rgD lo n).take n = rgD lo n := List.take_of_length_le (by rw [rgD_len]; exact Nat.le_refl _)
    rw [e] at c
    obtain ⟨B', l, hd⟩ := cz_end hD c
    exact q _ _ _ l hd
theorem ed_lcR1 {tl : TA} {j : Nat} {vs : List Nat} {n : Int} (f : PyData → Bool) (g : PyData → PyData) (h : EA K tl ρ [.int n]) (hn : -40000 ≤ n ∧ n ≤ 40000) (hj : j ∈ vs)
    (ht : ∀ d, d ∈ rgD 0 n.toNat → ET K tt ((wipeD ρ vs).set j (some d)) (f d)) (he : ∀ d, d ∈ rgD 0 n.toNat → f d = true → ED K te ((wipeD ρ vs).set j (some d)) (g d)) :
    ED K (tLc (iRng1 tl) (gName j) tt te vs) ρ (.list (picked (rgD 0 n.toNat) f g)) := fun σ B H s sd Q q =>
  h σ B H s sd _ fun us B1 H1 l1 d1 => by
    cases d1 with
    | cons h1 h2 =>
      cases h1
      cases h2
      exact ⟨n, rfl, by omega, by omega, lc_rngD f g l1.sub (sd.up l1.ek) hj (by omega) ht he fun v B' H' l d => q v B' H' (l1.tr l) d⟩
theorem ed_lcR2 {tl : TA} {j : Nat} {vs : List Nat} {lo n : Int} (f : PyData → Bool) (g : PyData → PyData) (h : EA K tl ρ [.int lo, .int n]) (hn : -40000 ≤ n ∧ n ≤ 40000 ∧ 0 ≤ lo ∧ lo ≤ 40000) (hj : j ∈ vs)
    (ht : ∀ d, d ∈ rgD lo (n - lo).toNat → ET K tt ((wipeD ρ vs).set j (some d)) (f d)) (he : ∀ d, d ∈ rgD lo (n - lo).toNat → f d = true → ED K te ((wipeD ρ vs).set j (some d)) (g d)) :
    ED K (tLc (iRng2 tl) (gName j) tt te vs) ρ (.list (picked (rgD lo (n - lo).toNat) f g)) := fun σ B H s sd Q q =>
  h σ B H s sd _ fun us B1 H1 l1 d1 => by
    cases d1 with
    | cons h1 h2 =>
      cases h1
      cases h2 with
      | cons h2 h3 =>
        cases h2
        cases h3
        exact ⟨lo, n, rfl, ⟨by omega, by omega, by omega, by omega⟩, lc_rngD f g l1.sub (sd.up l1.ek) hj (by omega) ht he fun v B' H' l d => q v B' H' (l1.tr l) d⟩
theorem et_yes {ρ : En} : ET K tYes ρ true := fun σ B H s sd Q q => q B H (Le.rfl' s)
end
end TD

set_option maxHeartbeats 4000000
/-! # G5: defs that make data of data -/
namespace TD
open PySem PySem.Spec PyProof.Rows L2
open Evl (Ex)
section
variable (P : Program) (w : World) (K : Fg) (mg : Str → Option Value) (base : Heap)
/-- the def x, as it is called: its parameters, how deep it calls, its promise -/
def Fc (x : Str) (ps : List Str) (k : Nat) (sp : Sp) : Prop :=
  ∃ (f : Addr) (fd : FuncData), mg x = some (.ref f) ∧ PySem.W.keepIn K (.ref f) = true ∧ Binds K fd ps [] ∧ FnG P w K mg base CX0 k f fd ps sp
/-- the def x stands behind the top as it is written -/
def At (x : Str) (st : Stmt) : Prop := ∃ (f : Addr) (fd : FuncData), Fun K x x st f fd ∧ mg x = some (.ref f)
end
section
variable {P : Program} {w : World} {K : Fg} {mg : Str → Option Value} {base : Heap} {x : Str} {ps N : List Str} {k : Nat} {st : Stmt}
/-- the body comes to d: by a return, or at its end to None -/
def XR (K : Fg) (t : TS) (ρ : En) (d : PyData) : Prop := XS K t ρ (.ret d) ∨ (d = .none ∧ ∃ ρ', XS K t ρ (.nx ρ'))
theorem xr_ret {t : TS} {ρ : En} {d : PyData} (h : XS K t ρ (.ret d)) : XR K t ρ d := .inl h
theorem xr_end {t : TS} {ρ ρ' : En} (h : XS K t ρ (.nx ρ')) : XR K t ρ .none := .inr ⟨rfl, ρ', h⟩
def enOf (N : List Str) (ds : List PyData) : En := ds.map some ++ List.replicate (N.length - ds.length) none
theorem sd_start {B : Hp} {N : List Str} {vs : List V} {ds : List PyData} (h : Das K B vs ds) : SD K B (L2.start N vs) (enOf N ds) := by
  have hl := h.len
  refine ⟨by unfold L2.start enOf; simp [hl], fun i d e => ?_⟩
  unfold enOf at e
  by_cases hi : i < ds.length
  · rw [List.getElem?_append_left (by rw [List.length_map]; exact hi), List.getElem?_map] at e
    obtain ⟨d2, e1, e2⟩ := Option.map_eq_some_iff.mp e
    cases e2
    obtain ⟨v, hv, hd⟩ := h.getD e1
    refine ⟨v, ?_, hd⟩
    unfold L2.start
    rw [List.getElem?_append_left (by rw [List.length_map, hl]; exact hi), List.getElem?_map, hv]
    rfl
  · rw [List.getElem?_append_right (by rw [List.length_map]; omega), List.getElem?_replicate] at e
    split at e <;> cases e
theorem sp_len {R : List PyData → PyData → Prop} (hl : ∀ ds d, R ds d → ds.length = ps.length) : ∀ vs H Q E, SpR K R vs H Q E → vs.length = ps.length := fun vs H Q E ⟨B, ds, d, _, h, r, _⟩ => h.len.trans (hl ds d r)
theorem fc_mk {R : List PyData → PyData → Prop} (a : At K mg x st) (S : FnScope N ps (defScope st))
    (hb : ∀ (kV doc pm : Value) (an : Option Addr) (cdv ct : Value) (us : List Value), us.length = ps.length → bindArgs (PySem.W.fnOf x x (defArgs st) (defBody st) (defScope st) .none kV doc pm an cdv ct) ⟨us, []⟩ = pure (ps.zip us))
    (hl : ∀ ds d, R ds d → ds.length = ps.length)
    (body : ∀ (f : Addr) (cdv : Value) (A : Around) (outer : List Env) (s : Shared) (H : Hp) (E : XK), A.guards = some [] → Room k (A.deeper (envOfC x (defScope st) s.heap.objs.size f cdv)) →
      ∃ t, PSs (cxOf CX0 P w K mg base N x (defScope st) f cdv A outer s H E).nox (defBody st) t ∧ ∀ ds d, R ds d → XR K t (enOf N ds) d) : Fc P w K mg base x ps (k + 1) (SpR K R) := by
  obtain ⟨f, fd, F, hm⟩ := a
  refine ⟨f, fd, hm, F.kp, F.binds hb, fnG F S (sp_len hl) ?_⟩
  intro cdv A outer s H vs Q E gu hr ⟨B, ds, d, sx, hd, r, q⟩
  obtain ⟨t, ht, hx⟩ := body f cdv A outer s H E gu hr
  refine ⟨t, ht.nox, ?_⟩
  have sd := sd_start (N := N) hd
  rcases hx ds d r with h | ⟨rfl, ρ', h⟩
  · exact h _ B H _ sx sd q
  · exact h _ B H _ sx sd fun σ' B' H' l _ => q _ B' H' l .non
end
section
variable {X : Cx} {x : Str} {ps ks : List Str} {k : Nat} {sp : Sp} {E : XK} {p pos : Pos} {e : Expr} {es : List Expr} {t tk : TA} {kws : List Keyword}
/-- f(a, ..) -/
theorem pe_f (c : Fc X.prog X.w X.K X.mg X.base x ps k sp) (gu : X.A.guards = some []) (hr : Room k X.A) (hg : Gl X x) (ha : PA X (e :: es) t)
    (d1 : (x == ("__debug__" : Str)) = false := by decide)
    (d2 : starEach (e :: es) X.env = (false, eval e X.env) :: starEach es X.env := by rfl)
    (d3 : (backTo pos (starEach es X.env)).any (·.1) = false := by rfl) :
    PE X (.Call (.Name x p) (e :: es) [] pos) (tCall sp [] E0 t) := by
  obtain ⟨f, fd, hm, kp, hb, F⟩ := c
  exact pe_g F gu hr hg hm kp hb pass0 ha d1 d2 d3
theorem pe_f0 (c : Fc X.prog X.w X.K X.mg X.base x [] k sp) (gu : X.A.guards = some []) (hr : Room k X.A) (hg : Gl X x) (d1 : (x == ("__debug__" : Str)) = false := by decide) :
    PE X (.Call (.Name x p) [] [] pos) (tCall sp [] E0 tNil) := by
  obtain ⟨f, fd, hm, kp, hb, F⟩ := c
  exact pe_g0 F gu hr hg hm kp hb pass0 d1
end
end TD

set_option maxHeartbeats 4000000
/-! # G6: names unpacked, all of a comprehension -/
namespace TD
open PySem PySem.Spec PyProof.Rows L2
open Evl (Ex)
section
variable {K : Fg} {ρ ρ' : En} {te : TE} {x y z d : PyData}
theorem Das.inv1 {B : Hp} {vs : List V} {ds : List PyData} (h : Das K B vs (x :: ds)) : ∃ v r, vs = v :: r ∧ Da K B v x ∧ Das K B r ds := by
  cases h with
  | cons a t => exact ⟨_, _, rfl, a, t⟩
def TGs_ (K : Fg) (g : TGs) (ds : List PyData) (ρ ρ' : En) : Prop := ∀ σ vs B H, Ex B H → SD K B σ ρ → Das K B vs ds → ∀ Q : L2.St → Hp → Prop, (∀ σ', SD K B σ' ρ' → Q σ' H) → g vs σ H Q
theorem tgs_nil : TGs_ K gNil [] ρ ρ := fun σ vs B H s sd h Q q => by
  cases h
  exact ⟨rfl, q σ sd⟩
theorem tgs_cons {g : TG} {gs : TGs} {ds : List PyData} {ρ1 : En} (h1 : TG_ K g d ρ ρ1) (h2 : TGs_ K gs ds ρ1 ρ') : TGs_ K (gCons g gs) (d :: ds) ρ ρ' := fun σ vs B H s sd h Q q => by
  obtain ⟨v, r, rfl, a, t⟩ := h.inv1
  exact ⟨v, r, rfl, h1 σ v B H s sd a _ fun σ' s' => h2 σ' r B H s s' t Q q⟩
theorem tg_tup {gs : TGs} {ds : List PyData} {n : Nat} (h : TGs_ K gs ds ρ ρ') (hn : ds.length = n := by rfl) : TG_ K (gTup K n gs) (.tuple ds) ρ ρ' := fun σ v B H s sd hd Q q => by
  cases hd with
  | tup ha hs => exact ⟨_, _, rfl, SqT.of (s _ _ ha), hs.len.trans hn, h σ _ B H s sd hs Q q⟩
theorem xs_par {i j : Nat} {ta : TA} (h : EA K ta ρ [x, y]) : XS K (tPar i j ta) ρ (.nx ((ρ.set i (some x)).set j (some y))) := fun σ B H D s sd m =>
  h σ B H s sd _ fun vs B1 H1 l1 d1 => by
    obtain ⟨v, r, rfl, a, t⟩ := d1.inv1
    obtain ⟨u, r2, rfl, a2, t2⟩ := t.inv1
    cases t2
    exact ⟨v, u, rfl, m _ B1 H1 l1 (((sd.up l1.ek).put i a).put j a2)⟩
theorem picked_all (ds : List PyData) (g : PyData → PyData) : picked ds (fun _ => true) g = ds.map g := by
  unfold picked
  rw [List.filter_eq_self.mpr (fun _ _ => rfl)]
/-- all([t for x in xs]) -/
theorem ed_allL {tl : TE} {j : Nat} {vs : List Nat} {ds : List PyData} (p : PyData → Bool) (h : ED K tl ρ (.list ds)) (hj : j ∈ vs) (hz : ds.length ≤ 40000)
    (he : ∀ d, d ∈ ds → ED K te ((wipeD ρ vs).set j (some d)) (.bool (p d))) :
    ED K (tCB (rAll K) (tCons (tLc (iList K tl) (gName j) tYes te vs) tNil)) ρ (.bool (ds.all p)) := by
  have h1 := ed_lcL (te := te) (tt := tYes) (fun _ => true) (fun d => .bool (p d)) h hj hz (fun _ _ => et_yes) (fun d m _ => he d m)
  rw [picked_all] at h1
  have e : (ds.map fun d => PyData.bool (p d)) = (ds.map p).map PyData.bool := by rw [List.map_map]; rfl
  have e2 : ds.all p = (ds.map p).all id := by rw [List.all_map]; rfl
  rw [e] at h1
  rw [e2]
  exact ed_cb (ea_cons h1 ea_nil) rc_all
end
end TD

set_option maxHeartbeats 4000000
/-! # G7: what is drawn: a generator's list stands in one slot and turns; nothing known leans on it -/
namespace TD
open PySem PySem.Spec PyProof.Rows L2
open Evl (Ex)
/-- at g a generator that may be asked n times more -/
def GenAt (g : Addr) (n : Nat) (H : Hp) : Prop := ∃ a b c : Int, H g = some (.lst [.int a, .int b, .int c]) ∧ 0 ≤ a ∧ (0 ≤ b ∧ b < 2147483647) ∧ 0 ≤ c ∧ c + (n : Int) ≤ 1000000000
theorem GenAt.less {g : Addr} {n m : Nat} {H : Hp} (h : GenAt g n H) (e : m ≤ n) : GenAt g m H := by
  obtain ⟨a, b, c, h1, h2, h3, h4, h5⟩ := h
  exact ⟨a, b, c, h1, h2, h3, h4, by omega⟩
theorem GenAt.ex {g : Addr} {n : Nat} {H H' : Hp} (h : GenAt g n H) (e : Ex H H') : GenAt g n H' := by
  obtain ⟨a, b, c, h1, r⟩ := h
  exact ⟨a, b, c, e g _ h1, r⟩
theorem GenAt.some {g : Addr} {n : Nat} {H : Hp} (h : GenAt g n H) : H g ≠ none := by
  obtain ⟨a, b, c, h1, r⟩ := h
  rw [h1]
  exact fun z => nomatch z
structure LeG (g : Addr) (B H B' H' : Hp) : Prop where
  ex : ∀ a o, a ≠ g → H a = some o → H' a = some o
  ek : Ex B B'
  sub : Ex B' H'
  old : ∀ a, B a = none → H a ≠ none → B' a = none
theorem LeG.of {g : Addr} {B H B' H' : Hp} (l : Le B H B' H') : LeG g B H B' H' := ⟨fun a o _ => l.ex a o, l.ek, l.sub, l.old⟩
theorem LeG.tr {g : Addr} {B H B1 H1 B2 H2 : Hp} (a : LeG g B H B1 H1) (b : LeG g B1 H1 B2 H2) (s : H1 g ≠ none) : LeG g B H B2 H2 :=
  ⟨fun x o n h => b.ex x o n (a.ex x o n h), a.ek.trans b.ek, b.sub, fun x h1 h2 => b.old x (a.old x h1 h2) (fun z => by
    by_cases q : x = g
    · subst q
      exact s z
    · cases q2 : H x with
      | none => exact h2 q2
      | some o =>
        rw [a.ex x o q q2] at z
        cases z)⟩
section
variable (K : Fg)
def EG (j : Nat) (te : TE) (ρ : En) (n : Nat) (P : PyData → Prop) (m : Nat) : Prop := ∀ g σ B H, Ex B H → B g = none → GenAt g n H → σ[j]? = some (some (.ref g)) → SD K B σ ρ →
  ∀ Q : VK, (∀ v d B' H', LeG g B H B' H' → GenAt g m H' → Da K B' v d → P d → Q v H') → te σ H Q
def EGA (j : Nat) (ta : TA) (ρ : En) (n : Nat) (P : List PyData → Prop) (m : Nat) : Prop := ∀ g σ B H, Ex B H → B g = none → GenAt g n H → σ[j]? = some (some (.ref g)) → SD K B σ ρ →
  ∀ Q : List V → Hp → Prop, (∀ vs ds B' H', LeG g B H B' H' → GenAt g m H' → Das K B' vs ds → P ds → Q vs H') → ta σ H Q
def EGT (j : Nat) (tt : TT) (ρ : En) (n : Nat) (P : Bool → Prop) (m : Nat) : Prop := ∀ g σ B H, Ex B H → B g = none → GenAt g n H → σ[j]? = some (some (.ref g)) → SD K B σ ρ →
  ∀ Q : Bool → Hp → Prop, (∀ b B' H', LeG g B H B' H' → GenAt g m H' → P b → Q b H') → tt σ H Q
/-- the promise of a def that draws: at most c times; what it may be asked, what it then hands back -/
def SpG (c : Nat) (Pre : List PyData → Prop) (R : List PyData → PyData → Prop) : Sp := fun vs H Q _ => ∃ g ws B ds n, vs = .ref g :: ws ∧ Ex B H ∧ B g = none ∧ GenAt g (n + c) H ∧ Das K B ws ds ∧ Pre ds ∧
  ∀ v d B' H', LeG g B H B' H' → GenAt g n H' → Da K B' v d → R ds d → Q v H'
end
section
variable {K : Fg} {j : Nat} {ρ ρ' : En} {ta tb te : TE} {tt : TT} {n m k : Nat} {P P1 P2 P3 : PyData → Prop}
theorem LeG.g {g : Addr} {B H B' H' : Hp} (l : LeG g B H B' H') (h : B g = none) (s : H g ≠ none) : B' g = none := l.old g h s
theorem eg_of {d : PyData} (h : ED K te ρ d) : EG K j te ρ n (fun x => x = d) n := fun g σ B H s hg ga hs sd Q q => h σ B H s sd Q fun v B' H' l hd => q v d B' H' (LeG.of l) (ga.ex l.ex) hd rfl
theorem egt_of {b : Bool} (h : ET K tt ρ b) : EGT K j tt ρ n (fun x => x = b) n := fun g σ B H s hg ga hs sd Q q => h σ B H s sd Q fun B' H' l => q b B' H' (LeG.of l) (ga.ex l.ex) rfl
theorem ega_of {ta : TA} {ds : List PyData} (h : EA K ta ρ ds) : EGA K j ta ρ n (fun x => x = ds) n := fun g σ B H s hg ga hs sd Q q => h σ B H s sd Q fun v B' H' l hd => q v ds B' H' (LeG.of l) (ga.ex l.ex) hd rfl
theorem eg_to (h : EG K j te ρ n P m) (hp : ∀ d, P d → P1 d) : EG K j te ρ n P1 m := fun g σ B H s hg ga hs sd Q q => h g σ B H s hg ga hs sd Q fun v d B' H' l g2 hd p => q v d B' H' l g2 hd (hp d p)
theorem eg_less (h : EG K j te ρ n P m) (e : k ≤ m) : EG K j te ρ n P k := fun g σ B H s hg ga hs sd Q q => h g σ B H s hg ga hs sd Q fun v d B' H' l g2 hd p => q v d B' H' l (g2.less e) hd p
theorem eg_more (h : EG K j te ρ n P m) (e : n ≤ k) : EG K j te ρ k P m := fun g σ B H s hg ga hs sd Q q => h g σ B H s hg (ga.less e) hs sd Q q
theorem ega_nil : EGA K j tNil ρ n (fun ds => ds = []) n := ega_of ea_nil
theorem ega_cons {tr : TA} {Ps : List PyData → Prop} (h : EG K j te ρ n P m) (hr : EGA K j tr ρ m Ps k) : EGA K j (tCons te tr) ρ n (fun ds => ∃ d r, ds = d :: r ∧ P d ∧ Ps r) k := fun g σ B H s hg ga hs sd Q q =>
  h g σ B H s hg ga hs sd _ fun v d B1 H1 l1 g1 d1 p1 => hr g σ B1 H1 l1.sub (l1.g hg ga.some) g1 hs (sd.up l1.ek) _ fun vs ds B2 H2 l2 g2 d2 p2 =>
    q (v :: vs) (d :: ds) B2 H2 (l1.tr l2 g1.some) g2 (.cons (d1.ex l2.ek) d2) ⟨d, ds, rfl, p1, p2⟩
theorem eg_op {r : R2} (h1 : EG K j ta ρ n P1 m) (h2 : EG K j tb ρ m P2 k) (hr : ∀ x y, P1 x → P2 y → ∃ z, R2D K r x y z ∧ P z) : EG K j (tOp r ta tb) ρ n P k := fun g σ B H s hg ga hs sd Q q =>
  h1 g σ B H s hg ga hs sd _ fun v x B1 H1 l1 g1 d1 p1 => h2 g σ B1 H1 l1.sub (l1.g hg ga.some) g1 hs (sd.up l1.ek) _ fun u y B2 H2 l2 g2 d2 p2 => by
    obtain ⟨z, hz, pz⟩ := hr x y p1 p2
    exact hz v u B2 H2 l2.sub (d1.ex l2.ek) d2 Q fun t B3 H3 l3 d3 => q t z B3 H3 ((l1.tr l2 g1.some).tr (LeG.of l3) g2.some) (g2.ex l3.ex) d3 pz
theorem egt_test (h : EG K j te ρ n P m) {Pb : Bool → Prop} (hp : ∀ d, P d → ∃ b, d = .bool b ∧ Pb b) : EGT K j (tTest te) ρ n Pb m := fun g σ B H s hg ga hs sd Q q =>
  h g σ B H s hg ga hs sd _ fun v d B1 H1 l1 g1 d1 p1 => by
    obtain ⟨b, rfl, pb⟩ := hp d p1
    cases d1
    exact ⟨b, rfl, q b B1 H1 l1 g1 pb⟩
theorem eg_call {c : Nat} {Pre : List PyData → Prop} {R : List PyData → PyData → Prop} {tl : TA} {E : XK} {Ps : List PyData → Prop} (h : EGA K j tl ρ n Ps (m + c)) (hp : ∀ ds, Ps ds → Pre ds) :
    EG K j (tCall (SpG K c Pre R) [] E (tCons (tVar j) tl)) ρ n (fun d => ∃ ds, Ps ds ∧ R ds d) m := fun g σ B H s hg ga hs sd Q q => by
  refine ⟨.ref g, hs, ?_⟩
  refine h g σ B H s hg ga hs sd _ fun vs ds B1 H1 l1 g1 d1 p1 => ?_
  show SpG K c Pre R ((.ref g :: vs) ++ []) H1 Q E
  rw [List.append_nil]
  exact ⟨g, vs, B1, ds, m, rfl, l1.sub, l1.g hg ga.some, g1, d1, hp ds p1, fun v d B2 H2 l2 g2 d2 r2 => q v d B2 H2 (l1.tr l2 g1.some) g2 d2 ⟨ds, p1, r2⟩⟩
theorem leG_new {g : Addr} {B H : Hp} {p : Addr} {o : HO} (s : Ex B H) (h : H p = none) : LeG g B H (upd B p o) (upd H p o) := LeG.of (Le.new s h)
theorem eg_tup {tl : TA} {Ps : List PyData → Prop} (h : EGA K j tl ρ n Ps m) (hl : ∀ ds, Ps ds → ds.length ≤ 100000) : EG K j (tTup tl) ρ n (fun d => ∃ ds, d = .tuple ds ∧ Ps ds) m := fun g σ B H s hg ga hs sd Q q =>
  h g σ B H s hg ga hs sd _ fun vs ds B1 H1 l1 g1 d1 p1 => ⟨das_big d1 (hl ds p1), fun p hp => q _ (.tuple ds) _ _ (l1.tr (leG_new l1.sub hp) g1.some) (g1.ex (Ex.new hp)) (.tup upd_same (d1.ex (Le.new (o := .tup vs) l1.sub hp).ek)) ⟨ds, rfl, p1⟩⟩
theorem eg_lst {tl : TA} {Ps : List PyData → Prop} (h : EGA K j tl ρ n Ps m) (hl : ∀ ds, Ps ds → ds.length ≤ 100000) : EG K j (tLst tl) ρ n (fun d => ∃ ds, d = .list ds ∧ Ps ds) m := fun g σ B H s hg ga hs sd Q q =>
  h g σ B H s hg ga hs sd _ fun vs ds B1 H1 l1 g1 d1 p1 => ⟨das_big d1 (hl ds p1), fun p hp => q _ (.list ds) _ _ (l1.tr (leG_new l1.sub hp) g1.some) (g1.ex (Ex.new hp)) (.lst upd_same (d1.ex (Le.new (o := .lst vs) l1.sub hp).ek)) ⟨ds, rfl, p1⟩⟩
/-! ### a comprehension over range(n) that draws: J i out holds behind i turns -/
def Cg (K : Fg) (g : Addr) (B H : Hp) (D : Addr) (out : List PyData) (H' : Hp) : Prop := ∃ B' acc, LeG g B H B' H' ∧ B' D = none ∧ H' D = some (.lst acc) ∧ Das K B' acc out
theorem wipe_keep {σ : L2.St} {j : Nat} : ∀ {vs : List Nat}, j ∉ vs → (L2.wipe σ vs)[j]? = σ[j]?
  | [], _ => rfl
  | v :: vs, h => by
    rw [List.mem_cons, not_or] at h
    show ((L2.wipe σ vs).set v none)[j]? = _
    rw [List.getElem?_set_ne (Ne.symm h.1)]
    exact wipe_keep h.2
theorem eg_lcR1 {tl : TA} {i0 : Nat} {vs : List Nat} {N c c2 : Nat} {Pn : List PyData → Prop} (J : Nat → List PyData → Prop) {Pt : Nat → Bool → Prop} {Pe : Nat → PyData → Prop}
    (h : EGA K j tl ρ n Pn (m + N * c)) (hn : ∀ ds, Pn ds → ∃ t : Nat, ds = [.int t] ∧ t ≤ N) (hN : N ≤ 40000) (hi : i0 ∈ vs) (hj : j ∉ vs)
    (ht : ∀ (i k : Nat), i < N → EGT K j tt ((wipeD ρ vs).set i0 (some (.int (i : Int)))) (k + c) (Pt i) (k + c2))
    (he : ∀ (i k : Nat), i < N → EG K j te ((wipeD ρ vs).set i0 (some (.int (i : Int)))) (k + c2) (Pe i) k)
    (j0 : J 0 []) (j1 : ∀ i out d, i < N → out.length ≤ i → J i out → Pt i true → Pe i d → J (i + 1) (out ++ [d])) (j2 : ∀ i out, i < N → J i out → Pt i false → J (i + 1) out) :
    EG K j (tLc (iRng1 tl) (gName i0) tt te vs) ρ n (fun d => ∃ t out, t ≤ N ∧ Pn [.int (t : Nat)] ∧ d = .list out ∧ out.length ≤ t ∧ J t out) m := fun g σ B H s hg ga hs sd Q q =>
  h g σ B H s hg ga hs sd _ fun us ds B1 H1 l1 g1 d1 p1 => by
    obtain ⟨t, rfl, htN⟩ := hn ds p1
    cases d1 with
    | cons h1 h2 =>
      cases h1
      cases h2
      refine ⟨(t : Int), rfl, by omega, by omega, fun D hD => ?_⟩
      have et : ((t : Int)).toNat = t := Int.toNat_natCast t
      have hDg : D ≠ g := fun z => by
        rw [z] at hD
        exact g1.some hD
      have hg1 := l1.g hg ga.some
      rw [et]
      refine lc_range (lo := 0) (n := t) (fun i H' => ∃ out, Cg K g B1 H1 D out H' ∧ GenAt g (m + (N - i) * c) H' ∧ out.length ≤ i ∧ J i out) ⟨[], ⟨B1, [], ⟨fun a o _ e => Ex.new hD a o e, Ex.refl B1, l1.sub.trans (Ex.new hD), fun _ z _ => z⟩, Evl.fresh_back l1.sub hD, upd_same, .nil⟩, g1.ex (Ex.new hD), Nat.le_refl _, j0⟩
        (fun i H' hit ⟨out, ⟨B', acc, l, nD, eD, ho⟩, gi, hol, hJ⟩ => ?_) (fun H' ⟨out, ⟨B', acc, l, nD, eD, ho⟩, gi, hol, hJ⟩ => ?_)
      · have hiN : i < N := by omega
        have e0 : (0 : Int) + (i : Int) = (i : Int) := Int.zero_add _
        refine ⟨?_, ?_⟩
        · exact wipe_set vs σ i0 _ L2.wipe (fun _ => rfl) (fun _ _ _ => rfl) hi |>.trans (wipe_none vs)
        · rw [e0]
          have sd' : SD K B' ((L2.wipe σ vs).set i0 (some (.int (i : Int)))) ((wipeD ρ vs).set i0 (some (.int (i : Int)))) := (((sd.up l1.ek).up l.ek).wipe vs).put i0 (.int _)
          have nji : i0 ≠ j := fun z => hj (z ▸ hi)
          have hs' : ((L2.wipe σ vs).set i0 (some (.int (i : Int))))[j]? = some (some (.ref g)) := by
            rw [List.getElem?_set_ne nji, wipe_keep hj]
            exact hs
          have ef : m + (N - i) * c = (m + (N - (i + 1)) * c) + c := by
            have : N - i = (N - (i + 1)) + 1 := by omega
            rw [this, Nat.add_mul]
            omega
          have hgB : B' g = none := l.g hg1 g1.some
          rw [ef] at gi
          refine ht i _ hiN g _ B' H' l.sub hgB gi hs' sd' _ fun b B3 H3 l3 g3 pb => ?_
          have n3 : B3 D = none := l3.old D nD (fun z => by rw [eD] at z; cases z)
          have e3 := l3.ex D _ hDg eD
          have ll3 : LeG g B1 H1 B3 H3 := l.tr l3 gi.some
          cases b with
          | false => exact ⟨out, ⟨B3, acc, ll3, n3, e3, ho.ex l3.ek⟩, g3.less (by omega), by omega, j2 i out hiN hJ pb⟩
          | true =>
            show te _ H3 _
            refine he i _ hiN g _ B3 H3 l3.sub (l3.g hgB gi.some) g3 hs' (sd'.up l3.ek) _ fun v d B4 H4 l4 g4 d4 p4 => ?_
            have n4 : B4 D = none := l4.old D n3 (fun z => by rw [e3] at z; cases z)
            have e4 := l4.ex D _ hDg e3
            have ll4 : LeG g B1 H1 B4 H4 := ll3.tr l4 g3.some
            have hol2 : (out ++ [d]).length ≤ i + 1 := by
              rw [List.length_append, List.length_singleton]
              omega
            refine ⟨acc, e4, Evl.sz_lt (by rw [ho.len]; omega), out ++ [d], ⟨B4, acc ++ [v], ⟨fun a o na z => ?_, ll4.ek, fun a o z => ?_, ll4.old⟩, n4, upd_same, (ho.ex (l3.ek.trans l4.ek)).app (.cons d4 .nil)⟩, ?_, hol2, j1 i out d hiN hol hJ pb p4⟩
            · by_cases w : a = D
              · subst w
                rw [hD] at z
                cases z
              · rw [upd_ne w]
                exact ll4.ex a o na z
            · rw [upd_ne (ne_of_none z n4)]
              exact l4.sub a o z
            · obtain ⟨a, b, c3, z, r⟩ := g4
              exact ⟨a, b, c3, by rw [upd_ne (Ne.symm hDg)]; exact z, r⟩
      · have k : Ex B' (upd B' D (.lst acc)) := fun a o z => by
          rw [upd_ne (ne_of_none z nD)]
          exact z
        refine q (.ref D) (.list out) (upd B' D (.lst acc)) H' (l1.tr ⟨l.ex, l.ek.trans k, fun a o z => ?_, fun a z1 z2 => ?_⟩ g1.some) (gi.less (by omega)) (.lst upd_same (ho.ex k)) ⟨t, out, htN, p1, rfl, hol, hJ⟩
        · by_cases w : a = D
          · subst w
            rw [upd_same] at z
            cases z
            exact eD
          · rw [upd_ne w] at z
            exact l.sub a o z
        · rw [upd_ne (fun w => z2 (by rw [w]; exact hD))]
          exact l.old a z1 z2
end
end TD

set_option maxHeartbeats 4000000
/-! # G8: what is what, as plain functions of data -/
namespace TD
open PySem PySem.Spec PyProof.Rows L2
def isWhole (d : PyData) : Bool := isT "int" d && !isT "bool" d
def isCount : PyData → Bool
  | .int i => decide (0 ≤ i)
  | _ => false
def isTup (n : Int) : PyData → Bool
  | .tuple ds => decide ((ds.length : Int) = n)
  | _ => false
def fitsRoom (r : Int) : PyData → Bool
  | .int i => decide (0 ≤ i) && decide (i < r)
  | _ => false
def asc (r : Int) : Int → List PyData → Bool
  | _, [] => true
  | a, .int i :: ds => (decide (0 ≤ i) && decide (i < r)) && (decide (a < i) && asc r i ds)
  | _, _ :: _ => false
def fitsLights (r : Int) : PyData → Bool
  | .list ds => asc r (-1) ds
  | _ => false
def fitsPresses (r : Int) : PyData → Bool
  | .list ds => ds.all (fitsLights r)
  | _ => false
def isShift : PyData → Bool
  | .int i => decide (-1 ≤ i) && decide (i ≤ 1)
  | _ => false
def fitsDoor (r : Int) : PyData → Bool
  | .tuple [n, m, s] => fitsLights r n && (fitsRoom r m && isShift s)
  | _ => false
def fitsLevel2 : PyData → PyData → Bool
  | .int r, .list ds => decide (1 ≤ r) && ds.all (fitsDoor r)
  | _, _ => false
def fitsLevel : PyData → Bool
  | .tuple [a, b] => fitsLevel2 a b
  | _ => false
theorem whole_int {d : PyData} (h : isWhole d = true) : ∃ i, d = .int i := by
  cases d <;> first | exact ⟨_, rfl⟩ | (revert h; decide) | (revert h; unfold isWhole isT; simp)
/-- lists that are looked through item by item are at most so long -/
def Sm (d : PyData) : Prop := ∀ ds, (d = .list ds ∨ d = .tuple ds) → ds.length ≤ 30000
theorem asc_up {r r' : Int} (h : r ≤ r') : ∀ {a : Int} {ds : List PyData}, asc r a ds = true → asc r' a ds = true
  | _, [], _ => rfl
  | a, .int i :: ds, e => by
    have e' : ((decide (0 ≤ i) && decide (i < r)) && (decide (a < i) && asc r i ds)) = true := e
    simp only [Bool.and_eq_true, decide_eq_true_eq] at e'
    show ((decide (0 ≤ i) && decide (i < r')) && (decide (a < i) && asc r' i ds)) = true
    simp only [Bool.and_eq_true, decide_eq_true_eq]
    exact ⟨⟨e'.1.1, by omega⟩, e'.2.1, asc_up h e'.2.2⟩
theorem asc_snoc {r : Int} (h0 : 0 ≤ r) : ∀ {a : Int} {ds : List PyData}, a < r → asc r a ds = true → asc (r + 1) a (ds ++ [.int r]) = true
  | a, [], ha, _ => by
    show ((decide (0 ≤ r) && decide (r < r + 1)) && (decide (a < r) && true)) = true
    simp only [Bool.and_eq_true, decide_eq_true_eq]
    exact ⟨⟨h0, by omega⟩, ha, trivial⟩
  | a, .int i :: ds, ha, e => by
    have e' : ((decide (0 ≤ i) && decide (i < r)) && (decide (a < i) && asc r i ds)) = true := e
    simp only [Bool.and_eq_true, decide_eq_true_eq] at e'
    show ((decide (0 ≤ i) && decide (i < r + 1)) && (decide (a < i) && asc (r + 1) i (ds ++ [.int r]))) = true
    simp only [Bool.and_eq_true, decide_eq_true_eq]
    exact ⟨⟨e'.1.1, by omega⟩, e'.2.1, asc_snoc h0 e'.1.2 e'.2.2⟩
theorem asc_len {r : Int} : ∀ {a : Int} {ds : List PyData}, asc r a ds = true → ds ≠ [] → (ds.length : Int) ≤ r - a - 1
  | a, [], _, h => (h rfl).elim
  | a, .int i :: ds, e, _ => by
    have e' : ((decide (0 ≤ i) && decide (i < r)) && (decide (a < i) && asc r i ds)) = true := e
    simp only [Bool.and_eq_true, decide_eq_true_eq] at e'
    cases ds with
    | nil =>
      show (1 : Int) ≤ _
      omega
    | cons d ds =>
      have ih := asc_len e'.2.2 (by simp)
      have el : (((PyData.int i :: d :: ds).length : Nat) : Int) = ((d :: ds).length : Int) + 1 := by simp
      rw [el]
      omega
end TD

set_option maxHeartbeats 4000000
/-! # G9: data in order; all of a comprehension over a range; runs, endless presses, letters as plain functions of data -/
namespace TD
open PySem PySem.Spec PyProof.Rows L2
open PySem.W (alike alikeAll dataLt lt_data ge_data)
def rLtA (K : Fg) : R2 := fun x y H Q => ∃ d e, Da K H x d ∧ Da K H y e ∧ alike d e = true ∧ d ≠ .none ∧ min d.depth e.depth ≤ 60 ∧ Q (.bl (dataLt d e)) H
def rGeA (K : Fg) : R2 := fun x y H Q => ∃ d e, Da K H x d ∧ Da K H y e ∧ alike d e = true ∧ d ≠ .none ∧ min d.depth e.depth ≤ 60 ∧ Q (.bl (!dataLt d e)) H
section
variable {X : Cx}
theorem op_ltA (sm : ∃ mm, X.base.Ns sysModules mm) (hu : X.A.units + 64 < cLine) : OpR X (compareOp .Lt) (rLtA X.K) := by
  intro pins s σ H x y v u Q I rx ry h
  obtain ⟨d, e, hd, he, ha, hn, hm, q⟩ := h
  obtain ⟨as, r1, _⟩ := Da.reads sm I d x v hd rx
  obtain ⟨bs, r2, _⟩ := Da.reads sm I e y u he ry
  exact lt_data r1 r2 ha hn (by omega) ⟨.bl _, H, I, rfl, q⟩
theorem op_geA (sm : ∃ mm, X.base.Ns sysModules mm) (hu : X.A.units + 64 < cLine) : OpR X (compareOp .GtE) (rGeA X.K) := by
  intro pins s σ H x y v u Q I rx ry h
  obtain ⟨d, e, hd, he, ha, hn, hm, q⟩ := h
  obtain ⟨as, r1, _⟩ := Da.reads sm I d x v hd rx
  obtain ⟨bs, r2, _⟩ := Da.reads sm I e y u he ry
  exact ge_data r1 r2 ha hn (by omega) ⟨.bl _, H, I, rfl, q⟩
theorem op_ltAK {K : Fg} (hK : X.K = K) (sm : ∃ mm, X.base.Ns sysModules mm) (hu : X.A.units + 64 < cLine) : OpR X (compareOp .Lt) (rLtA K) := hK ▸ op_ltA sm hu
theorem op_geAK {K : Fg} (hK : X.K = K) (sm : ∃ mm, X.base.Ns sysModules mm) (hu : X.A.units + 64 < cLine) : OpR X (compareOp .GtE) (rGeA K) := hK ▸ op_geA sm hu
theorem ix_listK {K : Fg} (hK : X.K = K) : IxR X (rIxL K) := hK ▸ ix_list
theorem ix_tupK {K : Fg} (hK : X.K = K) : IxR X (rIxT K) := hK ▸ ix_tup
end
section
variable {K : Fg} {ρ : En} {te : TE} {x y : PyData}
theorem r_ltA (h : alike x y = true) (hn : x ≠ .none) (hm : min x.depth y.depth ≤ 60) : R2D K (rLtA K) x y (.bool (dataLt x y)) := fun v w B H s dx dy Q q =>
  ⟨x, y, dx.ex s, dy.ex s, h, hn, hm, q _ B H (Le.rfl' s) (.bl _)⟩
theorem r_geA (h : alike x y = true) (hn : x ≠ .none) (hm : min x.depth y.depth ≤ 60) : R2D K (rGeA K) x y (.bool (!dataLt x y)) := fun v w B H s dx dy Q q =>
  ⟨x, y, dx.ex s, dy.ex s, h, hn, hm, q _ B H (Le.rfl' s) (.bl _)⟩
def ofI (p : Nat → Bool) : PyData → PyData
  | .int i => .bool (p i.toNat)
  | _ => .none
theorem picked_rg (k : Nat) (p : Nat → Bool) : picked (rgD 0 k) (fun _ => true) (ofI p) = ((List.range k).map p).map PyData.bool := by
  rw [picked_all]
  unfold rgD
  rw [List.map_map, List.map_map]
  refine List.map_congr_left fun i _ => ?_
  show PyData.bool (p ((0 : Int) + (i : Int)).toNat) = PyData.bool (p i)
  rw [Int.zero_add, Int.toNat_natCast]
theorem mem_rg {k : Nat} {d : PyData} (h : d ∈ rgD 0 k) : ∃ i : Nat, i < k ∧ d = .int (i : Int) := by
  obtain ⟨i, hi, e⟩ := List.mem_map.mp h
  refine ⟨i, List.mem_range.mp hi, ?_⟩
  rw [← e, Int.zero_add]
/-- all([t for i in range(n)]) -/
theorem ed_allR1 {tl : TA} {j : Nat} {vs : List Nat} {n : Int} (p : Nat → Bool) (h : EA K tl ρ [.int n]) (hn : -40000 ≤ n ∧ n ≤ 40000) (hj : j ∈ vs)
    (he : ∀ i : Nat, i < n.toNat → ED K te ((wipeD ρ vs).set j (some (.int (i : Int)))) (.bool (p i))) :
    ED K (tCB (rAll K) (tCons (tLc (iRng1 tl) (gName j) tYes te vs) tNil)) ρ (.bool ((List.range n.toNat).all p)) := by
  have h1 := ed_lcR1 (te := te) (tt := tYes) (fun _ => true) (ofI p) h hn hj (fun _ _ => et_yes) (fun d m _ => by
    obtain ⟨i, hi, rfl⟩ := mem_rg m
    show ED K te _ (.bool (p (i : Int).toNat))
    rw [Int.toNat_natCast]
    exact he i hi)
  rw [picked_rg] at h1
  have e2 : (List.range n.toNat).all p = ((List.range n.toNat).map p).all id := by rw [List.all_map]; rfl
  rw [e2]
  exact ed_cb (ea_cons h1 ea_nil) rc_all
end
/-! ### runs, endless presses, letters -/
def fitsRun (r : Int) : PyData → Bool
  | .tuple [n, m] => fitsLights r n && isCount m
  | _ => false
def fitsRuns (r : Int) : PyData → Bool
  | .list ds => ds.all (fitsRun r)
  | _ => false
def notNil : PyData → Bool
  | .list [] => false
  | .list (_ :: _) => true
  | _ => false
def fitsEndless (r : Int) : PyData → Bool
  | .tuple [p, t] => fitsPresses r p && (fitsPresses r t && notNil t)
  | _ => false
def ups (ds : List PyData) : Bool := (List.range (ds.length - 1)).all fun i => dataLt (ds.getD i .none) (ds.getD (i + 1) .none)
def fitsLetters (r : Int) : PyData → Bool
  | .list ds => fitsPresses r (.list ds) && (!ds.isEmpty && ups ds)
  | _ => false
theorem asc_ints {r : Int} : ∀ {a : Int} {ds : List PyData}, asc r a ds = true → ∀ d ∈ ds, ∃ i : Int, d = .int i ∧ 0 ≤ i ∧ i < r
  | _, [], _, d, h => nomatch h
  | a, .int i :: ds, e, d, h => by
    have e' : ((decide (0 ≤ i) && decide (i < r)) && (decide (a < i) && asc r i ds)) = true := e
    simp only [Bool.and_eq_true, decide_eq_true_eq] at e'
    rcases List.mem_cons.mp h with rfl | h
    · exact ⟨i, rfl, e'.1⟩
    · exact asc_ints e'.2.2 d h
theorem alike_ints : ∀ {ds es : List PyData}, (∀ d ∈ ds, ∃ i : Int, d = .int i) → (∀ d ∈ es, ∃ i : Int, d = .int i) → alikeAll ds es = true
  | [], _, _, _ => by simp [alikeAll]
  | _ :: _, [], _, _ => by simp [alikeAll]
  | d :: ds, e :: es, h1, h2 => by
    obtain ⟨i, rfl⟩ := h1 d (List.mem_cons_self ..)
    obtain ⟨j, rfl⟩ := h2 e (List.mem_cons_self ..)
    rw [alikeAll, alike_ints (fun d h => h1 d (List.mem_cons_of_mem _ h)) (fun d h => h2 d (List.mem_cons_of_mem _ h))]
    rfl
theorem depth_ints : ∀ {ds : List PyData}, (∀ d ∈ ds, ∃ i : Int, d = .int i) → PyData.depthAll ds = 0
  | [], _ => by simp [PyData.depthAll]
  | d :: ds, h => by
    obtain ⟨i, rfl⟩ := h d (List.mem_cons_self ..)
    rw [PyData.depthAll, depth_ints fun d h' => h d (List.mem_cons_of_mem _ h')]
    rfl
theorem lights_ints {r : Int} {x : PyData} (h : fitsLights r x = true) : ∃ ds, x = .list ds ∧ ∀ d ∈ ds, ∃ i : Int, d = .int i := by
  cases x with
  | list ds => exact ⟨ds, rfl, fun d hd => let ⟨i, e, _⟩ := asc_ints h d hd; ⟨i, e⟩⟩
  | _ => exact nomatch (show false = true from h)
theorem lights_alike {r : Int} {x y : PyData} (h1 : fitsLights r x = true) (h2 : fitsLights r y = true) : alike x y = true ∧ x ≠ .none ∧ min x.depth y.depth ≤ 60 := by
  obtain ⟨ds, rfl, hd⟩ := lights_ints h1
  obtain ⟨es, rfl, he⟩ := lights_ints h2
  refine ⟨?_, (fun z => nomatch z), ?_⟩
  · rw [alike]
    exact alike_ints hd he
  · rw [PyData.depth, depth_ints hd]
    omega
end TD

set_option maxHeartbeats 4000000
/-! # G10: statements that are never reached; defs called by keywords alone -/
namespace TD
open PySem PySem.Spec PyProof.Rows L2
open Evl (Ex)
def tNo : TS := fun _ _ _ => False
theorem ps_no {X : Cx} {st : Stmt} : PS X st tNo := ⟨fun _ _ _ _ _ _ h => h.elim⟩
def swap2 {α : Type} : List α → List α
  | [a, b] => [b, a]
  | l => l
section
variable (P : Program) (w : World) (K : Fg) (mg : Str → Option Value) (base : Heap)
def Fk (x : Str) (ps ks : List Str) (k : Nat) (sp : Sp) (g : List Value → List Value) (gV : List V → List V) : Prop :=
  ∃ (f : Addr) (fd : FuncData), mg x = some (.ref f) ∧ PySem.W.keepIn K (.ref f) = true ∧ KAll fd ps ks g gV ∧ FnG P w K mg base CX0 k f fd ps sp
end
section
variable {P : Program} {w : World} {K : Fg} {mg : Str → Option Value} {base : Heap} {x : Str} {ps ks N : List Str} {k : Nat} {st : Stmt}
theorem fc_mk2 {R : List PyData → PyData → Prop} {g : List Value → List Value} {gV : List V → List V} (a : At K mg x st) (S : FnScope N ps (defScope st))
    (hb : ∀ (kV doc pm : Value) (an : Option Addr) (cdv ct : Value) (us : List Value), us.length = ps.length → bindArgs (PySem.W.fnOf x x (defArgs st) (defBody st) (defScope st) .none kV doc pm an cdv ct) ⟨us, []⟩ = pure (ps.zip us))
    (hk : ∀ (kV doc pm : Value) (an : Option Addr) (cdv ct : Value) (ws : List Value), ws.length = ks.length → bindArgs (PySem.W.fnOf x x (defArgs st) (defBody st) (defScope st) .none kV doc pm an cdv ct) ⟨[], ks.zip ws⟩ = pure (ps.zip (g ws)))
    (rel : ∀ {zs : List V} {ws : List Value}, zs.length = ks.length → Vals zs ws → Vals (gV zs) (g ws))
    (hl : ∀ ds d, R ds d → ds.length = ps.length)
    (body : ∀ (f : Addr) (cdv : Value) (A : Around) (outer : List Env) (s : Shared) (H : Hp) (E : XK), A.guards = some [] → Room k (A.deeper (envOfC x (defScope st) s.heap.objs.size f cdv)) →
      ∃ t, PSs (cxOf CX0 P w K mg base N x (defScope st) f cdv A outer s H E).nox (defBody st) t ∧ ∀ ds d, R ds d → XR K t (enOf N ds) d) :
    Fc P w K mg base x ps (k + 1) (SpR K R) ∧ Fk P w K mg base x ps ks (k + 1) (SpR K R) g gV := by
  obtain ⟨f, fd, F, hm⟩ := a
  have G : FnG P w K mg base CX0 (k + 1) f fd ps (SpR K R) := by
    refine fnG F S (sp_len hl) ?_
    intro cdv A outer s H vs Q E gu hr ⟨B, ds, d, sx, hd, r, q⟩
    obtain ⟨t, ht, hx⟩ := body f cdv A outer s H E gu hr
    refine ⟨t, ht.nox, ?_⟩
    have sd := sd_start (N := N) hd
    rcases hx ds d r with h | ⟨rfl, ρ', h⟩
    · exact h _ B H _ sx sd q
    · exact h _ B H _ sx sd fun σ' B' H' l _ => q _ B' H' l .non
  refine ⟨⟨f, fd, hm, F.kp, F.binds hb, G⟩, ⟨f, fd, hm, F.kp, ⟨fun ws hw => ?_, rel⟩, G⟩⟩
  obtain ⟨oc, od, kV, doc, pm, an, cdv, ct, osl, rfl, lk, hcd⟩ := F.ex
  exact hk kV doc pm an cdv ct ws hw
theorem swap_rel {zs : List V} {ws : List Value} (h : zs.length = 2) (r : Vals zs ws) : Vals (swap2 zs) (swap2 ws) := by
  match zs, ws, h, r with
  | [a, b], _, _, r =>
    obtain ⟨u, v, rfl, r1, r2⟩ := vals2 r
    exact .cons r2 (.cons r1 .nil)
theorem das_swap {B : Hp} {vs : List V} {x y : PyData} (h : Das K B vs [x, y]) : Das K B (swap2 vs) [y, x] := by
  obtain ⟨v, r, rfl, a, t⟩ := h.inv1
  obtain ⟨u, r2, rfl, a2, t2⟩ := t.inv1
  cases t2
  exact .cons a2 (.cons a .nil)
end
section
variable {X : Cx} {x : Str} {ps ks : List Str} {k : Nat} {sp : Sp} {p pos : Pos} {tk : TA} {kws : List Keyword} {g : List Value → List Value} {gV : List V → List V}
theorem pe_fk (c : Fk X.prog X.w X.K X.mg X.base x ps ks k sp g gV) (gu : X.A.guards = some []) (hr : Room k X.A) (hg : Gl X x) (hkw : PK X kws tk)
    (d1 : (x == ("__debug__" : Str)) = false := by decide)
    (d2 : (backToKw pos (keywordEach kws X.env)).all (·.1.isSome) = true := by rfl)
    (d3 : (backToKw pos (keywordEach kws X.env)).filterMap (·.1) = ks := by rfl)
    (d4 : ((backTo pos (starEach [] X.env)).any (·.1) || (backToKw pos (keywordEach kws X.env)).any (·.1.isNone)) = false := by rfl) :
    PE X (.Call (.Name x p) [] kws pos) (tCallKw ks.length sp gV E0 tk) := by
  obtain ⟨f, fd, hm, kp, hb, F⟩ := c
  exact pe_gk F gu hr hg hm kp hb pass0 hkw d1 d2 d3 d4
end
end TD

set_option maxHeartbeats 4000000
/-! # G11: set(a list of ints); lists held against the empty list -/
namespace TD
open PySem PySem.Spec PyProof.Rows L2
open Evl (Ex)
section
variable {P : Program} {w : World} {A : Around} {E : Value → Shared → Prop} {s : Shared}
abbrev nob (w : World) : Obj := { cls := .type "set", dict := none, data := .set #[] 0 (.fresh 0 0 (!w.params.followText "set-order")) }
set_option maxRecDepth 100000 in
set_option maxHeartbeats 3200000 in
theorem set_of_list {l : Addr} {items : Array Value} (ns : List Int) {Q : Value → Shared → Prop} (hh : A.handled = none) (hl : s.heap.IsList l items) (hit : IntsAre items.toList ns) (hb : ns.length + 1 < scanBound)
    (done : ∀ (h' : Heap) (tk c : Nat), SetR w h' s.heap.objs.size (fun j => decide (j ∈ ns)) c → c ≤ ns.length → (∀ b o, s.heap.get? b = some o → h'.get? b = some o) → Q (.ref s.heap.objs.size) { s with heap := h', toks := tk }) :
    wpAny (model P w) A (call (.type "set") [.ref l]) Q E s := by
  have isz : items.size = ns.length := by have z := IntsAre.length hit; rwa [Array.length_toList] at z
  obtain ⟨cc, tt, mm⟩ := F.called_set.mro; have x1 := F.called_set.made; have x2 := F.called_set.sub
  refine wpAny_call (codeAny_of_tree ?_); show wpAny _ _ (callAny (.type "set") _) _ _ _
  refine wpAny_pure ⟨Code.quiet_builtin _ (by decide +kernel), codeAny_builtin F.entry_type_call ?_⟩; rw [Around.under_plain (weight_type_call_type "set" [.ref l] []) rfl]
  have x3 := F.called_set.notType; have x4 := F.called_set.canCreate; have x5 := F.typeCall_set_1 (.ref l)
  repeat (any_goals (first | assumption | wp_step))
  refine codeAny_mono (code_set_led1 (.ref l) (E := E) (Q₁ := fun ob t => ob = .ref s.heap.objs.size ∧ t = { s with heap := s.heap.push (nob w) }) ⟨rfl, rfl⟩) fun r t hr => ?_
  match r, hr with
  | .error e, hr => exact hr
  | .ok .next, hr => exact hr.elim
  | .ok .brk, hr => exact hr.elim
  | .ok .cont, hr => exact hr.elim
  | .ok (.ret obj), hr =>
    obtain ⟨rfl, rfl⟩ := hr
    have hS : (s.heap.push (nob w)).get? s.heap.objs.size = some (nob w) := Heap.get?_push_size _ rfl
    have hT : Shared.TypeIs { s with heap := s.heap.push (nob w) } (.ref s.heap.objs.size) "set" := ⟨_, hS, rfl⟩
    have x6 := F.called_set.init.lookup; have x7 := F.called_set.init.bind (.ref s.heap.objs.size)
    repeat (any_goals (first | assumption | wp_step))
    refine codeAny_mono (codeAny_call_builtin (R := wants (fun r t => r = .none ∧ ∃ h' tk c, t = { s with heap := h', toks := tk } ∧ SetR w h' s.heap.objs.size (fun j => decide (j ∈ ns)) c ∧ c ≤ ns.length ∧ (∀ b o, s.heap.get? b = some o → h'.get? b = some o)) E)
      F.called_set.init.plain F.entry_set_init (check_set_init_1 hT ?_)) fun r2 t2 hr2 => ?_
    · obtain ⟨⟨ocls, odict, odata, oslots⟩, hol, hcl, nl, hdl⟩ := hl
      simp only at hcl hdl; subst hcl; subst hdl
      have hol' : (s.heap.push (nob w)).get? l = some { cls := .type "list", dict := odict, data := .seq items nl, slots := oslots } := Heap.get?_push_of_some _ hol
      have y1 := F.sub_list_set; have y2 := F.sub_list_frozenset; have y3 : (Value.type "list" == Value.type "dict") = false := by decide
      have hl1 : (s.heap.push (nob w)).IsList l items := ⟨_, hol', rfl, nl, rfl⟩
      unfold Builtin.«set.__init__» noKeywords Builtin.Frozenset.updateFrom; generalize hPI : pyIter = PI
      wp_walk
      subst hPI
      refine wpAny_pyIter_list hl1 ?_; refine wpAny_bind (wpAny_runValue ?_)
      have hlS : l < s.heap.objs.size := Heap.lt_size hol
      have hh3 : A.in1.in1.in1.handled = none := by simp [hh]
      have sz1 : (s.heap.push (nob w)).objs.size = s.heap.objs.size + 1 := Heap.size_push ..
      have hneI : l ≠ (s.heap.push (nob w)).objs.size := by rw [sz1]; exact Nat.ne_of_lt (Nat.lt_succ_of_lt hlS)
      have hSf : s.heap.objs.size ∉ [(s.heap.push (nob w)).objs.size, l] := by
        rw [sz1]; intro z
        rcases List.mem_cons.mp z with z | z
        · exact Nat.ne_of_lt (Nat.lt_succ_self _) z
        · exact Nat.ne_of_gt hlS (List.mem_singleton.mp z)
      have hval : ∀ (i : Nat) (v : Value), items[i]? = some v → ∃ k t, ns[i]? = some k ∧ v = .int k t := fun i v hv => by
        have hi : i < ns.length := by rw [← isz]; obtain ⟨z, _⟩ := Array.getElem?_eq_some_iff.mp hv; exact z
        obtain ⟨t, e⟩ := PyProof.Rows.IntsAre.int_at hit i v (by rw [Array.getElem?_toList]; exact hv)
        refine ⟨ns[i], t, List.getElem?_eq_getElem hi, ?_⟩; rw [e, List.getD_eq_getElem?_getD, List.getElem?_eq_getElem hi] <;> rfl
      refine set_update_ints ((Walks.list hh3 _ l hneI items).toS) s.heap.objs.size hSf ns isz hb hval (items.size - 0) 0 _ (by omega) (Nat.zero_le _) ⟨⟨_, Heap.get?_push_size _ rfl, rfl, rfl⟩, (hl1.push _)⟩ ?z0 ?zR
      case z0 =>
        have hget : ((s.heap.push (nob w)).push { cls := .type "list_iterator", data := .fields #[.ref l, .int 0 0] }).get? s.heap.objs.size = some (nob w) := Heap.get?_push_of_some _ hS
        exact ⟨0, Nat.le_refl 0, setR_new_at hget⟩
      case zR =>
        intro s' c' hm hc' hS'
        obtain ⟨h', g2, d', tk', os'⟩ := s'
        have eg : g2 = s.gens := hm.gens; have ed : d' = s.drawn := hm.drawn; have eo : os' = s.os := hm.os
        subst eg; subst ed; subst eo
        show wpAny _ _ _ _ _ _; refine wpAny_pure ?_; show wpAny _ _ (ret Value.none) _ _ _
        rw [isz] at hc'
        refine wpAny_pure ⟨rfl, h', tk', c', rfl, hS', hc', fun b o e => ?_⟩
        have hb0 : b < s.heap.objs.size := Heap.lt_size e
        refine hm.heap b o (fun z => ?_) (Heap.get?_push_of_some _ (Heap.get?_push_of_some _ e))
        rcases List.mem_cons.mp z with z | z
        · exact Nat.ne_of_lt hb0 z
        · rw [List.mem_singleton, sz1] at z; exact Nat.ne_of_lt (Nat.lt_succ_of_lt hb0) z
    · match r2, hr2 with
      | .error e, hr2 => exact hr2
      | .ok .next, hr2 => exact hr2.elim
      | .ok .brk, hr2 => exact hr2.elim
      | .ok .cont, hr2 => exact hr2.elim
      | .ok (.ret r), hr2 =>
        obtain ⟨rfl, h', tk, c', rfl, hS', hc', hk'⟩ := hr2
        repeat (any_goals (first | assumption | wp_step))
        exact done _ _ _ hS' hc' hk'
end
end TD

set_option maxHeartbeats 4000000
/-! # G12: set of ints as a rule; lists held against the empty list; ints in order, each once -/
namespace TD
open PySem PySem.Spec PyProof.Rows L2
open Evl (Ex)
section
/-- set(l), l a list of ints -/
def rSetI (K : Fg) (w : World) : List V → Hp → VK → Prop := fun xs H Q => ∃ (l : Addr) (ns : List Int), xs = [.ref l] ∧ SqL K H l (ns.map V.int) ∧ ns.length < 60 ∧ ∀ p n, H p = none → n ≤ ns.length → Q (.ref p) (upd H p (SetO w p (fun j => decide (j ∈ ns)) n))
theorem call_setI {X : Cx} (hc : X.calm = true) : CallR X (.type "set") (rSetI X.K X.w) := by
  intro pins s σ H xs us Q I r h
  obtain ⟨l, ns, rfl, hS, h60, q⟩ := h
  obtain ⟨u, rfl, ru⟩ := vals1 r
  cases (show u = Value.ref l from ru)
  obtain ⟨its, rv, pl, hz⟩ := I.list hS
  refine set_of_list ns (I.ok.hd hc) pl.isList (by simpa using rv.ints) (by unfold scanBound; omega) fun h' tk c hR hcl hk => ?_
  have J := I.laid (a := s.heap.objs.size) (h' := h') (t' := tk) (fun b u e => hk b u e) (Nat.le_refl _) (setO_new hR)
  exact ⟨.ref _, upd H s.heap.objs.size (SetO X.w s.heap.objs.size (fun j => decide (j ∈ ns)) c), J, rfl, q _ c (I.hok.fresh (Nat.le_refl _)) hcl⟩
/-! ### against the empty list -/
def rNeN (K : Fg) : R2 := fun x y H Q => ∃ a b xs, x = .ref a ∧ y = .ref b ∧ SqL K H a xs ∧ SqL K H b [] ∧ Q (.bl (!xs.isEmpty)) H
def rEqN (K : Fg) : R2 := fun x y H Q => ∃ a b xs, x = .ref a ∧ y = .ref b ∧ SqL K H a xs ∧ SqL K H b [] ∧ Q (.bl xs.isEmpty) H
theorem op_neN {X : Cx} (hu : X.A.units + 64 < cLine) : OpR X (compareOp .NotEq) (rNeN X.K) := by
  intro pins s σ H x y v u Q I rx ry h
  obtain ⟨a, b, xs, rfl, rfl, ha, hb, q⟩ := h
  cases (show v = Value.ref a from rx)
  cases (show u = Value.ref b from ry)
  obtain ⟨us, r1, p1, _⟩ := I.list ha
  obtain ⟨ws, r2, p2, _⟩ := I.list hb
  cases r2
  cases xs with
  | nil =>
    cases r1
    exact SeqAt.RcNeAt.lists (A := X.A) (e := fun _ => true) p1.isList p2.isList rfl (by omega) (fun j h1 _ => absurd h1 (by simp)) X.prog X.w _ _ ⟨.bl false, H, I, rfl, q⟩
  | cons x xs =>
    cases r1
    exact SeqAt.RcNeAt.lists_lengths (A := X.A) p1.isList p2.isList (by simp) (by omega) X.prog X.w _ _ ⟨.bl true, H, I, rfl, q⟩
theorem op_eqN {X : Cx} (hu : X.A.units + 64 < cLine) : OpR X (compareOp .Eq) (rEqN X.K) := by
  intro pins s σ H x y v u Q I rx ry h
  obtain ⟨a, b, xs, rfl, rfl, ha, hb, q⟩ := h
  cases (show v = Value.ref a from rx)
  cases (show u = Value.ref b from ry)
  obtain ⟨us, r1, p1, _⟩ := I.list ha
  obtain ⟨ws, r2, p2, _⟩ := I.list hb
  cases r2
  cases xs with
  | nil =>
    cases r1
    exact SeqAt.RcAt.lists (A := X.A) (e := fun _ => true) p1.isList p2.isList rfl (by omega) (fun j h1 _ => absurd h1 (by simp)) X.prog X.w _ _ ⟨.bl true, H, I, rfl, q⟩
  | cons x xs =>
    cases r1
    exact SeqAt.RcAt.lists_lengths (A := X.A) p1.isList p2.isList (by simp) (by omega) X.prog X.w _ _ ⟨.bl false, H, I, rfl, q⟩
section
variable {K : Fg} {ds : List PyData}
theorem r_neN : R2D K (rNeN K) (.list ds) (.list []) (.bool (!ds.isEmpty)) := fun v w B H s h1 h2 Q q => by
  cases h1 with
  | @lst a xs _ ha hs =>
    cases h2 with
    | @lst b ys _ hb ht =>
      cases ht
      refine ⟨a, b, xs, rfl, rfl, SqL.of (s _ _ ha), SqL.of (s _ _ hb), ?_⟩
      have e : xs.isEmpty = ds.isEmpty := by
        cases hs <;> rfl
      rw [e]
      exact q _ B H (Le.rfl' s) (.bl _)
theorem r_eqN : R2D K (rEqN K) (.list ds) (.list []) (.bool ds.isEmpty) := fun v w B H s h1 h2 Q q => by
  cases h1 with
  | @lst a xs _ ha hs =>
    cases h2 with
    | @lst b ys _ hb ht =>
      cases ht
      refine ⟨a, b, xs, rfl, rfl, SqL.of (s _ _ ha), SqL.of (s _ _ hb), ?_⟩
      have e : xs.isEmpty = ds.isEmpty := by
        cases hs <;> rfl
      rw [e]
      exact q _ B H (Le.rfl' s) (.bl _)
/-! ### the members in order, each once -/
def put (i : Int) : List Int → List Int
  | [] => [i]
  | j :: l => if i < j then i :: j :: l else if i = j then j :: l else j :: put i l
def canon (ns : List Int) : List Int := ns.foldr put []
theorem put_mem (i k : Int) : ∀ l : List Int, k ∈ put i l ↔ k = i ∨ k ∈ l
  | [] => by simp [put]
  | j :: l => by
    unfold put
    split
    · simp
    · split
      · rename_i e
        subst e
        simp
      · rw [List.mem_cons, put_mem i k l, List.mem_cons]
        constructor
        · rintro (h | h | h)
          · exact .inr (.inl h)
          · exact .inl h
          · exact .inr (.inr h)
        · rintro (h | h | h)
          · exact .inr (.inl h)
          · exact .inl h
          · exact .inr (.inr h)
theorem put_pw (i : Int) : ∀ l : List Int, l.Pairwise (· < ·) → (put i l).Pairwise (· < ·)
  | [], _ => by simp [put]
  | j :: l, h => by
    rw [List.pairwise_cons] at h
    unfold put
    split
    · rename_i hij
      rw [List.pairwise_cons, List.pairwise_cons]
      refine ⟨fun k hk => ?_, h⟩
      rcases List.mem_cons.mp hk with e | e
      · omega
      · have := h.1 k e
        omega
    · split
      · rw [List.pairwise_cons]
        exact h
      · rw [List.pairwise_cons]
        refine ⟨fun k hk => ?_, put_pw i l h.2⟩
        rcases (put_mem i k l).mp hk with e | e
        · omega
        · exact h.1 k e
theorem canon_mem (k : Int) : ∀ ns : List Int, k ∈ canon ns ↔ k ∈ ns
  | [] => Iff.rfl
  | i :: ns => by
    show k ∈ put i (canon ns) ↔ _
    rw [put_mem, canon_mem k ns, List.mem_cons]
theorem canon_pw : ∀ ns : List Int, (canon ns).Pairwise (· < ·)
  | [] => .nil
  | i :: ns => put_pw i _ (canon_pw ns)
theorem pw_eq : ∀ {l m : List Int}, l.Pairwise (· < ·) → m.Pairwise (· < ·) → (∀ k, k ∈ l ↔ k ∈ m) → l = m
  | [], [], _, _, _ => rfl
  | [], j :: m, _, _, h => nomatch (h j).mpr (List.mem_cons_self ..)
  | i :: l, [], _, _, h => nomatch (h i).mp (List.mem_cons_self ..)
  | i :: l, j :: m, h1, h2, h => by
    rw [List.pairwise_cons] at h1 h2
    have e : i = j := by
      rcases List.mem_cons.mp ((h i).mp (List.mem_cons_self ..)) with z | z
      · exact z
      · rcases List.mem_cons.mp ((h j).mpr (List.mem_cons_self ..)) with y | y
        · exact y.symm
        · have a := h2.1 i z
          have b := h1.1 j y
          omega
    subst e
    rw [pw_eq h1.2 h2.2 fun k => ?_]
    constructor
    · intro hk
      rcases List.mem_cons.mp ((h k).mp (List.mem_cons_of_mem _ hk)) with z | z
      · have := h1.1 k hk
        omega
      · exact z
    · intro hk
      rcases List.mem_cons.mp ((h k).mpr (List.mem_cons_of_mem _ hk)) with z | z
      · have := h2.1 k hk
        omega
      · exact z
theorem canon_self {ns : List Int} : ns = canon ns ↔ ns.Pairwise (· < ·) := ⟨fun e => e ▸ canon_pw ns, fun h => pw_eq h (canon_pw ns) fun k => (canon_mem k ns).symm⟩
theorem das_ints {K : Fg} {B : Hp} : ∀ {ns : List Int} {xs : List V}, Das K B xs (ns.map PyData.int) → xs = ns.map V.int
  | [], _, h => by
    cases h
    rfl
  | n :: ns, _, h => by
    obtain ⟨v, r, rfl, dv, dr⟩ := Das.inv1 (x := .int n) h
    cases dv
    rw [das_ints dr]
    rfl
/-- sorted(set(l)) -/
theorem ed_sortedSet {K : Fg} {w : World} {ρ : En} {te : TE} {ns : List Int} (h : ED K te ρ (.list (ns.map PyData.int))) (hl : ns.length < 60) : ED K (tCB (rSortedSet w) (tCons (tCB (rSetI K w) (tCons te tNil)) tNil)) ρ (.list ((canon ns).map PyData.int)) := fun σ B H s sd Q q =>
  h σ B H s sd _ fun v B1 H1 l1 d1 => by
    cases d1 with
    | @lst a xs _ ha hs =>
      have exs : xs = ns.map V.int := das_ints hs
      subst exs
      refine ⟨a, ns, rfl, SqL.of (l1.sub _ _ ha), hl, fun p n hp hn => ⟨p, _, n, rfl, upd_same, by omega, fun ms t hpw hm hlen ht => ?_⟩⟩
      have e : ms = canon ns := pw_eq hpw (canon_pw ns) fun k => (hm k).trans (by rw [canon_mem]; exact decide_eq_true_iff)
      subst e
      have l2 := Le.new (o := SetO w p (fun j => decide (j ∈ ns)) n) l1.sub hp
      have l3 := Le.new (o := .lst ((canon ns).map V.int)) l2.sub ht
      refine q _ _ _ ((l1.tr l2).tr l3) (.lst upd_same ?_)
      have go : ∀ (B : Hp) (ms : List Int), Das K B (ms.map V.int) (ms.map PyData.int) := fun B ms => by
        induction ms with
        | nil => exact .nil
        | cons m ms ih => exact .cons (.int m) ih
      exact go _ _
end
end
end TD

set_option maxHeartbeats 4000000
/-! # G13: the law's own kinds and the program's: the same functions of data -/
namespace TD
open PySem PySem.Spec PyProof.Rows L2
open Evl (Ex)
open PySem.W (alike alikeAll dataLt)
/-! ### sizes: no list or tuple in it is longer than 50 -/
mutual
def szOk : PyData → Bool
  | .list ds => decide (ds.length ≤ 50) && szAll ds
  | .tuple ds => decide (ds.length ≤ 50) && szAll ds
  | _ => true
def szAll : List PyData → Bool
  | [] => true
  | d :: ds => szOk d && szAll ds
end
theorem szAll_mem : ∀ {ds : List PyData}, szAll ds = true → ∀ d ∈ ds, szOk d = true
  | [], _, d, h => nomatch h
  | e :: ds, h, d, m => by
    rw [szAll, Bool.and_eq_true] at h
    rcases List.mem_cons.mp m with z | z
    · exact z ▸ h.1
    · exact szAll_mem h.2 d z
theorem sz_list {ds : List PyData} (h : szOk (.list ds) = true) : ds.length ≤ 50 ∧ ∀ d ∈ ds, szOk d = true := by
  rw [szOk, Bool.and_eq_true] at h
  exact ⟨of_decide_eq_true h.1, szAll_mem h.2⟩
theorem sz_tup {ds : List PyData} (h : szOk (.tuple ds) = true) : ds.length ≤ 50 ∧ ∀ d ∈ ds, szOk d = true := by
  rw [szOk, Bool.and_eq_true] at h
  exact ⟨of_decide_eq_true h.1, szAll_mem h.2⟩
theorem sz_Sm {d : PyData} (h : szOk d = true) : Sm d := by
  intro ds e
  rcases e with rfl | rfl
  · exact Nat.le_trans (sz_list h).1 (by decide)
  · exact Nat.le_trans (sz_tup h).1 (by decide)
/-! ### lists of ints -/
def intsD (ns : List Int) : List PyData := ns.map PyData.int
theorem eqv_ints : ∀ ns ms : List Int, PyData.eqvAll (intsD ns) (intsD ms) = decide (ns = ms)
  | [], [] => by simp [intsD, PyData.eqvAll]
  | [], m :: ms => by simp [intsD, PyData.eqvAll]
  | n :: ns, [] => by simp [intsD, PyData.eqvAll]
  | n :: ns, m :: ms => by
    show PyData.eqvAll (.int n :: intsD ns) (.int m :: intsD ms) = _
    rw [PyData.eqvAll, eqv_ints ns ms, PyData.eqv]
    by_cases h : n = m
    · subst h
      simp
    · simp [h]
theorem depth_intsD (ns : List Int) : PyData.depthAll (intsD ns) = 0 := depth_ints fun d hd => let ⟨i, _, e⟩ := List.mem_map.mp hd; ⟨i, e.symm⟩
theorem lay_ints : ∀ ns : List Int, PyData.canLayAll0 (intsD ns) = true
  | [] => by simp [intsD, PyData.canLayAll0]
  | n :: ns => by
    show PyData.canLayAll0 (.int n :: intsD ns) = true
    rw [PyData.canLayAll0, lay_ints ns]
    rfl
theorem sh_ints (ns : List Int) : SeqAt.shaped (.list (intsD ns)) = true := by
  unfold SeqAt.shaped
  rw [PyData.canLay0, lay_ints, PyData.depth, depth_intsD]
  rfl
theorem all_ints {r : Int} : ∀ {ds : List PyData}, (∀ d ∈ ds, fitsRoom r d = true) → ∃ ns : List Int, ds = intsD ns ∧ ∀ i ∈ ns, 0 ≤ i ∧ i < r
  | [], _ => ⟨[], rfl, fun i h => nomatch h⟩
  | d :: ds, h => by
    obtain ⟨ns, rfl, hn⟩ := all_ints fun e he => h e (List.mem_cons_of_mem _ he)
    have hd := h d (List.mem_cons_self ..)
    cases d with
    | int i =>
      have hd' : (decide (0 ≤ i) && decide (i < r)) = true := hd
      simp only [Bool.and_eq_true, decide_eq_true_eq] at hd'
      refine ⟨i :: ns, rfl, fun j hj => ?_⟩
      rcases List.mem_cons.mp hj with e | e
      · exact e ▸ hd'
      · exact hn j e
    | _ => exact nomatch (show false = true from hd)
theorem asc_pw {r : Int} : ∀ {a : Int} {ns : List Int}, (∀ i ∈ ns, 0 ≤ i ∧ i < r) → (asc r a (intsD ns) = true ↔ (∀ i ∈ ns, a < i) ∧ ns.Pairwise (· < ·))
  | a, [], _ => ⟨fun _ => ⟨fun i h => (nomatch h), .nil⟩, fun _ => rfl⟩
  | a, n :: ns, h => by
    have ih := asc_pw (a := n) (ns := ns) fun i hi => h i (List.mem_cons_of_mem _ hi)
    obtain ⟨h1, h2⟩ := h n (List.mem_cons_self ..)
    show ((decide (0 ≤ n) && decide (n < r)) && (decide (a < n) && asc r n (intsD ns))) = true ↔ _
    simp only [Bool.and_eq_true, decide_eq_true_eq, List.pairwise_cons]
    rw [ih]
    constructor
    · rintro ⟨_, h3, h4, h5⟩
      refine ⟨fun i hi => ?_, h4, h5⟩
      rcases List.mem_cons.mp hi with e | e
      · omega
      · have := h4 i e
        omega
    · rintro ⟨h3, h4, h5⟩
      exact ⟨⟨h1, h2⟩, h3 n (List.mem_cons_self ..), h4, h5⟩
/-- the law's word of lights, the program's -/
theorem lights_eq {r : Int} {ns : List Int} (h : ∀ i ∈ ns, 0 ≤ i ∧ i < r) : PyData.eqv (.list (intsD ns)) (.list (intsD (canon ns))) = fitsLights r (.list (intsD ns)) := by
  rw [PyData.eqv, eqv_ints]
  show _ = asc r (-1) (intsD ns)
  have k := asc_pw (a := -1) h
  by_cases p : ns.Pairwise (· < ·)
  · rw [decide_eq_true (canon_self.mpr p), k.mpr ⟨fun i hi => by have := (h i hi).1; omega, p⟩]
  · rw [decide_eq_false (fun e => p (canon_self.mp e))]
    symm
    rw [Bool.eq_false_iff]
    exact fun e => p (k.mp e).2
theorem lights_rooms {r : Int} {ds : List PyData} (h : fitsLights r (.list ds) = true) : ∀ d ∈ ds, fitsRoom r d = true := fun d hd => by
  obtain ⟨i, rfl, h1, h2⟩ := asc_ints h d hd
  show (decide (0 ≤ i) && decide (i < r)) = true
  rw [decide_eq_true h1, decide_eq_true h2]
  rfl
/-! ### what is left of a list by a test -/
def offs (f : PyData → Bool) (ds : List PyData) : List PyData := picked ds (fun d => !f d) id
theorem offs_nil {f : PyData → Bool} {ds : List PyData} : (offs f ds).isEmpty = ds.all f := by
  unfold offs picked
  rw [List.map_id]
  induction ds with
  | nil => rfl
  | cons d ds ih =>
    rw [List.filter_cons, List.all_cons]
    cases h : f d with
    | true => simpa [h] using ih
    | false => simp [h]
end TD

set_option maxHeartbeats 4000000
/-! # G14: defs that draw and hand back what they made -/
namespace TD
open PySem PySem.Spec PyProof.Rows L2
open Evl (Ex)
/-- a body that draws and returns -/
def RG (K : Fg) (j : Nat) (t : TS) (ρ : En) (n : Nat) (P : PyData → Prop) (m : Nat) : Prop := ∀ g σ B H (D : Ends), Ex B H → B g = none → GenAt g n H → σ[j]? = some (some (.ref g)) → SD K B σ ρ →
  (∀ v d B' H', LeG g B H B' H' → GenAt g m H' → Da K B' v d → P d → D.rt v H') → t D σ H
theorem rg_ret {K : Fg} {j : Nat} {te : TE} {ρ : En} {n m : Nat} {P : PyData → Prop} (h : EG K j te ρ n P m) : RG K j (tRet te) ρ n P m := fun g σ B H D s hg ga hs sd q => h g σ B H s hg ga hs sd _ q
/-- the generator in the first slot, data in the next ones -/
def enG (N : List Str) (ds : List PyData) : En := none :: (ds.map some ++ List.replicate (N.length - (ds.length + 1)) none)
theorem sd_startG {K : Fg} {B : Hp} {N : List Str} {g : Addr} {ws : List V} {ds : List PyData} (h : Das K B ws ds) : SD K B (L2.start N (.ref g :: ws)) (enG N ds) := by
  have hl := h.len
  refine ⟨by unfold L2.start enG; simp [hl], fun i d e => ?_⟩
  unfold enG at e
  match i, e with
  | 0, e => simp at e
  | i + 1, e =>
    rw [List.getElem?_cons_succ] at e
    by_cases hi : i < ds.length
    · rw [List.getElem?_append_left (by rw [List.length_map]; exact hi), List.getElem?_map] at e
      obtain ⟨d2, e1, e2⟩ := Option.map_eq_some_iff.mp e
      cases e2
      obtain ⟨v, hv, hd⟩ := h.getD e1
      refine ⟨v, ?_, hd⟩
      unfold L2.start
      rw [List.getElem?_append_left (by rw [List.length_map, List.length_cons, hl]; omega), List.getElem?_map, List.getElem?_cons_succ, hv]
      rfl
    · rw [List.getElem?_append_right (by rw [List.length_map]; omega), List.getElem?_replicate] at e
      split at e <;> cases e
section
variable {P : Program} {w : World} {K : Fg} {mg : Str → Option Value} {base : Heap} {x : Str} {ps N : List Str} {k c : Nat} {st : Stmt}
theorem fg_mk {Pre : List PyData → Prop} {R : List PyData → PyData → Prop} (a : At K mg x st) (S : FnScope N ps (defScope st))
    (hb : ∀ (kV doc pm : Value) (an : Option Addr) (cdv ct : Value) (us : List Value), us.length = ps.length → bindArgs (PySem.W.fnOf x x (defArgs st) (defBody st) (defScope st) .none kV doc pm an cdv ct) ⟨us, []⟩ = pure (ps.zip us))
    (hl : ∀ ds, Pre ds → ds.length + 1 = ps.length)
    (body : ∀ (f : Addr) (cdv : Value) (A : Around) (outer : List Env) (s : Shared) (H : Hp) (E : XK), A.guards = some [] → Room k (A.deeper (envOfC x (defScope st) s.heap.objs.size f cdv)) →
      ∃ t, PSs (cxOf CX0 P w K mg base N x (defScope st) f cdv A outer s H E).nox (defBody st) t ∧ ∀ ds n, Pre ds → RG K 0 t (enG N ds) (n + c) (R ds) n) : Fc P w K mg base x ps (k + 1) (SpG K c Pre R) := by
  obtain ⟨f, fd, F, hm⟩ := a
  refine ⟨f, fd, hm, F.kp, F.binds hb, fnG F S ?_ ?_⟩
  · rintro vs H Q E ⟨g, ws, B, ds, n, rfl, _, _, _, hd, pre, _⟩
    rw [List.length_cons, hd.len]
    exact hl ds pre
  · intro cdv A outer s H vs Q E gu hr ⟨g, ws, B, ds, n, ev, sx, hg, ga, hd, pre, q⟩
    subst ev
    obtain ⟨t, ht, hx⟩ := body f cdv A outer s H E gu hr
    refine ⟨t, ht.nox, hx ds n pre g _ B H _ sx hg ga ?_ (sd_startG hd) q⟩
    unfold L2.start
    rfl
end
/-! ### lights that are drawn -/
theorem ints_snoc (ns : List Int) (i : Int) : intsD ns ++ [.int i] = intsD (ns ++ [i]) := by
  unfold intsD
  rw [List.map_append]
  rfl
end TD

set_option maxHeartbeats 4000000
/-! # G15: comprehensions over known lists that draw; statements ahead of a return -/
namespace TD
open PySem PySem.Spec PyProof.Rows L2
open Evl (Ex)
section
variable {K : Fg} {j : Nat} {ρ : En} {te : TE} {t : TS} {n m o : Nat} {P P1 : PyData → Prop}
theorem rg_asg {i : Nat} (hij : i ≠ j) (h : EG K j te ρ n P1 m) (k : ∀ d, P1 d → RG K j t (ρ.set i (some d)) m P o) : RG K j (tSeq (tAsg te (gName i)) t) ρ n P o := fun g σ B H D s hg ga hs sd q =>
  h g σ B H s hg ga hs sd _ fun v d B1 H1 l1 g1 hd p => k d p g (σ.set i (some v)) B1 H1 D l1.sub (l1.g hg ga.some) g1 (by rw [List.getElem?_set_ne hij]; exact hs) ((sd.up l1.ek).put i hd)
    fun v2 d2 B2 H2 l2 g2 hd2 p2 => q v2 d2 B2 H2 (l1.tr l2 g1.some) g2 hd2 p2
theorem rg_par {i i2 : Nat} {ta : TA} {Ps : PyData → PyData → Prop} (hij : i ≠ j) (hij2 : i2 ≠ j) (h : EGA K j ta ρ n (fun ds => ∃ x y, ds = [x, y] ∧ Ps x y) m) (k : ∀ x y, Ps x y → RG K j t ((ρ.set i (some x)).set i2 (some y)) m P o) :
    RG K j (tSeq (tPar i i2 ta) t) ρ n P o := fun g σ B H D s hg ga hs sd q =>
  h g σ B H s hg ga hs sd _ fun vs ds B1 H1 l1 g1 hd p => by
    obtain ⟨x, y, rfl, pxy⟩ := p
    obtain ⟨v, r, rfl, dv, dr⟩ := hd.inv1
    obtain ⟨u, r2, rfl, du, dr2⟩ := dr.inv1
    cases dr2
    refine ⟨v, u, rfl, ?_⟩
    refine k x y pxy g _ B1 H1 D l1.sub (l1.g hg ga.some) g1 ?_ (((sd.up l1.ek).put i dv).put i2 du) fun v2 d2 B2 H2 l2 g2 hd2 p2 => q v2 d2 B2 H2 (l1.tr l2 g1.some) g2 hd2 p2
    rw [List.getElem?_set_ne hij2, List.getElem?_set_ne hij]
    exact hs
/-- [e for x in xs], e draws -/
theorem eg_lcL {tl : TE} {i0 : Nat} {vs : List Nat} {N c : Nat} {Pl : List PyData → Prop} {Pe : PyData → PyData → Prop} (h : EG K j tl ρ n (fun d => ∃ ds, d = .list ds ∧ Pl ds ∧ ds.length ≤ N) (m + N * c)) (hN : N ≤ 40000) (hi : i0 ∈ vs) (hj : j ∉ vs)
    (he : ∀ (x : PyData) (k : Nat), EG K j te ((wipeD ρ vs).set i0 (some x)) (k + c) (Pe x) k) :
    EG K j (tLc (iList K tl) (gName i0) tYes te vs) ρ n (fun d => ∃ ds out, Pl ds ∧ d = .list out ∧ out.length ≤ ds.length ∧ ∀ y ∈ out, ∃ x ∈ ds, Pe x y) m := fun g σ B H s hg ga hs sd Q q =>
  h g σ B H s hg ga hs sd _ fun v d B1 H1 l1 g1 hd p => by
    obtain ⟨ds, rfl, pl, hlN⟩ := p
    cases hd with
    | @lst pa xs _ ha hxs =>
      have hg1 := l1.g hg ga.some
      have hpg : pa ≠ g := fun z => by
        rw [z, hg1] at ha
        cases ha
      have hx : SqL K H1 pa xs := SqL.of (l1.sub _ _ ha)
      refine ⟨pa, rfl, ⟨xs, hx⟩, fun D hD => ?_⟩
      have hDg : D ≠ g := fun z => by
        rw [z] at hD
        exact g1.some hD
      refine lc_list (K := K) (a := pa) (xs := xs) (fun i H' => ∃ out, Cg K g B1 H1 D out H' ∧ GenAt g (m + (N - i) * c) H' ∧ out.length ≤ i ∧ ∀ y ∈ out, ∃ x ∈ ds, Pe x y)
        ⟨[], ⟨B1, [], ⟨fun a o _ e => Ex.new hD a o e, Ex.refl B1, l1.sub.trans (Ex.new hD), fun _ z _ => z⟩, Evl.fresh_back l1.sub hD, upd_same, .nil⟩, g1.ex (Ex.new hD), Nat.le_refl _, fun _ h => nomatch h⟩
        (fun i H' _ ⟨out, ⟨B', acc, l, _⟩, _⟩ => SqL.of (l.ex _ _ hpg (l1.sub _ _ ha))) (fun i x H' hit ⟨out, ⟨B', acc, l, nD, eD, ho⟩, gi, hol, hJ⟩ => ?_) (fun H' ⟨out, ⟨B', acc, l, nD, eD, ho⟩, gi, hol, hJ⟩ => ?_)
      · obtain ⟨dx, hdx, dax⟩ := hxs.get hit
        have iN : i < N := by
          have := (List.getElem?_eq_some_iff.mp hdx).1
          omega
        refine ⟨wipe_set vs σ i0 _ L2.wipe (fun _ => rfl) (fun _ _ _ => rfl) hi |>.trans (wipe_none vs), ?_⟩
        have sd' : SD K B' ((L2.wipe σ vs).set i0 (some x)) ((wipeD ρ vs).set i0 (some dx)) := (((sd.up l1.ek).up l.ek).wipe vs).put i0 (dax.ex l.ek)
        have nji : i0 ≠ j := fun z => hj (z ▸ hi)
        have hs' : ((L2.wipe σ vs).set i0 (some x))[j]? = some (some (.ref g)) := by
          rw [List.getElem?_set_ne nji, wipe_keep hj]
          exact hs
        have ef : m + (N - i) * c = (m + (N - (i + 1)) * c) + c := by
          have : N - i = (N - (i + 1)) + 1 := by omega
          rw [this, Nat.add_mul]
          omega
        have hgB : B' g = none := l.g hg1 g1.some
        rw [ef] at gi
        show te _ H' _
        refine he dx _ g _ B' H' l.sub hgB gi hs' sd' _ fun v d B4 H4 l4 g4 d4 p4 => ?_
        have n4 : B4 D = none := l4.old D nD (fun z => by rw [eD] at z; cases z)
        have e4 := l4.ex D _ hDg eD
        have ll4 : LeG g B1 H1 B4 H4 := l.tr l4 gi.some
        have hol2 : (out ++ [d]).length ≤ i + 1 := by
          rw [List.length_append, List.length_singleton]
          omega
        refine ⟨acc, e4, Evl.sz_lt (by rw [ho.len]; omega), out ++ [d], ⟨B4, acc ++ [v], ⟨fun a o na z => ?_, ll4.ek, fun a o z => ?_, ll4.old⟩, n4, upd_same, (ho.ex l4.ek).app (.cons d4 .nil)⟩, ?_, hol2, fun y hy => ?_⟩
        · by_cases w : a = D
          · subst w
            rw [hD] at z
            cases z
          · rw [upd_ne w]
            exact ll4.ex a o na z
        · rw [upd_ne (ne_of_none z n4)]
          exact l4.sub a o z
        · obtain ⟨a, b, c3, z, r⟩ := g4
          exact ⟨a, b, c3, by rw [upd_ne (Ne.symm hDg)]; exact z, r⟩
        · rcases List.mem_append.mp hy with z | z
          · exact hJ y z
          · rw [List.mem_singleton.mp z]
            exact ⟨dx, List.mem_of_getElem? hdx, p4⟩
      · have k : Ex B' (upd B' D (.lst acc)) := fun a o z => by
          rw [upd_ne (ne_of_none z nD)]
          exact z
        refine q (.ref D) (.list out) (upd B' D (.lst acc)) H' (l1.tr ⟨l.ex, l.ek.trans k, fun a o z => ?_, fun a z1 z2 => ?_⟩ g1.some) (gi.less (by omega)) (.lst upd_same (ho.ex k)) ⟨ds, out, pl, rfl, by rw [hxs.len] at hol; exact hol, hJ⟩
        · by_cases w : a = D
          · subst w
            rw [upd_same] at z
            cases z
            exact eD
          · rw [upd_ne w] at z
            exact l.sub a o z
        · rw [upd_ne (fun w => z2 (by rw [w]; exact hD))]
          exact l.old a z1 z2
end
end TD

set_option maxHeartbeats 4000000
/-! # G16: a list of data, sorted -/
namespace TD
open PySem PySem.Spec PyProof.Rows L2
open Evl (Ex)
open PySem.W (AllAlike Sortable EachIs dataLe sorted_data)
theorem each_das {K : Fg} {H : Hp} : ∀ {vs : List V} {us : List Value} {ds : List PyData}, Das K H vs ds → Vals vs us → EachIs (fun u d => ∃ x : V, RelV x u ∧ Da K H x d) us ds
  | _, _, _, .nil, r => by
    cases r
    exact .nil
  | _, _, _, .cons h t, r => by
    cases r with
    | cons r1 r2 => exact .cons ⟨_, r1, h⟩ (each_das t r2)
theorem das_each {K : Fg} {H : Hp} : ∀ {us : List Value} {ds : List PyData}, EachIs (fun u d => ∃ x : V, RelV x u ∧ Da K H x d) us ds → ∃ vs, Vals vs us ∧ Das K H vs ds
  | _, _, .nil => ⟨[], .nil, .nil⟩
  | _, _, .cons h t => by
    obtain ⟨x, h1, h2⟩ := h
    obtain ⟨vs, h3, h4⟩ := das_each t
    exact ⟨x :: vs, .cons h1 h3, .cons h2 h4⟩
theorem each_reads {X : Cx} {pins : List (Addr × Obj)} {σ : L2.St} {H : Hp} {s : Shared} {B : Hp} (sB : Ex B H) (sm : ∃ mm, X.base.Ns sysModules mm) (I : Inv X pins σ H s) : ∀ {us : List Value} {ds : List PyData}, EachIs (fun u d => ∃ x : V, RelV x u ∧ Da X.K B x d) us ds → EachIs (fun u d => ∃ as, Reads s.heap u (id d) as) us ds
  | _, _, .nil => .nil
  | _, _, .cons h t => by
    obtain ⟨x, h1, h2⟩ := h
    obtain ⟨as, r, _⟩ := Da.reads sm I _ x _ (h2.ex sB) h1
    exact .cons ⟨as, r⟩ (each_reads sB sm I t)
def rSortD (K : Fg) : List V → Hp → VK → Prop := fun xs H Q => ∃ B a vs ds, Ex B H ∧ xs = [.ref a] ∧ SqL K H a vs ∧ Das K B vs ds ∧ AllAlike ds ∧ Sortable ds ∧ ds.length ≤ 100000 ∧ (∀ d ∈ ds, d.depth ≤ 60) ∧ ∀ p ys, H p = none → Das K B ys (ds.mergeSort (dataLe false id)) → Q (.ref p) (upd H p (.lst ys))
theorem call_sortD {X : Cx} (sm : ∃ mm, X.base.Ns sysModules mm) (hu : X.A.units + 200 < cLine) : CallR X (.builtin "sorted") (rSortD X.K) := by
  intro pins s σ H xs us Q I r h
  obtain ⟨B, a, vs, ds, sB, rfl, hS, hD, hal, hso, hz, hdp, q⟩ := h
  obtain ⟨u, rfl, ru⟩ := vals1 r
  cases (show u = Value.ref a from ru)
  obtain ⟨its, rv, pl, _⟩ := I.list hS
  have e1 := each_das hD rv
  have e2 := each_reads sB sm I e1
  have em : ds.map (id : PyData → PyData) = ds := List.map_id ds
  refine sorted_data (enc := id) (bs := ds) pl.isList e1 e2 (by rw [em]; exact hal) (by rw [em]; exact hso) (Evl.sz_of hz) (fun b hb => ?_) fun out hl eo => ?_
  · have := hdp b hb
    show X.A.units + 2 + b.depth < cLine
    omega
  · obtain ⟨ys, ry, dy⟩ := das_each eo
    obtain ⟨c, hc⟩ := sortedAll_at s.heap its out.toArray
    have hy : ys.length ≤ sizeLine := by
      rw [ry.length, hl]
      exact Evl.sz_of hz
    have J := I.laid (a := s.heap.objs.size + 1) (o := .lst ys) (h' := sortedAll s.heap its out.toArray) (t' := s.toks) (fun b u e => sortedAll_old e) (Nat.le_succ _) ⟨hy, out, c, ry, hc⟩
    exact ⟨.ref _, _, J, rfl, q _ ys (I.hok.fresh (Nat.le_succ _)) dy⟩
section
variable {K : Fg} {ρ : En} {te : TE} {ds : List PyData}
theorem ed_sortD (h : ED K te ρ (.list ds)) (hal : AllAlike ds) (hso : Sortable ds) (hz : ds.length ≤ 100000) (hdp : ∀ d ∈ ds, d.depth ≤ 60) : ED K (tCB (rSortD K) (tCons te tNil)) ρ (.list (ds.mergeSort (dataLe false id))) := fun σ B H s sd Q q =>
  h σ B H s sd _ fun v B1 H1 l1 d1 => by
    cases d1 with
    | @lst a xs _ ha hs =>
      refine ⟨B1, a, xs, ds, l1.sub, rfl, SqL.of (l1.sub _ _ ha), hs, hal, hso, hz, hdp, fun p ys hp hy => ?_⟩
      have l2 := Le.new (o := .lst ys) l1.sub hp
      exact q _ _ _ (l1.tr l2) (.lst upd_same (hy.ex l2.ek))
end
end TD

set_option maxHeartbeats 4000000
/-! # G17: values that are looked through and printed: of a known size -/
namespace TD
open PySem PySem.Spec PyProof.Rows L2
open Evl (Ex)
structure Gd (k w : Nat) (d : PyData) : Prop where
  sz : szOk d = true
  sh : d.showable = true
  dp : d.depth ≤ k
  up : TD.sz d ≤ w
theorem Gd.up' {k k' w w' : Nat} {d : PyData} (h : Gd k w d) (hk : k ≤ k') (hw : w ≤ w') : Gd k' w' d := ⟨h.sz, h.sh, Nat.le_trans h.dp hk, Nat.le_trans h.up hw⟩
theorem Gd.fine {k w : Nat} {d : PyData} (h : Gd k w d) (hk : k ≤ 100) (hw : w ≤ 16000000) : Fine d := ⟨h.sh, Nat.le_trans h.dp hk, Nat.le_trans h.up hw⟩
def gdB (k w : Nat) (d : PyData) : Bool := szOk d && d.showable && decide (d.depth ≤ k) && decide (TD.sz d ≤ w)
theorem gd_of {k w : Nat} {d : PyData} (h : gdB k w d = true) : Gd k w d := by
  unfold gdB at h
  simp only [Bool.and_eq_true, decide_eq_true_eq] at h
  exact ⟨h.1.1.1, h.1.1.2, h.1.2, h.2⟩
theorem gd_all {k w : Nat} : ∀ {ds : List PyData}, (∀ d ∈ ds, Gd k w d) → szAll ds = true ∧ PyData.showableAll ds = true ∧ PyData.depthAll ds ≤ k ∧ szs ds ≤ ds.length * (w + 2)
  | [], _ => ⟨by simp [szAll], by simp [PyData.showableAll], by simp [PyData.depthAll], by simp [szs]⟩
  | d :: ds, h => by
    obtain ⟨h1, h2, h3, h4⟩ := gd_all fun e he => h e (List.mem_cons_of_mem _ he)
    have hd := h d (List.mem_cons_self ..)
    refine ⟨?_, ?_, ?_, ?_⟩
    · rw [szAll, hd.sz, h1]
      rfl
    · rw [PyData.showableAll, hd.sh, h2]
      rfl
    · rw [PyData.depthAll]
      exact Nat.max_le.mpr ⟨hd.dp, h3⟩
    · rw [szs, List.length_cons, Nat.add_mul]
      have := hd.up
      omega
theorem gd_list {k w n : Nat} {ds : List PyData} (h : ∀ d ∈ ds, Gd k w d) (hl : ds.length ≤ n) (hn : n ≤ 50) : Gd (k + 1) (n * (w + 2) + 5) (.list ds) := by
  obtain ⟨h1, h2, h3, h4⟩ := gd_all h
  refine ⟨?_, ?_, ?_, ?_⟩
  · rw [szOk, h1, decide_eq_true (by omega)]
    rfl
  · rw [PyData.showable]
    exact h2
  · rw [PyData.depth]
    omega
  · show szs ds + 5 ≤ _
    have := Nat.mul_le_mul_right (w + 2) hl
    omega
theorem gd_tup {k w n : Nat} {ds : List PyData} (h : ∀ d ∈ ds, Gd k w d) (hl : ds.length ≤ n) (hn : n ≤ 50) : Gd (k + 1) (n * (w + 2) + 5) (.tuple ds) := by
  obtain ⟨h1, h2, h3, h4⟩ := gd_all h
  refine ⟨?_, ?_, ?_, ?_⟩
  · rw [szOk, h1, decide_eq_true (by omega)]
    rfl
  · rw [PyData.showable]
    exact h2
  · rw [PyData.depth]
    omega
  · show szs ds + 5 ≤ _
    have := Nat.mul_le_mul_right (w + 2) hl
    omega
theorem gd_int {i : Int} (h : -1000 ≤ i ∧ i ≤ 1000) : Gd 0 2000 (.int i) := by
  refine ⟨rfl, decide_eq_true ?_, Nat.zero_le _, Nat.le_of_ble_eq_true rfl⟩
  have h1 : i.natAbs < 2 ^ 10 := Nat.lt_of_le_of_lt (show i.natAbs ≤ 1000 by omega) (by decide)
  exact Nat.lt_of_lt_of_le (PySem.Flt.log2_lt_of (by decide) h1) (by decide)
/-- lights of at most 8 rooms -/
theorem gd_lights {r : Nat} {ns : List Int} (h : fitsLights r (.list (intsD ns)) = true) (hr : r ≤ 8) (hl : ns.length ≤ r) : Gd 1 16100 (.list (intsD ns)) := by
  refine (gd_list (k := 0) (w := 2000) (n := 8) (fun d hd => ?_) (by unfold intsD; rw [List.length_map]; omega) (by decide)).up' (Nat.le_refl _) (by decide)
  obtain ⟨i, rfl, h0, h1⟩ := asc_ints h d hd
  exact gd_int (by omega)
section
variable {K : Fg} {j : Nat} {ρ : En} {te : TE} {tr : TA} {n m k l : Nat} {G : PyData → Prop}
theorem ega_all0 : EGA K j tNil ρ n (fun ds => ds.length = 0 ∧ ∀ x ∈ ds, G x) n := fun g σ B H s hg ga hs sd Q q => ega_nil g σ B H s hg ga hs sd Q fun vs ds B' H' l g2 hd p => q vs ds B' H' l g2 hd (by
  subst p
  exact ⟨rfl, fun x h => nomatch h⟩)
theorem ega_all1 (h : EG K j te ρ n G m) (hr : EGA K j tr ρ m (fun ds => ds.length = l ∧ ∀ x ∈ ds, G x) k) : EGA K j (tCons te tr) ρ n (fun ds => ds.length = l + 1 ∧ ∀ x ∈ ds, G x) k := fun g σ B H s hg ga hs sd Q q =>
  ega_cons h hr g σ B H s hg ga hs sd Q fun vs ds B' H' l' g2 hd p => q vs ds B' H' l' g2 hd (by
    obtain ⟨d, r, rfl, hd, hl, hr⟩ := p
    refine ⟨by rw [List.length_cons, hl], fun x hx => ?_⟩
    rcases List.mem_cons.mp hx with z | z
    · exact z ▸ hd
    · exact hr x z)
theorem eg_gd {d : PyData} (h : ED K te ρ d) (hg : G d) : EG K j te ρ n G n := eg_to (eg_of h) fun x e => e ▸ hg
end
end TD

set_option maxHeartbeats 4000000
/-! # G18: slices, tuple(list), a loop that gathers -/
namespace TD
open PySem PySem.Spec PyProof.Rows L2
open Evl (Ex)
def cutD (ds : List PyData) (lo hi : Option Int) : List PyData := (ds.drop (HT.sIx ds.length 0 lo)).take (HT.sIx ds.length ds.length hi - HT.sIx ds.length 0 lo)
theorem cutD_mem {ds : List PyData} {lo hi : Option Int} {x : PyData} (h : x ∈ cutD ds lo hi) : x ∈ ds := List.mem_of_mem_drop (List.mem_of_mem_take h)
theorem cutD_len (ds : List PyData) (lo hi : Option Int) : (cutD ds lo hi).length ≤ ds.length := by
  unfold cutD
  rw [List.length_take, List.length_drop]
  omega
section
variable {K : Fg} {ρ : En} {te : TE} {ds : List PyData}
theorem Das.cut {B : Hp} {vs : List V} (h : Das K B vs ds) (lo hi : Option Int) : Das K B (cutV vs lo hi) (cutD ds lo hi) := by
  unfold cutV cutD
  rw [h.len]
  exact (h.drop _).take _
def EO (K : Fg) (to : TO) (ρ : En) (o : Option Int) : Prop := ∀ σ B H, Ex B H → SD K B σ ρ → ∀ Q : Option Int → Hp → Prop, (∀ B' H', Le B H B' H' → Q o H') → to σ H Q
theorem eo_some {i : Int} (h : ED K te ρ (.int i)) : EO K (tPart te) ρ (some i) := fun σ B H s sd Q q => h σ B H s sd _ fun v B1 H1 l1 d1 => by
  cases d1
  exact ⟨i, rfl, q B1 H1 l1⟩
theorem ed_slice {tl th : TO} {lo hi : Option Int} (h : ED K te ρ (.list ds)) (hl : EO K tl ρ lo) (hh : EO K th ρ hi) : ED K (tSl (rSlL K) te tl th) ρ (.list (cutD ds lo hi)) := fun σ B H s sd Q q =>
  h σ B H s sd _ fun v B1 H1 l1 d1 => hl σ B1 H1 l1.sub (sd.up l1.ek) _ fun B2 H2 l2 => hh σ B2 H2 l2.sub (sd.up (l1.tr l2).ek) _ fun B3 H3 l3 => by
    have d3 := d1.ex (l2.tr l3).ek
    cases d3 with
    | @lst a xs _ ha hs =>
      refine ⟨a, xs, rfl, SqL.of (l3.sub _ _ ha), fun p hp => ?_⟩
      have l4 := Le.new (o := .lst (cutV xs lo hi)) l3.sub hp
      exact q _ _ _ (((l1.tr l2).tr l3).tr l4) (.lst upd_same ((hs.cut lo hi).ex l4.ek))
theorem rc_tupleL : RcD K (fun xs H Q => ∃ p ys, xs = [.ref p] ∧ ((SqL K H p ys ∧ ∀ l, H l = none → Q (.ref l) (upd H l (.tup ys))) ∨ (SqT K H p ys ∧ Q (.ref p) H))) [.list ds] (.tuple ds) := fun vs B H s h Q q => by
  obtain ⟨v, r, rfl, a, t⟩ := h.inv1
  cases t
  cases a with
  | @lst p xs _ ha hs =>
    refine ⟨p, xs, rfl, .inl ⟨SqL.of (s _ _ ha), fun l hl => ?_⟩⟩
    have l2 := Le.new (o := .tup xs) s hl
    exact q _ _ _ l2 (.tup upd_same (hs.ex l2.ek))
theorem seq_forL {tl : TE} {g : TG} {tb u : TS} {D : Ends} {σ : L2.St} {H : Hp} (h : tl σ H fun x H1 => ∃ a, x = .ref a ∧ (∃ xs, SqL K H1 a xs) ∧ tFor (fun _ _ R => R (Itl K a) H1) g tb { D with nx := u D } σ H1) : tSeq (tFor (iList K tl) g tb) u D σ H := h
/-- for x in xs: found = ..; what is found is data -/
theorem rg_gather {j i0 i1 : Nat} {tl : TE} {u : TS} {n m o N : Nat} {G P : PyData → Prop} {f0 : List PyData} (I : Nat → List PyData → Prop) (h : EG K j tl ρ n (fun d => ∃ ds, d = .list ds ∧ ds.length ≤ N ∧ ∀ x ∈ ds, G x) m) (h0 : i0 ≠ j) (h1 : i1 ≠ j) (h01 : i0 ≠ i1) (hf : ρ[i1]? = some (some (.list f0))) (hI : I 0 f0)
    (step : ∀ i x fs, i < N → G x → I i fs → ∃ fs', I (i + 1) fs' ∧ ED K te (((ρ.set i1 (some (.list fs))).set i0 (some x))) (.list fs'))
    (rest : ∀ i fs, i ≤ N → I i fs → RG K j u ((ρ.set i1 (some (.list fs))).set i0 none) m P o) : RG K j (tSeq (tFor (iList K tl) (gName i0) (tAsg te (gName i1))) u) ρ n P o := fun g σ B H D s hg ga hs sd q => by
  refine seq_forL (h g σ B H s hg ga hs sd _ fun v d B1 H1 l1 g1 hd p => ?_)
  obtain ⟨ds, rfl, hN, hG⟩ := p
  cases hd with
  | @lst pa xs _ ha hxs =>
    have hg1 := l1.g hg ga.some
    have hpg : pa ≠ g := fun z => by
      rw [z, hg1] at ha
      cases ha
    refine ⟨pa, rfl, ⟨xs, SqL.of (l1.sub _ _ ha)⟩, ?_⟩
    have ρ0 : SD K B1 σ ((ρ.set i1 (some (.list f0))).set i0 none) := by
      refine (sd.up l1.ek).less (by rw [List.length_set, List.length_set]) fun i d e => ?_
      by_cases w : i0 = i
      · subst w
        by_cases l : i0 < (ρ.set i1 (some (.list f0))).length
        · rw [List.getElem?_set_self l] at e
          cases e
        · rw [List.getElem?_eq_none (by rw [List.length_set]; omega)] at e
          cases e
      · rw [List.getElem?_set_ne w] at e
        by_cases w2 : i1 = i
        · subst w2
          have l : i1 < ρ.length := (List.getElem?_eq_some_iff.mp hf).1
          rw [List.getElem?_set_self l] at e
          rw [hf]
          exact e
        · rwa [List.getElem?_set_ne w2] at e
    refine for_list (K := K) (a := pa) (xs := xs) (fun i σ' H' => ∃ B' fs, SD K B' σ' ((ρ.set i1 (some (.list fs))).set i0 none) ∧ σ'[j]? = some (some (.ref g)) ∧ LeG g B1 H1 B' H' ∧ GenAt g m H' ∧ I i fs) ⟨B1, f0, ρ0, hs, ⟨fun _ _ _ e => e, Ex.refl _, l1.sub, fun _ z _ => z⟩, g1, hI⟩
      (fun i σ' H' _ ⟨B', fs, _, _, l, _⟩ => SqL.of (l.ex _ _ hpg (l1.sub _ _ ha))) (fun i x σ' H' hit ⟨B', fs, sd', hs', l, gi, hJ⟩ => ?_) (fun σ' H' ⟨B', fs, sd', hs', l, gi, hJ⟩ => ?_)
    · obtain ⟨dx, hdx, dax⟩ := hxs.get hit
      have iN : i < N := by
        have := (List.getElem?_eq_some_iff.mp hdx).1
        omega
      obtain ⟨fs', hI', he⟩ := step i dx fs iN (hG dx (List.mem_of_getElem? hdx)) hJ
      have sd2 : SD K B' (σ'.set i0 (some x)) ((ρ.set i1 (some (.list fs))).set i0 (some dx)) := by
        have z := sd'.put i0 (dax.ex l.ek)
        rwa [List.set_set] at z
      refine he _ B' H' l.sub sd2 _ fun v B4 H4 l4 d4 => ?_
      refine ⟨B4, fs', ?_, ?_, l.tr (LeG.of l4) gi.some, gi.ex l4.ex, hI'⟩
      · have z := ((sd2.up l4.ek).put i1 d4).drop i0 ((σ'.set i0 (some x)).set i1 (some v))[i0]?.join
        have e1 : ((((ρ.set i1 (some (.list fs))).set i0 (some dx)).set i1 (some (.list fs'))).set i0 none) = ((ρ.set i1 (some (.list fs'))).set i0 none) := by
          rw [List.set_comm _ _ h01, List.set_set, List.set_set]
        rw [e1] at z
        refine ⟨by have := z.1; rw [List.length_set] at this; exact this, fun i d e => ?_⟩
        by_cases w : i0 = i
        · subst w
          by_cases lq : i0 < (ρ.set i1 (some (.list fs'))).length
          · rw [List.getElem?_set_self lq] at e
            cases e
          · rw [List.getElem?_eq_none (by rw [List.length_set]; omega)] at e
            cases e
        · obtain ⟨v2, q1, q2⟩ := z.2 i d e
          rw [List.getElem?_set_ne w] at q1
          exact ⟨v2, q1, q2⟩
      · rw [List.getElem?_set_ne h1, List.getElem?_set_ne h0]
        exact hs'
    · have hle : xs.length ≤ N := by
        rw [hxs.len]
        exact hN
      exact rest _ fs hle hJ g σ' B' H' D l.sub (l.g hg1 g1.some) gi hs' sd' fun v2 d2 B2 H2 l2 g2 hd2 p2 => q v2 d2 B2 H2 ((l1.tr l g1.some).tr l2 gi.some) g2 hd2 p2
end
end TD

set_option maxHeartbeats 4000000
/-! # G19: loops over a drawn list whose turns keep the generator's slot -/
namespace TD
open PySem PySem.Spec PyProof.Rows L2
open Evl (Ex)
def XJ (K : Fg) (j : Nat) (t : TS) (ρ ρ' : En) : Prop := ∀ σ B H (D : Ends), Ex B H → SD K B σ ρ → (∀ σ' B' H', Le B H B' H' → SD K B' σ' ρ' → σ'[j]? = σ[j]? → D.nx σ' H') → t D σ H
section
variable {K : Fg} {j : Nat} {ρ ρ1 ρ2 : En} {te : TE} {tt : TT} {t u : TS} {d x y : PyData}
theorem xj_asg {i : Nat} (hij : i ≠ j) (h : ED K te ρ d) : XJ K j (tAsg te (gName i)) ρ (ρ.set i (some d)) := fun σ B H D s sd q =>
  h σ B H s sd _ fun v B1 H1 l1 d1 => q _ B1 H1 l1 ((sd.up l1.ek).put i d1) (List.getElem?_set_ne hij)
theorem xj_par {i i2 : Nat} {ta : TA} (hi : i ≠ j) (hi2 : i2 ≠ j) (h : EA K ta ρ [x, y]) : XJ K j (tPar i i2 ta) ρ ((ρ.set i (some x)).set i2 (some y)) := fun σ B H D s sd q =>
  h σ B H s sd _ fun vs B1 H1 l1 d1 => by
    obtain ⟨v, r, rfl, a, b⟩ := d1.inv1
    obtain ⟨v2, r2, rfl, a2, b2⟩ := b.inv1
    cases b2
    refine ⟨v, v2, rfl, q _ B1 H1 l1 (((sd.up l1.ek).put i a).put i2 a2) ?_⟩
    rw [List.getElem?_set_ne hi2, List.getElem?_set_ne hi]
theorem xj_skip (h : ET K tt ρ false) : XJ K j (tIfS tt t tNext) ρ ρ := fun σ B H D s sd q =>
  h σ B H s sd _ fun B1 H1 l1 => q σ B1 H1 l1 (sd.up l1.ek) rfl
theorem xj_seq (h1 : XJ K j t ρ ρ1) (h2 : XJ K j u ρ1 ρ2) : XJ K j (tSeq t u) ρ ρ2 := fun σ B H D s sd q =>
  h1 σ B H _ s sd fun σ1 B1 H1 l1 s1 e1 => h2 σ1 B1 H1 D l1.sub s1 fun σ2 B2 H2 l2 s2 e2 => q σ2 B2 H2 (l1.tr l2) s2 (e2.trans e1)
theorem wipeD_len : ∀ (cs : List Nat) (ρ : En), (wipeD ρ cs).length = ρ.length
  | [], _ => rfl
  | c :: cs, ρ => by
    show ((wipeD ρ cs).set c none).length = _
    rw [List.length_set, wipeD_len cs ρ]
theorem wipeD_sub : ∀ (cs : List Nat) {ρ : En} {i : Nat} {d : PyData}, (wipeD ρ cs)[i]? = some (some d) → ρ[i]? = some (some d)
  | [], _, _, _, h => h
  | c :: cs, ρ, i, d, h => by
    have h' : ((wipeD ρ cs).set c none)[i]? = some (some d) := h
    by_cases w : c = i
    · subst w
      by_cases l : c < (wipeD ρ cs).length
      · rw [List.getElem?_set_self l] at h'
        cases h'
      · rw [List.getElem?_eq_none (by rw [List.length_set]; omega)] at h'
        cases h'
    · rw [List.getElem?_set_ne w] at h'
      exact wipeD_sub cs h'
theorem rg_each {i0 : Nat} {cs : List Nat} {tl : TE} {n m o : Nat} {G P : PyData → Prop} (h : EG K j tl ρ n (fun d => ∃ ds, d = .list ds ∧ ∀ x ∈ ds, G x) m) (h0 : i0 ≠ j)
    (body : ∀ x, G x → ∃ ρ2, XJ K j t ((wipeD ρ cs).set i0 (some x)) ρ2 ∧ ρ2.length = ρ.length ∧ ∀ (i : Nat) (d : PyData), (wipeD ρ cs)[i]? = some (some d) → ρ2[i]? = some (some d))
    (rest : RG K j u (wipeD ρ cs) m P o) : RG K j (tSeq (tFor (iList K tl) (gName i0) t) u) ρ n P o := fun g σ B H D s hg ga hs sd q => by
  refine seq_forL (h g σ B H s hg ga hs sd _ fun v d B1 H1 l1 g1 hd p => ?_)
  obtain ⟨ds, rfl, hG⟩ := p
  cases hd with
  | @lst pa xs _ ha hxs =>
    have hg1 := l1.g hg ga.some
    have hpg : pa ≠ g := fun z => by
      rw [z, hg1] at ha
      cases ha
    refine ⟨pa, rfl, ⟨xs, SqL.of (l1.sub _ _ ha)⟩, ?_⟩
    refine for_list (K := K) (a := pa) (xs := xs) (fun i σ' H' => ∃ B', SD K B' σ' (wipeD ρ cs) ∧ σ'[j]? = some (some (.ref g)) ∧ Le B1 H1 B' H') ⟨B1, (sd.up l1.ek).less (wipeD_len cs ρ) fun i d e => wipeD_sub cs e, hs, Le.rfl' l1.sub⟩
      (fun i σ' H' _ ⟨B', _, _, l⟩ => SqL.of (l.ex _ _ (l1.sub _ _ ha))) (fun i x σ' H' hit ⟨B', sd', hs', l⟩ => ?_) (fun σ' H' ⟨B', sd', hs', l⟩ => ?_)
    · obtain ⟨dx, hdx, dax⟩ := hxs.get hit
      obtain ⟨ρ2, hx, hl, hsub⟩ := body dx (hG dx (List.mem_of_getElem? hdx))
      refine hx _ B' H' _ l.sub (sd'.put i0 (dax.ex l.ek)) fun σ2 B2 H2 l2 s2 e2 => ?_
      refine ⟨B2, s2.less (by rw [wipeD_len, hl]) hsub, ?_, l.tr l2⟩
      rw [e2, List.getElem?_set_ne h0]
      exact hs'
    · have lg : LeG g B1 H1 B' H' := LeG.of l
      exact rest g σ' B' H' D l.sub (lg.g hg1 g1.some) (g1.ex l.ex) hs' sd' fun v2 d2 B2 H2 l2 g2 hd2 p2 => q v2 d2 B2 H2 ((l1.tr lg g1.some).tr l2 (g1.ex l.ex).some) g2 hd2 p2
theorem rg_seqJ {n o : Nat} {P : PyData → Prop} (h : XJ K j t ρ ρ1) (k : RG K j u ρ1 n P o) : RG K j (tSeq t u) ρ n P o := fun g σ B H D s hg ga hs sd q =>
  h σ B H _ s sd fun σ1 B1 H1 l1 s1 e1 => k g σ1 B1 H1 D l1.sub ((LeG.of l1).g hg ga.some) (ga.ex l1.ex) (e1.trans hs) s1 fun v d B2 H2 l2 g2 hd p => q v d B2 H2 ((LeG.of l1).tr l2 (ga.ex l1.ex).some) g2 hd p
end
theorem rc_repr {K : Fg} {d : PyData} (hf : Fine d) : RcD K (rRepr K) [d] (.str d.shown) := fun vs B H s h Q q => by
  obtain ⟨v, r, rfl, a, t⟩ := h.inv1
  cases t
  exact ⟨v, d, rfl, a.ex s, hf, q _ B H (Le.rfl' s) (.str _)⟩
end TD

set_option maxHeartbeats 4000000
/-! # G20: a def that is handed a def: calls of what a slot holds, in comprehensions, too -/
namespace TD
open PySem PySem.Spec PyProof.Rows L2
open Evl (Ex)
/-- the def at f may be called, and keeps sp -/
def CPc (P : Program) (w : World) (K : Fg) (mg : Str → Option Value) (base : Heap) (k : Nat) : Addr → Sp → Prop := fun f sp => ∃ x ps, Fc P w K mg base x ps k sp ∧ mg x = some (.ref f)
def tCallN (CP : Addr → Sp → Prop) (i : Nat) (t : TA) : TE := fun σ H Q => ∃ f sp, σ[i]? = some (some (.ref f)) ∧ CP f sp ∧ t σ H fun vs H2 => sp vs H2 Q E0
section
variable {X : Cx} {e : Expr} {es : List Expr} {pos : Pos} {t : TA} {k : Nat}
theorem pe_callNc {a : Str} {p : Pos} {i : Nat} {CP : Addr → Sp → Prop} (hcp : ∀ f sp, CP f sp → CPc X.prog X.w X.K X.mg X.base k f sp) (gu : X.A.guards = some []) (hr : Room k X.A) (hN : X.N[i]? = some a) (hv : Vis X.env.scope a) (ha : PA X (e :: es) t)
    (z1 : (a == ("__debug__" : Str)) = false := by decide) (z2 : (a == ("__classdict__" : Str)) = false := by decide)
    (d2 : starEach (e :: es) X.env = (false, eval e X.env) :: starEach es X.env := by rfl)
    (d3 : (backTo pos (starEach es X.env)).any (·.1) = false := by rfl) :
    PE X (.Call (.Name a p) (e :: es) [] pos) (tCallN CP i t) := by
  refine ⟨fun pins s σ H Q I ⟨f, sp, hs, hcp1, q⟩ => ?_⟩
  obtain ⟨x, ps, ⟨f', fd, hm', kp, hb, F⟩, hm⟩ := hcp f sp hcp1
  rw [hm] at hm'
  cases hm'
  refine wpAny_Call_Name_kw (thn ((pe_var (pos := p) (i := i) hN hv z1 z2).run pins s σ H (fun v H1 => v = .ref f ∧ H1 = H) I ⟨.ref f, hs, rfl, rfl⟩) fun u s1 ⟨v, H1, I1, r1, ev, eh⟩ => ?_)
  subst ev
  subst eh
  cases (show u = Value.ref f from r1)
  refine PySem.W.callWith_K (h₀ := X.base) I1.ok.mod.kin kp (thn (ha.run pos pins s1 σ H1 _ I1 q) ?_) d2 d3
  intro us s2 ⟨vs, H2, I2, r, q2⟩
  have b := hb s2 us I2.kIn (by rw [List.append_nil, ← r.length]; exact F.ln _ _ _ _ q2)
  rw [List.append_nil] at b
  exact ⟨I2.kIn, runG F gu hr b pass0 I2 r q2⟩
end
section
variable {P : Program} {w : World} {K : Fg} {mg : Str → Option Value} {base : Heap} {x : Str} {ps N : List Str} {k : Nat} {st : Stmt} {sp : Sp}
/-- a def with a promise of any form -/
theorem fcg_mk (a : At K mg x st) (S : FnScope N ps (defScope st))
    (hb : ∀ (kV doc pm : Value) (an : Option Addr) (cdv ct : Value) (us : List Value), us.length = ps.length → bindArgs (PySem.W.fnOf x x (defArgs st) (defBody st) (defScope st) .none kV doc pm an cdv ct) ⟨us, []⟩ = pure (ps.zip us))
    (hl : ∀ vs H Q E, sp vs H Q E → vs.length = ps.length)
    (body : ∀ (f : Addr) (cdv : Value) (A : Around) (outer : List Env) (s : Shared) (H : Hp) (vs : List V) (Q : VK) (E : XK), A.guards = some [] → Room k (A.deeper (envOfC x (defScope st) s.heap.objs.size f cdv)) → sp vs H Q E →
      ∃ t, PSs (cxOf CX0 P w K mg base N x (defScope st) f cdv A outer s H E).nox (defBody st) t ∧ t { nx := fun _ H' => Q .non H', rt := Q } (L2.start N vs) H) : Fc P w K mg base x ps (k + 1) sp := by
  obtain ⟨f, fd, F, hm⟩ := a
  refine ⟨f, fd, hm, F.kp, F.binds hb, fnG F S hl ?_⟩
  intro cdv A outer s H vs Q E gu hr h
  obtain ⟨t, ht, hx⟩ := body f cdv A outer s H vs Q E gu hr h
  exact ⟨t, ht.nox, hx⟩
end
section
variable {K : Fg} {ρ ρ' : En} {te : TE} {J : L2.St → Prop} {d : PyData}
/-- a reading where J is known of the slots -/
def EDs (K : Fg) (J : L2.St → Prop) (te : TE) (ρ : En) (d : PyData) : Prop := ∀ σ, J σ → ∀ B H, Ex B H → SD K B σ ρ → ∀ Q : VK, (∀ v B' H', Le B H B' H' → Da K B' v d → Q v H') → te σ H Q
theorem eds_callN {CP : Addr → Sp → Prop} {f : Addr} {R : List PyData → PyData → Prop} {i : Nat} {ta : TA} {ds : List PyData} (c : CP f (SpR K R)) (ha : EA K ta ρ ds) (hR : R ds d) : EDs K (fun σ => σ[i]? = some (some (.ref f))) (tCallN CP i ta) ρ d := fun σ hs B H s sd Q q =>
  ⟨f, _, hs, c, ha σ B H s sd _ fun vs B1 H1 l1 d1 => ⟨B1, ds, d, l1.sub, d1, hR, fun u B2 H2 l2 d2 => q u B2 H2 (l1.tr l2) d2⟩⟩
theorem czs_turn {B H : Hp} {D : Addr} {out : List PyData} {H' : Hp} {σ' : L2.St} {y : PyData} (hD : H D = none) (c : Cz K B H D out H') (sd : SD K B σ' ρ') (js : J σ') (hl : out.length ≤ 50000) (he : EDs K J te ρ' y) {P : Hp → Prop}
    (h1 : ∀ H2, Cz K B H D (out ++ [y]) H2 → P H2) :
    tYes σ' H' fun b2 H3 => if b2 = true then te σ' H3 fun v H4 => ∃ acc, H4 D = some (.lst acc) ∧ acc.length < sizeLine ∧ P (upd H4 D (.lst (acc ++ [v]))) else P H3 := by
  obtain ⟨B', acc, l, n, e, h⟩ := c
  show te σ' H' _
  refine he σ' js B' H' l.sub (sd.up l.ek) _ fun v B4 H4 l4 d4 => ?_
  have n4 : B4 D = none := l4.old D n (fun z => by rw [e] at z; cases z)
  refine ⟨acc, l4.ex D _ e, Evl.sz_lt (by rw [h.len]; omega), h1 _ ⟨B4, acc ++ [v], ⟨fun a o q => ?_, (l.tr l4).ek, fun a o q => ?_, (l.tr l4).old⟩, n4, upd_same, (h.ex l4.ek).app (.cons d4 .nil)⟩⟩
  · by_cases z : a = D
    · subst z
      rw [hD] at q
      cases q
    · rw [upd_ne z]
      exact (l.tr l4).ex a o q
  · rw [upd_ne (ne_of_none q n4)]
    exact l4.sub a o q
/-- [e for x in xs] over a list -/
theorem eds_lcL {tl : TE} {j : Nat} {vs : List Nat} {ds : List PyData} (g : PyData → PyData) (h : ED K tl ρ (.list ds)) (hj : j ∈ vs) (hz : ds.length ≤ 40000) (hJ : ∀ σ x, J σ → J ((L2.wipe σ vs).set j (some x)))
    (he : ∀ d, d ∈ ds → EDs K J te ((wipeD ρ vs).set j (some d)) (g d)) : EDs K J (tLc (iList K tl) (gName j) tYes te vs) ρ (.list (ds.map g)) := fun σ js B H s sd Q q =>
  h σ B H s sd _ fun v B1 H1 l1 d1 => by
    cases d1 with
    | @lst p xs _ ha hs =>
      have hx : SqL K H1 p xs := SqL.of (l1.sub _ _ ha)
      refine ⟨p, rfl, ⟨xs, hx⟩, fun D hD => ?_⟩
      refine lc_list (K := K) (a := p) (xs := xs) (fun i H' => Cz K B1 H1 D ((ds.take i).map g) H') (cz_start l1.sub hD) (fun i H' _ ⟨B', acc, l, _⟩ => SqL.of (l.ex _ _ (l1.sub _ _ ha))) (fun i x H' hi c => ?_) (fun H' c => ?_)
      · obtain ⟨e, he1, hd⟩ := hs.get hi
        have me : e ∈ ds := List.mem_of_getElem? he1
        refine ⟨?_, ?_⟩
        · exact wipe_set vs σ j (some x) L2.wipe (fun _ => rfl) (fun _ _ _ => rfl) hj |>.trans (wipe_none vs)
        · refine czs_turn hD c ((((sd.up l1.ek).wipe vs)).put j hd) (hJ σ x js) ?_ (he e me) (fun H2 c2 => ?_)
          · have z2 : ((ds.take i).map g).length ≤ ds.length := by
              rw [List.length_map, List.length_take]
              omega
            omega
          · show Cz K B1 H1 D ((ds.take (i + 1)).map g) H2
            have e : (ds.take (i + 1)).map g = (ds.take i).map g ++ [g e] := by
              rw [List.take_add_one, he1, List.map_append]
              rfl
            rw [e]
            exact c2
      · have e : ds.take xs.length = ds := by
          rw [hs.len]
          exact List.take_length
        rw [e] at c
        obtain ⟨B', l, hd⟩ := cz_end hD c
        exact q _ _ _ (l1.tr l) hd
theorem eds_allL {tl : TE} {j : Nat} {vs : List Nat} {ds : List PyData} (p : PyData → Bool) (h : ED K tl ρ (.list ds)) (hj : j ∈ vs) (hz : ds.length ≤ 40000) (hJ : ∀ σ x, J σ → J ((L2.wipe σ vs).set j (some x)))
    (he : ∀ d, d ∈ ds → EDs K J te ((wipeD ρ vs).set j (some d)) (.bool (p d))) :
    EDs K J (tCB (rAll K) (tCons (tLc (iList K tl) (gName j) tYes te vs) tNil)) ρ (.bool (ds.all p)) := fun σ js B H s sd Q q => by
  have e2 : ds.all p = (ds.map p).all id := by rw [List.all_map]; rfl
  rw [e2] at q
  have h1 := eds_lcL (te := te) (J := J) (fun d => .bool (p d)) h hj hz hJ he
  have e : (ds.map fun d => PyData.bool (p d)) = (ds.map p).map PyData.bool := by rw [List.map_map]; rfl
  rw [e] at h1
  exact h1 σ js B H s sd _ fun v B1 H1 l1 d1 => rc_all _ B1 H1 l1.sub (.cons d1 .nil) Q fun u B3 H3 l3 d3 => q u B3 H3 (l1.tr l3) d3
/-- statements beside such a slot -/
def XSs (K : Fg) (J : L2.St → Prop) (t : TS) (ρ : En) (o : Out) : Prop := ∀ σ, J σ → ∀ B H (D : Ends), Ex B H → SD K B σ ρ → Meet K D B H o → t D σ H
theorem xss_of {t : TS} {o : Out} (h : XS K t ρ o) : XSs K J t ρ o := fun σ _ B H D s sd m => h σ B H D s sd m
theorem xss_ret (h : EDs K J te ρ d) : XSs K J (tRet te) ρ (.ret d) := fun σ js B H D s sd m => h σ js B H s sd _ m
/-- a slot that is not written keeps what it holds -/
def KeepsS (J : L2.St → Prop) (t : TS) (ρ ρ' : En) (K : Fg) : Prop := ∀ σ, J σ → ∀ B H (D : Ends), Ex B H → SD K B σ ρ → (∀ σ' B' H', J σ' → Le B H B' H' → SD K B' σ' ρ' → D.nx σ' H') → t D σ H
theorem xss_seq {t u : TS} {ρ1 : En} {o : Out} (h1 : KeepsS J t ρ ρ1 K) (h2 : XSs K J u ρ1 o) : XSs K J (tSeq t u) ρ o := fun σ js B H D s sd m =>
  h1 σ js B H _ s sd fun σ' B' H' js' l s' => h2 σ' js' B' H' D l.sub s' (m.back l)
theorem ks_skip {tt : TT} {t : TS} (h : ET K tt ρ false) : KeepsS J (tIfS tt t tNext) ρ ρ K := fun σ js B H D s sd m =>
  h σ B H s sd _ fun B1 H1 l1 => by
    show tNext D σ H1
    exact m σ B1 H1 js l1 (sd.up l1.ek)
theorem ks_asg2 {i j : Nat} {x y : PyData} (h : ED K te ρ (.tuple [x, y])) (hJ : ∀ σ a b, J σ → J ((σ.set i (some a)).set j (some b))) : KeepsS J (tAsg te (gTup K 2 (gCons (gName i) (gCons (gName j) gNil)))) ρ ((ρ.set i (some x)).set j (some y)) K := fun σ js B H D s sd m =>
  h σ B H s sd _ fun v B1 H1 l1 d1 => by
    cases d1 with
    | tup ha hs =>
      obtain ⟨v1, r1, rfl, a1, hs⟩ := hs.inv1
      obtain ⟨v2, r2, rfl, a2, hs⟩ := hs.inv1
      cases hs
      exact ⟨_, _, rfl, SqT.of (l1.sub _ _ ha), rfl, v1, _, rfl, v2, _, rfl, rfl, m _ B1 H1 (hJ σ v1 v2 js) l1 (((sd.up l1.ek).put i a1).put j a2)⟩
end
end TD

set_option maxHeartbeats 4000000
/-! # E0: an own exception class called with keywords, its __init__ walked as a def -/
namespace TDX
open PySem PySem.W PySem.Calls PySem.HandSPX
section
variable {prog : Program} {w : World} {A : Around} {E : Value → Shared → Prop} {R : Result → Shared → Prop} {h : Heap} {g : Array GenState} {d : Drawn} {t : Nat} {os : OsState}
variable {nm q : Str} {C N : Addr} {bs bm bmB : List Value} {hdct : Bool} {sn : List Str} {sub : List Value} {ab : Bool} {col : Option Bool} {dd : Option Addr} {k0 k1 k2 k3 k5 : Option Value} {B newId initId : String}
variable {rest : List Value} {kw : List (Str × Value)}
theorem checkKw {M : Model} (F : ExcBaseFacts B newId initId bmB) (hT : ∀ X : String, bm.contains (.type X) = bmB.contains (.type X)) {Q : Unit → Shared → Prop}
    (at_ : h.get? C = some (excClassObj nm q C N bs bm hdct sn sub ab col dd k0 k1 k2 k3 k5 newId)) (z : Q () ⟨h, g, d, t, os⟩) :
    wpAny M A (checkBuiltinCall newId ⟨.ref C :: rest, kw⟩) Q E ⟨h, g, d, t, os⟩ := by
  have inB : (Value.ref C :: bm).contains (.type B) = true := by
    rw [List.contains_cons, hT, F.hasB, Bool.or_true]
  have star := F.noStar
  simp only [checkBuiltinCall, F.newKind, F.newSplit, F.newRow]
  repeat
    first
    | refine wpAny_loadPart_at at_ ?_
    | (refine wpAny_isSubtype_exc at_ ?_
       rw [inB])
    | refine wpAny_staticBase_exc at_ ?_
    | refine wpAny_madeBy_exc at_ ?_
    | simp only [bne_self_eq_false, Bool.false_eq_true, if_false]
    | wp_step
  exact z
theorem newKw (F : ExcBaseFacts B newId initId bmB) (hT : ∀ X : String, bm.contains (.type X) = bmB.contains (.type X))
    (at_ : h.get? C = some (excClassObj nm q C N bs bm hdct sn sub ab col dd k0 k1 k2 k3 k5 newId)) (few : rest.length ≤ sizeLine)
    (z : R (.ok (.ret (.ref (h.objs.size + 1)))) ⟨(h.push (kdv_tup rest)).push (excO C h.objs.size), g, d, t, os⟩) :
    codeAny (model prog w) A (.builtin newId ⟨.ref C :: rest, kw⟩) R ⟨h, g, d, t, os⟩ := by
  have ends := F.ends
  have inB : (Value.ref C :: bm).contains (.type B) = true := by
    rw [List.contains_cons, hT, F.hasB, Bool.or_true]
  have inA : (Value.ref C :: bm).contains (.type "AttributeError") = false := by
    rw [List.contains_cons, hT, F.noAttr]
    rfl
  have inN : (Value.ref C :: bm).contains (.type "NameError") = false := by
    rw [List.contains_cons, hT, F.noName]
    rfl
  refine codeAny_builtinAt F.entry ?_
  unfold Builtin.«BaseException.__new__»
  refine wpAt_bind ?_
  show wpAt _ _ _ (stack >>= _) _ _ _
  refine wpAt_bind (wpAt_stack fun p below => wpAt_of_wpAny ?_)
  wp_walk
  refine wpAt_of_wpAny ?_
  rw [F.owner]
  repeat
    first
    | with_reducible refine wpAny_madeHere_exc F.canon at_ ?_
    | with_reducible refine wpAny_loadPart_at at_ ?_
    | (with_reducible refine wpAny_isSubtype_exc at_ ?_
       first
       | rw [inB]
       | rw [inA]
       | rw [inN])
    | wp_step
  show R _ _
  rw [Heap.size_push]
  exact z
theorem typeCallKw (F : ExcBaseFacts B newId initId bmB) (hT : ∀ X : String, bm.contains (.type X) = bmB.contains (.type X)) {fI : Addr} {Q : PySem.Fin → Shared → Prop}
    (at_ : h.get? C = some (excClassObj nm q C N bs bm hdct sn sub ab col dd k0 k1 k2 k3 k5 newId)) (few : rest.length ≤ sizeLine)
    (ini : Looks (model prog w) h (typeLookup (.ref C) "__init__") (some (.ref fI))) (bnd : ∀ self, Looks (model prog w) h (bindSpecial (.ref fI) self) (.ref fI, [self]))
    (z : codeAny (model prog w) A (.call (.ref fI) ⟨.ref (h.objs.size + 1) :: rest, kw⟩)
      (fun r s2 => match r with | .ok (.ret v) => v = .none ∧ Q (.done (.ret (.ref (h.objs.size + 1)))) s2 | .ok _ => False | .error e => E e s2)
      ⟨(h.push (kdv_tup rest)).push (excO C h.objs.size), g, d, t, os⟩) :
    wpAny (model prog w) A (Builtin.«type.__call__» ⟨.ref C :: rest, kw⟩) Q E ⟨h, g, d, t, os⟩ := by
  repeat
    first
    | with_reducible refine wpAny_loadPart_at at_ ?_
    | with_reducible refine wpAny_madeBy_exc at_ ?_
    | wp_step
  refine codeAny_call_builtin_code (Code.quiet_builtin _ F.quiet) (checkKw F hT at_ ?_)
  refine newKw F hT at_ few ?_
  show wpAny _ _ _ _ _ _
  have keep : ∀ b o, h.get? b = some o → ((h.push (kdv_tup rest)).push (excO C h.objs.size)).get? b = some o :=
    fun b o e => Heap.get?_push_of_some _ (Heap.get?_push_of_some _ e)
  have at2 := keep _ _ at_
  have new : ((h.push (kdv_tup rest)).push (excO C h.objs.size)).get? (h.objs.size + 1) = some (excO C h.objs.size) := by heap_get
  have own : (Value.ref C :: bm).contains (.ref C) = true := by simp
  have ini2 := ini.keeps keep
  have bnd2 := (bnd (.ref (h.objs.size + 1))).keeps keep
  unfold isInstance
  repeat
    first
    | with_reducible refine wpAny_loadPart_at new ?_
    | (with_reducible refine wpAny_isSubtype_exc at2 ?_
       rw [own])
    | wp_step
  show wpAny _ _ (typeLookup (.ref C) _) _ _ _
  refine ini2.at ?_
  refine wpAny_holding (wpAny_bind (bnd2.at ?_))
  refine wpAny_bind (wpAny_call (codeAny_mono z ?_))
  intro r s2 y
  match r, y with
  | .error e, y => exact y
  | .ok .next, y => exact y.elim
  | .ok .brk, y => exact y.elim
  | .ok .cont, y => exact y.elim
  | .ok (.ret v), ⟨ev, y⟩ =>
    subst ev
    first
    | exact wpAny_pure (wpAny_pure y)
    | (wp_walk
       exact y)
theorem callKw (F : ExcBaseFacts B newId initId bmB) (hT : ∀ X : String, bm.contains (.type X) = bmB.contains (.type X)) {fI : Addr}
    (at_ : h.get? C = some (excClassObj nm q C N bs bm hdct sn sub ab col dd k0 k1 k2 k3 k5 newId)) (few : rest.length ≤ sizeLine)
    (ini : Looks (model prog w) h (typeLookup (.ref C) "__init__") (some (.ref fI))) (bnd : ∀ self, Looks (model prog w) h (bindSpecial (.ref fI) self) (.ref fI, [self]))
    (z : codeAny (model prog w) (A.under (.builtin "type.__call__" ⟨.ref C :: rest, kw⟩)) (.call (.ref fI) ⟨.ref (h.objs.size + 1) :: rest, kw⟩) (InitBack (h.objs.size + 1) R)
      ⟨(h.push (kdv_tup rest)).push (excO C h.objs.size), g, d, t, os⟩) :
    codeAny (model prog w) A (.call (.ref C) ⟨rest, kw⟩) R ⟨h, g, d, t, os⟩ := by
  have look := tc_lookup
  have bind := tc_bind (.ref C)
  have isType : (⟨h, g, d, t, os⟩ : Shared).TypeIs (.ref C) "type" := ⟨_, at_, rfl⟩
  refine codeAny_of_tree ?_
  show wpAny _ _ (callAny (.ref C) _) _ _ _
  repeat
    any_goals
      first
      | assumption
      | with_reducible refine wpAny_loadPart_at at_ ?_
      | wp_step
  refine ⟨rfl, ?_⟩
  refine codeAny_call_builtin_at (Code.quiet_builtin _ (by decide +kernel)) entry_typeCall ?_
  refine wpAny_check_type_call_sub at_ (typeCallKw F hT at_ few ini bnd ?_)
  refine codeAny_mono z ?_
  intro r s2 y
  match r, y with
  | .error e, y => exact y
  | .ok .next, y => exact y
  | .ok .brk, y => exact y
  | .ok .cont, y => exact y
  | .ok (.ret v), y => exact y
end
end TDX

set_option maxHeartbeats 4000000
/-! # E1: exceptions as values: made, asked for their class, read -/
namespace TD
open PySem PySem.Spec PyProof.Rows L2
open Evl (Ex)
/-- at a: an exception of the class at C that keeps v in its field -/
def ExV (H : Hp) (a C : Addr) (v : V) : Prop := ∃ d, H a = some (exo a C (some d)) ∧ H d = some (exd d [(("value" : Str), v)])
theorem ExV.ex {H H' : Hp} {a C : Addr} {v : V} (e : Ex H H') (h : ExV H a C v) : ExV H' a C v := let ⟨d, h1, h2⟩ := h; ⟨d, e _ _ h1, e _ _ h2⟩
/-- what the written part says of such a class -/
structure Exc (K : Fg) (C fI : Addr) : Prop where
  o : OexC K C
  no : PySem.W.findIn K (.ref C) "value" = some none
  ini : PySem.W.findIn K (.ref C) "__init__" = some (some (.ref fI))
  tI : PySem.W.typeIn K (.ref fI) = some (.type "function")
  x : ExcC K C
/-- self.value = value -/
def spIni (K : Fg) : Sp := fun vs H Q _ => ∃ a C v, vs = [.ref a, v] ∧ OexC K C ∧ PySem.W.findIn K (.ref C) "value" = some none ∧ H a = some (exo a C none) ∧ ∀ dx, H dx = none → dx ≠ a → Q .non (upd (upd H dx (exd dx [(("value" : Str), v)])) a (exo a C (some dx)))
section
variable {X : Cx} {pins : List (Addr × Obj)} {σ : L2.St} {H : Hp} {s : Shared} {C fI : Addr} {fd : FuncData} {Q : VK}
theorem run_mk {us : List Value} {kw : List (Str × Value)} {u : Value} {v : V} (T : Exc X.K C fI) (F : FnOk X.prog X.w X.K X.mg X.base CX0 1 fI fd ["self", "value"] (spIni X.K)) (hr : Room 2 X.A)
    (hb : ∀ (s : Shared) (z : Value), X.K.In s.heap → BindsTo s fd ⟨z :: us, kw⟩ ([("self" : Str), "value"].zip [z, u])) (rv : RelV v u) (few : us.length ≤ sizeLine) (I : Inv X pins σ H s)
    (q : ∀ a H', H a = none → Ex H H' → ExV H' a C v → Q (.ref a) H') : wpAny (model X.prog X.w) X.A (call (.ref C) us kw) (EP X pins σ Q) X.xe s := by
  obtain ⟨nm, qn, N, bs, bm, sn, sub, ab, col, dd, k0, k1, k2, k3, k5, hC, hbm⟩ := T.o.cls
  obtain ⟨hp, g, dr, tk, os⟩ := s
  have big : hp.objs.size ≤ hp.objs.size + 1 := Nat.le_succ _
  have free : H (hp.objs.size + 1) = none := I.hok.fresh big
  have keep : ∀ b o, hp.get? b = some o → ((hp.push (PySem.W.kdv_tup us)).push (PySem.HandSPX.excO C hp.objs.size)).get? b = some o :=
    fun b o e => Heap.get?_push_of_some _ (Heap.get?_push_of_some _ e)
  have new : ((hp.push (PySem.W.kdv_tup us)).push (PySem.HandSPX.excO C hp.objs.size)).get? (hp.objs.size + 1) = some (PySem.HandSPX.excO C hp.objs.size) := by heap_get
  have I2 : Inv X pins σ (upd H (hp.objs.size + 1) (exo (hp.objs.size + 1) C none)) ⟨(hp.push (PySem.W.kdv_tup us)).push (PySem.HandSPX.excO C hp.objs.size), g, dr, tk, os⟩ :=
    I.laid (t' := tk) keep big (exo_ok new)
  have rel : Vals [V.ref (hp.objs.size + 1), v] [Value.ref (hp.objs.size + 1), u] := .cons rfl (.cons rv .nil)
  refine wpAny_call (TDX.callKw PySem.F.excBase_ValueError (fun Y => PySem.HandSPX.refsVE_contains Y bm hbm) (I.kIn _ _ hC) few (PySem.W.looks_findIn I.kIn T.ini) (fun z => PySem.W.bind_fn I.kIn z T.tI) ?_)
  have room : Room 1 (X.A.under (.builtin "type.__call__" ⟨.ref C :: us, kw⟩)) := hr.make C us kw
  have sp : spIni X.K [V.ref (hp.objs.size + 1), v] (upd H (hp.objs.size + 1) (exo (hp.objs.size + 1) C none))
      (fun r H2 => r = .non ∧ Q (.ref (hp.objs.size + 1)) H2) E0 := by
    refine ⟨_, C, v, rfl, T.o, T.no, upd_same, fun dx hdx ne => ⟨rfl, ?_⟩⟩
    rw [upd_ne ne] at hdx
    refine q _ _ free (fun b o e => ?_) ⟨dx, upd_same, ?_⟩
    · rw [upd_ne (ne_of_none e free), upd_ne (ne_of_none e hdx), upd_ne (ne_of_none e free)]
      exact e
    · rw [upd_ne ne, upd_same]
  refine codeAny_mono (F.run _ X.stack _ _ ⟨Value.ref (hp.objs.size + 1) :: us, kw⟩ [Value.ref (hp.objs.size + 1), u] _ _ E0 room (I2.env0.make C us kw) (hb _ _ I2.kIn) rel sp) ?_
  intro r s2 y
  match r, y with
  | .error e, y => exact False.elim y
  | .ok .next, y => exact y.elim
  | .ok .brk, y => exact y.elim
  | .ok .cont, y => exact y.elim
  | .ok (.ret w2), y =>
    obtain ⟨r2, H2, I3, rr, er, q2⟩ := I2.after y
    subst er
    exact ⟨rr, ⟨.ref (hp.objs.size + 1), H2, I3, rfl, q2⟩⟩
end
theorem mk0_of {H : Hp} {P : Addr → Hp → V → Prop} {R : Addr → Hp → Prop} (h : ∃ v, [V.non] = [v] ∧ ∀ a H', H a = none → Ex H H' → P a H' v → R a H') : ∀ a H', H a = none → Ex H H' → P a H' .non → R a H' := by
  obtain ⟨v, e, h⟩ := h
  injection e with e1 _
  subst e1
  exact h
/-- the ways its __init__ is called -/
structure Bd (K : Fg) (fd : FuncData) : Prop where
  b1 : ∀ (s : Shared) (z u : Value), K.In s.heap → BindsTo s fd ⟨[z, u], []⟩ ([("self" : Str), "value"].zip [z, u])
  b0 : ∀ (s : Shared) (z : Value), K.In s.heap → BindsTo s fd ⟨[z], []⟩ ([("self" : Str), "value"].zip [z, .none])
  bk : ∀ (s : Shared) (z u : Value), K.In s.heap → BindsTo s fd ⟨[z], [(("value" : Str), u)]⟩ ([("self" : Str), "value"].zip [z, u])
/-- the class x at C, whose __init__ keeps what it is given -/
def Mke (P : Program) (w : World) (K : Fg) (mg : Str → Option Value) (base : Heap) (x : Str) (C : Addr) : Prop :=
  ∃ (fI : Addr) (fd : FuncData), mg x = some (.ref C) ∧ Exc K C fI ∧ FnOk P w K mg base CX0 1 fI fd ["self", "value"] (spIni K) ∧ Bd K fd
/-- x(e): e's value v, then a new exception that keeps it -/
def tMke (C : Addr) (ta : TA) : TE := fun σ H Q => ta σ H fun vs H1 => ∃ v, vs = [v] ∧ ∀ a H', H1 a = none → Ex H1 H' → ExV H' a C v → Q (.ref a) H'
section
variable {X : Cx} {C : Addr} {x : Str} {p pos kpos : Pos} {e : Expr} {ta : TA}
theorem pe_mk1 (c : Mke X.prog X.w X.K X.mg X.base x C) (hr : Room 2 X.A) (hg : Gl X x) (ha : PA X [e] ta)
    (d1 : (x == ("__debug__" : Str)) = false := by decide) (d2 : starEach [e] X.env = (false, eval e X.env) :: starEach [] X.env := by rfl) (d3 : (backTo pos (starEach [] X.env)).any (·.1) = false := by rfl) :
    PE X (.Call (.Name x p) [e] [] pos) (tMke C ta) := by
  obtain ⟨fI, fd, hm, T, F, b⟩ := c
  refine ⟨fun pins s σ H Q I h => wpAny_Call_Name_kw (ld_glob I hg hm ?_ d1)⟩
  refine PySem.W.callWith_K (h₀ := X.base) I.ok.mod.kin T.o.kC (thn (ha.run pos pins s σ H _ I h) ?_) d2 d3
  intro us s1 ⟨vs, H1, I1, r, v, ev, q⟩
  subst ev
  obtain ⟨u, eu, ru⟩ := vals1 r
  subst eu
  exact ⟨I1.kIn, run_mk T F hr (fun s z k => b.b1 s z u k) ru (by show 1 ≤ sizeLine; decide) I1 q⟩
theorem pe_mk0 (c : Mke X.prog X.w X.K X.mg X.base x C) (hr : Room 2 X.A) (hg : Gl X x) (d1 : (x == ("__debug__" : Str)) = false := by decide) :
    PE X (.Call (.Name x p) [] [] pos) (tMke C (tCons (tC .non) tNil)) := by
  obtain ⟨fI, fd, hm, T, F, b⟩ := c
  refine ⟨fun pins s σ H Q I h => wpAny_Call_Name_kw (ld_glob I hg hm ?_ d1)⟩
  exact PySem.W.callWith_K0 I.kIn T.o.kC (run_mk (us := []) (v := .non) T F hr (fun s z k => b.b0 s z k) rfl (Nat.zero_le _) I (mk0_of h))
theorem pe_mkk (c : Mke X.prog X.w X.K X.mg X.base x C) (hr : Room 2 X.A) (hg : Gl X x) (ha : PK X [⟨some "value", e, kpos⟩] ta)
    (d1 : (x == ("__debug__" : Str)) = false := by decide)
    (d2 : (backToKw pos (keywordEach [⟨some "value", e, kpos⟩] X.env)).all (·.1.isSome) = true := by rfl)
    (d3 : (backToKw pos (keywordEach [⟨some "value", e, kpos⟩] X.env)).filterMap (·.1) = [("value" : Str)] := by rfl)
    (d4 : ((backTo pos (starEach [] X.env)).any (·.1) || (backToKw pos (keywordEach [⟨some "value", e, kpos⟩] X.env)).any (·.1.isNone)) = false := by rfl) :
    PE X (.Call (.Name x p) [] [⟨some "value", e, kpos⟩] pos) (tMke C ta) := by
  obtain ⟨fI, fd, hm, T, F, b⟩ := c
  refine ⟨fun pins s σ H Q I h => wpAny_Call_Name_kw (ld_glob I hg hm ?_ d1)⟩
  refine PySem.W.callWith_KW0 (h₀ := X.base) I.ok.mod.kin T.o.kC d2 (thn (ha.run pos pins s σ H _ I h) ?_) d4
  intro us s1 ⟨vs, H1, I1, r, v, ev, q⟩
  subst ev
  obtain ⟨u, eu, ru⟩ := vals1 r
  subst eu
  refine ⟨I1.kIn, ?_⟩
  rw [d3]
  exact run_mk (us := []) (kw := [("value", u)]) T F hr (fun s z k => b.bk s z u k) ru (Nat.zero_le _) I1 q
end
/-! ### classes without an __init__ of their own -/
def Mkn (K : Fg) (mg : Str → Option Value) (x : Str) (C : Addr) : Prop := ∃ bmB, ExcBaseFacts "ValueError" "ValueError.__new__" "ValueError.__init__" bmB ∧ PySem.W.excIn K C bmB "ValueError.__new__" = true ∧ mg x = some (.ref C) ∧ PySem.W.keepIn K (.ref C) = true ∧ ExcC K C
def tMkn (C : Addr) (ta : TA) : TE := fun σ H Q => ta σ H fun vs H1 => vs.length ≤ 1000 ∧ ∀ a H', H1 a = none → Ex H1 H' → H' a = some (exo a C none) → Q (.ref a) H'
section
variable {X : Cx} {pins : List (Addr × Obj)} {σ : L2.St} {H : Hp} {s : Shared} {C : Addr} {x : Str} {p pos : Pos} {e : Expr} {es : List Expr} {ta : TA} {Q : VK}
theorem run_mkn {bmB : List Value} {us : List Value} (F : ExcBaseFacts "ValueError" "ValueError.__new__" "ValueError.__init__" bmB) (q : PySem.W.excIn X.K C bmB "ValueError.__new__" = true) (few : us.length ≤ sizeLine) (I : Inv X pins σ H s)
    (h : ∀ a H', H a = none → Ex H H' → H' a = some (exo a C none) → Q (.ref a) H') : wpAny (model X.prog X.w) X.A (call (.ref C) us) (EP X pins σ Q) X.xe s := by
  obtain ⟨hp, g, dr, tk, os⟩ := s
  obtain ⟨bm, N, nm, qn, bs, hdct, sn, sub, ab, col, dd, k0, k1, k2, k3, k5, mN, hC, hN, hni, T⟩ := exc_obj I.kIn q
  refine wpAny_call_exc_subT F T hC hN hni (fun h' a m => ?_) few
  obtain ⟨t, ht, _⟩ := m.there
  have n := I.hok.gone m.new
  exact ⟨.ref a, upd H a (exo a C none), I.laidN (t' := tk) m.keeps m.new n (exo_ok ht), rfl, h a _ n (Ex.new n) upd_same⟩
theorem pe_mkn (c : Mkn X.K X.mg x C) (hg : Gl X x) (ha : PA X (e :: es) ta)
    (d1 : (x == ("__debug__" : Str)) = false := by decide) (d2 : starEach (e :: es) X.env = (false, eval e X.env) :: starEach es X.env := by rfl) (d3 : (backTo pos (starEach es X.env)).any (·.1) = false := by rfl) :
    PE X (.Call (.Name x p) (e :: es) [] pos) (tMkn C ta) := by
  obtain ⟨bmB, F, q, hm, kp, _⟩ := c
  refine ⟨fun pins s σ H Q I h => wpAny_Call_Name_kw (ld_glob I hg hm ?_ d1)⟩
  refine PySem.W.callWith_K (h₀ := X.base) I.ok.mod.kin kp (thn (ha.run pos pins s σ H _ I h) ?_) d2 d3
  intro us s1 ⟨vs, H1, I1, r, hl, k⟩
  have few : us.length ≤ sizeLine := by
    rw [← r.length]
    exact Nat.le_trans hl (by decide)
  exact ⟨I1.kIn, run_mkn F q few I1 k⟩
theorem pe_mkn0 (c : Mkn X.K X.mg x C) (hg : Gl X x) (d1 : (x == ("__debug__" : Str)) = false := by decide) : PE X (.Call (.Name x p) [] [] pos) (tMkn C tNil) := by
  obtain ⟨bmB, F, q, hm, kp, _⟩ := c
  refine ⟨fun pins s σ H Q I h => wpAny_Call_Name_kw (ld_glob I hg hm ?_ d1)⟩
  exact PySem.W.callWith_K0 I.kIn kp (run_mkn (us := []) F q (Nat.zero_le _) I h.2)
end
/-! ### isinstance, the field -/
/-- at a: an exception of the class at C -/
def IsX (H : Hp) (a C : Addr) : Prop := H a = some (exo a C none) ∨ ∃ d fs, H a = some (exo a C (some d)) ∧ H d = some (exd d fs)
theorem IsX.of {H : Hp} {a C : Addr} {v : V} (h : ExV H a C v) : IsX H a C := let ⟨d, h1, h2⟩ := h; .inr ⟨d, _, h1, h2⟩
theorem IsX.ex {H H' : Hp} {a C : Addr} (e : Ex H H') (h : IsX H a C) : IsX H' a C := by
  rcases h with h | ⟨d, fs, h1, h2⟩
  · exact .inl (e _ _ h)
  · exact .inr ⟨d, fs, e _ _ h1, e _ _ h2⟩
def rIsX (K : Fg) : List V → Hp → VK → Prop := fun xs H Q => ∃ (a C : Addr) (c : V) (cv : Value) (b : Bool), xs = [.ref a, c] ∧ IsX H a C ∧ ExcC K C ∧ ClsV c cv ∧ PySem.W.kitOne K (.ref C) cv = some b ∧ Q (.bl b) H
section
variable {X : Cx} {pins : List (Addr × Obj)} {σ : L2.St} {H : Hp} {s : Shared}
theorem cls_some {K : Fg} {C : Addr} (h : PySem.W.hasDictIn K C = true) : (PySem.W.clsIn K C).isSome = true := by
  cases e : PySem.W.clsIn K C with
  | some _ => rfl
  | none =>
    unfold PySem.W.hasDictIn at h
    rw [e] at h
    cases h
theorem isx_at (I : Inv X pins σ H s) {a C : Addr} (h : IsX H a C) : ∃ ox od, PySem.W.InstAt s.heap a ox C od := by
  rcases h with h | ⟨d, fs, h1, h2⟩
  · obtain ⟨t1, e⟩ := exo_at I.hok h
    exact ⟨_, none, e, rfl, rfl, trivial⟩
  · obtain ⟨t1, e⟩ := exo_at I.hok h1
    obtain ⟨mA, hn, _⟩ := exd_at I.hok h2
    obtain ⟨od, ho, _⟩ := lookIn_ns hn
    exact ⟨_, some od, e, rfl, rfl, ho⟩
theorem call_isX : CallR X (.builtin "isinstance") (rIsX X.K) := by
  intro pins s σ H xs us Q I r h
  obtain ⟨a, C, c, cv, b, rfl, hx, T, k, e, q⟩ := h
  obtain ⟨u1, u2, rfl, r1, r2⟩ := vals2 r
  have e2 := k.eq r2
  subst e2
  cases (show u1 = Value.ref a from r1)
  obtain ⟨ox, od, J⟩ := isx_at I hx
  exact PySem.W.kia_one (PySem.W.kitx_exc (ox := ox) (od := od) (cls_some T.hd) T.hg T.hk T.hs T.ha T.hn T.ht T.hm) I.kIn J e (fun z => nomatch z) fun tk => ⟨.bl b, H, I.tok tk, rfl, q⟩
/-- e.value -/
def tVal (K : Fg) (te : TE) : TE := fun σ H Q => te σ H fun x H1 => ∃ a C v, x = .ref a ∧ ExV H1 a C v ∧ ExcC K C ∧ PySem.W.findIn K (.ref C) "value" = some none ∧ Q v H1
theorem pe_value {e : Expr} {te : TE} {pos : Pos} (he : PE X e te) (hb : attributeBase e "value" X.env (eval e X.env) = eval e X.env := by rfl) : PE X (.Attribute e "value" pos) (tVal X.K te) := by
  refine ⟨fun pins s σ H Q I h => attr_of hb (thn (he.run pins s σ H _ I h) ?_)⟩
  intro u s1 ⟨x, H1, I1, rx, a, C, v, ex, ⟨d, h1, h2⟩, T, no, q⟩
  subst ex
  cases (show u = Value.ref a from rx)
  obtain ⟨t1, e1⟩ := exo_at I1.hok h1
  obtain ⟨mA, hn, hr⟩ := exd_at I1.hok h2
  obtain ⟨od, ho, hl⟩ := lookIn_ns hn
  have l : List.lookup ("value" : Str) [(("value" : Str), v)] = some v := by simp [List.lookup]
  obtain ⟨z, hz, rz⟩ := RelO.some_of (v := v) (o := mA "value") (by rw [← l]; exact hr "value")
  have J : PySem.W.InstAt s1.heap a _ C (some od) := ⟨e1, rfl, rfl, ho⟩
  exact HandSPX.exc_get I1.kIn J T.hg T.hk T.hs (PySem.W.findObj_own T.hd no rfl (by rw [hl, hz])) (handed_of rz) ⟨v, H1, I1.tok _, rz, q⟩
end
end TD

set_option maxHeartbeats 4000000
/-! # E2: lists of exceptions; what each of them is -/
namespace TD
open PySem PySem.Spec PyProof.Rows L2
open Evl (Ex Ev EvA EvL EvT RV)
/-- one exception of each class, all with v in the field -/
def AllE (H : Hp) (v : V) : List Addr → List Addr → Prop := Paired fun a C => ExV H a C v
theorem AllE.ex {H H' : Hp} {v : V} (e : Ex H H') : ∀ {as Cs : List Addr}, AllE H v as Cs → AllE H' v as Cs
  | _, _, .nil => .nil
  | _, _, .cons h t => .cons (h.ex e) (AllE.ex e t)
theorem AllE.app {H : Hp} {v : V} : ∀ {as Cs bs Ds : List Addr}, AllE H v as Cs → AllE H v bs Ds → AllE H v (as ++ bs) (Cs ++ Ds)
  | _, _, _, _, .nil, k => k
  | _, _, _, _, .cons h t, k => .cons h (AllE.app t k)
theorem AllE.len {H : Hp} {v : V} : ∀ {as Cs : List Addr}, AllE H v as Cs → as.length = Cs.length
  | _, _, .nil => rfl
  | _, _, .cons h t => congrArg Nat.succ (AllE.len t)
theorem AllE.get {H : Hp} {v : V} : ∀ {as Cs : List Addr} {i : Nat} {a : Addr}, AllE H v as Cs → as[i]? = some a → ∃ C, Cs[i]? = some C ∧ ExV H a C v
  | _, _, _, _, .nil, h => by simp at h
  | _, _, 0, _, .cons h t, e => by
    simp at e
    subst e
    exact ⟨_, rfl, h⟩
  | _, _, i + 1, _, .cons h t, e => AllE.get (i := i) t e
def EvX (ta : TA) (σ : L2.St) (H : Hp) (Cs : List Addr) (v : V) : Prop := ∀ H1, Ex H H1 → ∀ Q : List V → Hp → Prop, (∀ as H2, Ex H1 H2 → AllE H2 v as Cs → Q (as.map V.ref) H2) → ta σ H1 Q
/-- a new list of new ones -/
def EvXL (te : TE) (σ : L2.St) (H : Hp) (Cs : List Addr) (v : V) : Prop := ∀ H1, Ex H H1 → ∀ Q : VK, (∀ l as H2, H1 l = none → Ex H1 H2 → H2 l = some (.lst (as.map V.ref)) → AllE H2 v as Cs → Q (.ref l) H2) → te σ H1 Q
section
variable {K : Fg} {σ : L2.St} {H : Hp} {ta tr : TA} {C : Addr} {Cs Ds : List Addr} {v : V}
theorem ex_nil : EvX tNil σ H [] v := fun H1 _ Q q => q [] H1 (Ex.refl H1) .nil
theorem ex_cons (ha : EvA ta σ H [v]) (hr : EvX tr σ H Cs v) : EvX (tCons (tMke C ta) tr) σ H (C :: Cs) v := fun H1 e Q q =>
  ha H1 e _ fun H2 e2 => ⟨v, rfl, fun a H3 hn e3 h3 => hr H3 ((e.trans e2).trans e3) _ fun as H4 e4 h4 => q (a :: as) H4 ((e2.trans e3).trans e4) (.cons (h3.ex e4) h4)⟩
theorem exl_lst (h : EvX ta σ H Cs v) (hl : Cs.length ≤ 1000) : EvXL (tLst ta) σ H Cs v := fun H1 e Q q =>
  h H1 e _ fun as H2 e2 hA => ⟨by
    rw [List.length_map, hA.len]
    exact Evl.sz_of (by omega), fun p hp => q p as _ (Evl.fresh_back e2 hp) (e2.trans (Ex.new hp)) upd_same (hA.ex (Ex.new hp))⟩
theorem exl_cat {i : Nat} {l : Addr} {as : List Addr} {te : TE} (hv : σ[i]? = some (some (.ref l))) (hl : H l = some (.lst (as.map V.ref))) (hA : AllE H v as Cs) (h : EvXL te σ H Ds v) (hz : Cs.length + Ds.length ≤ 1000) :
    EvXL (tOp rCat (tVar i) te) σ H (Cs ++ Ds) v := fun H1 e Q q =>
  ⟨.ref l, hv, h H1 e _ fun m bs H2 n2 e2 h2 hB => ⟨l, m, _, _, rfl, rfl, e2 _ _ (e _ _ hl), h2, by
    rw [List.length_map, List.length_map, hA.len, hB.len]
    exact Evl.sz_of (by omega), fun p hp => q p (as ++ bs) _ (Evl.fresh_back e2 hp) (e2.trans (Ex.new hp)) (by rw [upd_same, List.map_append]) (((hA.ex (e.trans e2)).app hB).ex (Ex.new hp))⟩⟩
/-! ### what it is -/
/-- C is, is none of each of the classes -/
def KdL (K : Fg) (C : Addr) : List Addr → List Bool → Prop := Paired fun D b => PySem.W.kitOne K (.ref C) (.ref D) = some b
theorem KdL.len {C : Addr} : ∀ {Ds : List Addr} {bs : List Bool}, KdL K C Ds bs → bs.length = Ds.length
  | _, _, .nil => rfl
  | _, _, .cons h t => congrArg Nat.succ (KdL.len t)
theorem ev_isx {a C D : Addr} {b : Bool} {i : Nat} (hv : σ[i]? = some (some (.ref a))) (hx : IsX H a C) (T : ExcC K C) (k : PySem.W.kitOne K (.ref C) (.ref D) = some b) :
    Ev (tCB (rIsX K) (tCons (tVar i) (tCons (tC (.ref D)) tNil))) σ H (.bl b) := fun H1 e Q q =>
  ⟨.ref a, hv, a, C, .ref D, .ref D, b, rfl, hx.ex e, T, .own D, k, q H1 (Ex.refl H1)⟩
theorem ev_isx_ty {a C : Addr} {n : String} {b : Bool} {i : Nat} (hv : σ[i]? = some (some (.ref a))) (hx : IsX H a C) (T : ExcC K C) (k : PySem.W.kitOne K (.ref C) (.type n) = some b) :
    Ev (tCB (rIsX K) (tCons (tVar i) (tCons (tC (.ty n)) tNil))) σ H (.bl b) := fun H1 e Q q =>
  ⟨.ref a, hv, a, C, .ty n, .type n, b, rfl, hx.ex e, T, .ty n, k, q H1 (Ex.refl H1)⟩
theorem el_cat {i : Nat} {l : Addr} {xs ys : List V} {te : TE} (hv : σ[i]? = some (some (.ref l))) (hl : H l = some (.lst xs)) (h : EvL te σ H ys) (hz : xs.length + ys.length ≤ 1000) :
    EvL (tOp rCat (tVar i) te) σ H (xs ++ ys) := fun H1 e Q q =>
  ⟨.ref l, hv, h H1 e _ fun m H2 n2 e2 h2 => ⟨l, m, _, _, rfl, rfl, e2 _ _ (e _ _ hl), h2, Evl.sz_of (by omega), fun p hp => q p _ (Evl.fresh_back e2 hp) (e2.trans (Ex.new hp)) upd_same⟩⟩
end
/-! ### equal to itself; texts many times -/
def rEqW (K : Fg) : R2 := fun x y H Q => rEqA K x y H Q ∨ rEqV K x y H Q
def rMulS : R2 := fun x y H Q => ∃ z n, x = .str z ∧ y = .int n ∧ MulOk z n ∧ Q (.str (Txt.mul z n)) H
section
variable {X : Cx}
theorem op_eqW (sm : ∃ mm, X.base.Ns sysModules mm) (hu : X.A.units + 64 < cLine) : OpR X (compareOp .Eq) (rEqW X.K) := by
  intro pins s σ H x y v u Q I rx ry h
  rcases h with h | h
  · exact op_eqA sm hu pins s σ H x y v u Q I rx ry h
  · exact op_eqV hu pins s σ H x y v u Q I rx ry h
theorem op_mulS : OpR X (binaryOp .Mult) rMulS := by
  intro pins s σ H x y v u Q I rx ry h
  obtain ⟨z, n, rfl, rfl, hm, q⟩ := h
  obtain ⟨t, rfl⟩ := rx
  obtain ⟨t2, rfl⟩ := ry
  exact SB.mul hm fun t' k => ⟨.str _, H, I.tok k, ⟨t', rfl⟩, q⟩
end
end TD

set_option maxHeartbeats 4000000
/-! # E3: what the written part says of such classes, put together -/
namespace TD
open PySem PySem.Spec PyProof.Rows L2
open Evl (Ex Ev EvA EvL EvT RV)
/-- the text of such an __init__ -/
def iA (a1 a2 : Pos) (e : Expr) : Arguments := { posonlyargs := [], args := [{ arg := "self", annotation := none, pos := a1 }, { arg := "value", annotation := none, pos := a2 }], vararg := none, kwonlyargs := [], kw_defaults := [], kwarg := none, defaults := [e] }
def iB (q1 q2 q3 q4 : Pos) : List Stmt := [.Assign [.Attribute (.Name "self" q1) "value" q2] (.Name "value" q3) q4]
def iS : Scope := { kind := .function, names := [(PySem.Str.ofString "self", .local), (PySem.Str.ofString "value", .local)], isGenerator := false, isCoroutine := false, more := [] }
/-- the first statement of a class -/
def clsM : Stmt → Stmt
  | .ClassDef _ _ _ b _ _ _ _ _ _ _ => b.getD 0 (.Pass ⟨0, 0, 0, 0⟩)
  | s => s
abbrev bmV (r : List Value) : List Value := r ++ [.type "ValueError", .type "Exception", .type "BaseException", .type "object"]
/-- C stands as an exception class over the classes r -/
structure Std (K : Fg) (mg : Str → Option Value) (x : Str) (C : Addr) (r : List Value) : Prop where
  gC : mg x = some (.ref C)
  kC : PySem.W.keepIn K (.ref C) = true
  tyC : PySem.W.typeIn K (.ref C) = some (.type "type")
  cls : ∃ nm q N bs sn sub ab col dd k0 k1 k2 k3 k5, K.lookup C = some (excClassObj nm q C N bs (bmV r) true sn sub ab col dd k0 k1 k2 k3 k5 "ValueError.__new__")
  hg : PySem.W.findIn K (.ref C) "__getattribute__" = some (some (.builtin "BaseException.__getattribute__"))
  hk : PySem.W.findIn K (.ref C) "__getattr__" = some none
  ha : PySem.W.findIn K (.ref C) "__class__" = some (some (.builtin "object.__class__"))
  hn : PySem.W.specialIn K (.builtin "object.__class__") "__get__" = some (some (.builtin "getset_descriptor.__get__"))
  ht : PySem.W.takesIn K (.builtin "object.__class__") = some true
section
variable {P : Program} {w : World} {K : Fg} {mg : Str → Option Value} {base : Heap} {x : Str} {C D fI : Addr} {r : List Value}
theorem Std.mro (h : Std K mg x C r) (v : Value) : PySem.W.mroIn K C v = some ((Value.ref C :: bmV r).contains v) := by
  obtain ⟨nm, q, N, bs, sn, sub, ab, col, dd, k0, k1, k2, k3, k5, e⟩ := h.cls
  unfold PySem.W.mroIn PySem.W.clsIn
  rw [e]
  rfl
theorem Std.has (h : Std K mg x C r) : PySem.W.hasDictIn K C = true := by
  obtain ⟨nm, q, N, bs, sn, sub, ab, col, dd, k0, k1, k2, k3, k5, e⟩ := h.cls
  unfold PySem.W.hasDictIn PySem.W.clsIn
  rw [e]
  rfl
theorem Std.isCls (h : Std K mg x C r) : (PySem.W.clsIn K C).isSome = true := by
  obtain ⟨nm, q, N, bs, sn, sub, ab, col, dd, k0, k1, k2, k3, k5, e⟩ := h.cls
  unfold PySem.W.clsIn
  rw [e]
  rfl
theorem bm_has {v : Value} (h : v ∈ bmV r) : (Value.ref C :: bmV r).contains v = true := List.contains_iff_mem.mpr (List.mem_cons_of_mem _ h)
theorem Std.sub (h : Std K mg x C r) {v : Value} (hv : v ∈ bmV r) : PySem.W.subIn K (.ref C) v = some true := by
  show PySem.W.mroIn K C v = some true
  rw [h.mro, bm_has hv]
theorem Std.exc (h : Std K mg x C r) : ExcC K C where
  hg := h.hg
  hk := h.hk
  hs := h.sub (List.mem_append_right _ (by decide))
  hd := h.has
  ha := h.ha
  hn := h.hn
  ht := h.ht
  hm := h.sub (List.mem_append_right _ (by decide))
theorem Std.kitT (h : Std K mg x C r) {T : String} (hT : Value.type T ∈ bmV r) (m : PySem.W.kitMeta T = true) : PySem.W.kitOne K (.ref C) (.type T) = some true := by
  unfold PySem.W.kitOne
  rw [if_neg (by simp)]
  show (if PySem.W.kitMeta T = true then PySem.W.subIn K (.ref C) (.type T) else none) = some true
  rw [if_pos m, h.sub hT]
theorem Std.kit {y : Str} {r' : List Value} (h : Std K mg x C r) (k : Std K mg y D r') (hr : Value.ref D ∉ bmV r) : PySem.W.kitOne K (.ref C) (.ref D) = some (decide (C = D)) := by
  unfold PySem.W.kitOne
  by_cases e : C = D
  · subst e
    rw [if_pos (by simp), decide_eq_true rfl]
  · rw [if_neg (by simpa using e), decide_eq_false e]
    show (if ((PySem.W.clsIn K D).isSome && PySem.W.typeIn K (.ref D) == some (.type "type")) = true then PySem.W.subIn K (.ref C) (.ref D) else none) = some false
    rw [if_pos (by rw [k.isCls, k.tyC]; rfl)]
    show PySem.W.mroIn K C (.ref D) = some false
    rw [h.mro]
    congr 1
    rw [Bool.eq_false_iff]
    intro z
    rcases List.mem_cons.mp (List.contains_iff_mem.mp z) with z | z
    · injection z with z
      exact e z.symm
    · exact hr z
theorem Std.kitUp {y : Str} {r' : List Value} (h : Std K mg x C r) (k : Std K mg y D r') (hr : Value.ref D ∈ bmV r) : PySem.W.kitOne K (.ref C) (.ref D) = some true := by
  unfold PySem.W.kitOne
  by_cases e : C = D
  · subst e
    rw [if_pos (by simp)]
  · rw [if_neg (by simpa using e)]
    show (if ((PySem.W.clsIn K D).isSome && PySem.W.typeIn K (.ref D) == some (.type "type")) = true then PySem.W.subIn K (.ref C) (.ref D) else none) = some true
    rw [if_pos (by rw [k.isCls, k.tyC]; rfl), h.sub hr]
/-! ### the contract of __init__ -/
theorem ini_ok {qual : Str} {a1 a2 q1 q2 q3 q4 : Pos} {e : Expr} {dvs : List V} {fd : FuncData} (F : FunD K "__init__" qual (iA a1 a2 e) (iB q1 q2 q3 q4) iS dvs [] fI fd) : FnOk P w K mg base CX0 1 fI fd ["self", "value"] (spIni K) := by
  have S : FnScope ["self", "value"] ["self", "value"] iS := ⟨rfl, rfl, rfl, by decide +kernel, rfl, by decide +kernel, by decide +kernel⟩
  refine F.ok S (fun vs H Q E h => ?_) (fun cdv A outer s H vs Q E hr h => ⟨_, pss_one (ps_ost (pv 0) (pv 1)), ?_⟩)
  · obtain ⟨a, C, v, rfl, _⟩ := h
    rfl
  · obtain ⟨a, C, v, rfl, T, hno, ha, q⟩ := h
    exact ⟨v, rfl, .ref a, rfl, a, C, rfl, T, hno, .inl ⟨ha, fun dx hn ne => q dx hn ne⟩⟩
theorem ini_bd {qual : Str} {a1 a2 q1 q2 q3 q4 : Pos} {e : Expr} {fd : FuncData} (F : FunD K "__init__" qual (iA a1 a2 e) (iB q1 q2 q3 q4) iS [.non] [] fI fd) : Bd K fd := by
  refine ⟨fun s z u hK => ?_, fun s z hK => ?_, fun s z u hK => ?_⟩
  · obtain ⟨ds, r, b⟩ := F.binds1 (ps := ["self", "value"]) 2 1 (by decide) rfl fun T kV doc pm an cdv ct us its h1 h2 => by
      match us, its, h1, h2 with
      | [_, _], [_], _, _ => exact ⟨_, rfl, rfl⟩
    cases r
    exact b s [z, u] hK rfl
  · obtain ⟨ds, r, b⟩ := F.binds1 (ps := ["self", "value"]) 1 0 (by decide) rfl fun T kV doc pm an cdv ct us its h1 h2 => by
      match us, its, h1, h2 with
      | [_], [_], _, _ => exact ⟨_, rfl, rfl⟩
    obtain ⟨u, rfl, ru⟩ := vals1 (show Vals [V.non] ds from r)
    cases (show u = Value.none from ru)
    exact b s [z] hK rfl
  · obtain ⟨oc, od, dV, kV, doc, pm, an, cdv, ct, osl, rfl, lk, hcd, hD, hW⟩ := F.ex
    rcases hD with ⟨h0, _⟩ | ⟨_, T, o, its, m, rfl, lT, oT, rT⟩
    · cases h0
    · obtain ⟨u2, rfl, ru⟩ := vals1 rT
      refine BindsTo.of_looks fun M => ?_
      have e : ∃ k, bindArgs (PySem.W.fnOf "__init__" qual (iA a1 a2 e) (iB q1 q2 q3 q4) iS (.ref T) kV doc pm an cdv ct) ⟨[z], [(("value" : Str), u)]⟩ = seqItems? (.ref T) >>= k ∧ k (some [u2].toArray) = pure ((["self", "value"] : List Str).zip [z, u]) := ⟨_, rfl, rfl⟩
      obtain ⟨k, e1, e2⟩ := e
      rw [e1]
      exact looks_items hK lT oT (.of_pure e2)
/-- the class x with its __init__ -/
theorem mke_of {qual : Str} {st : Stmt} {fT : Addr} {oc kV doc pm cdv ct : Value} {od an : Option Addr} {osl : Array (Option Value)} {ot : Obj} {n : Nat} (h : Std K mg x C r) (hv : PySem.HandSPX.refsVE (bmV r) = true)
    (sa : PySem.W.findIn K (.ref C) "__setattr__" = some (some (.builtin "object.__setattr__"))) (no : PySem.W.findIn K (.ref C) "value" = some none) (ini : PySem.W.findIn K (.ref C) "__init__" = some (some (.ref fI))) (tI : PySem.W.typeIn K (.ref fI) = some (.type "function"))
    (l1 : K.lookup fI = some ⟨oc, od, .func (PySem.W.fnOf "__init__" qual (defArgs st) (defBody st) (defScope st) (.ref fT) kV doc pm an cdv ct), osl⟩) (c1 : PySem.W.codeIn K cdv qual = true) (k1 : PySem.W.keepIn K (.ref fI) = true)
    (lT : K.lookup fT = some ot) (dT : ot.data = .seq [Value.none].toArray n)
    (hs : ∃ a1 a2 e q1 q2 q3 q4, defArgs st = iA a1 a2 e ∧ defBody st = iB q1 q2 q3 q4 ∧ defScope st = iS) : Mke P w K mg base x C := by
  obtain ⟨a1, a2, e, q1, q2, q3, q4, e1, e2, e3⟩ := hs
  rw [e1, e2, e3] at l1
  have F : FunD K "__init__" qual (iA a1 a2 e) (iB q1 q2 q3 q4) iS [.non] [] fI (PySem.W.fnOf "__init__" qual (iA a1 a2 e) (iB q1 q2 q3 q4) iS (.ref fT) kV doc pm an cdv ct) :=
    ⟨⟨oc, od, .ref fT, kV, doc, pm, an, cdv, ct, osl, rfl, l1, c1, .inr ⟨by decide, fT, ot, [.none], n, rfl, lT, dT, .cons rfl .nil⟩, .inl rfl⟩, k1⟩
  have O : OexC K C := by
    obtain ⟨nm, q, N, bs, sn, sub, ab, col, dd, k0, k1, k2, k3, k5, e⟩ := h.cls
    exact ⟨⟨nm, q, N, bs, _, sn, sub, ab, col, dd, k0, k1, k2, k3, k5, e, hv⟩, sa, h.sub (List.mem_append_right _ (by decide)), h.tyC, h.kC⟩
  exact ⟨fI, _, h.gC, ⟨O, no, ini, tI, h.exc⟩, ini_ok F, ini_bd F⟩
end
/-! ### which of them it is -/
theorem nd_map {α : Type} [DecidableEq α] : ∀ {l : List α} {i : Nat} {c : α} (k : Nat), l.Nodup → l[i]? = some c → l.map (fun d => decide (c = d)) = (List.range' k l.length).map fun j => decide (j = k + i)
  | [], _, _, _, _, h => by simp at h
  | a :: l, 0, c, k, nd, h => by
    simp at h
    subst h
    rw [List.nodup_cons] at nd
    rw [List.map_cons, List.length_cons, List.range'_succ, List.map_cons]
    congr 1
    · rw [decide_eq_true rfl, decide_eq_true (Nat.add_zero k).symm]
    · have e1 : l.map (fun d => decide (a = d)) = l.map (fun _ => false) := List.map_congr_left fun d hd => decide_eq_false fun z => nd.1 (z ▸ hd)
      have e2 : (List.range' (k + 1) l.length).map (fun j => decide (j = k + 0)) = (List.range' (k + 1) l.length).map (fun _ => false) := List.map_congr_left fun j hj => decide_eq_false (by
        have := (List.mem_range'_1.mp hj).1
        omega)
      rw [e1, e2, List.map_const', List.map_const', List.length_range']
  | a :: l, i + 1, c, k, nd, h => by
    rw [List.nodup_cons] at nd
    have hc : l[i]? = some c := by simpa using h
    have ih := nd_map (k + 1) nd.2 hc
    rw [List.map_cons, List.length_cons, List.range'_succ, List.map_cons, ih]
    congr 1
    · have m := List.mem_of_getElem? hc
      rw [decide_eq_false (fun z => nd.1 (by rw [← z]; exact m)), decide_eq_false (by omega)]
    · refine List.map_congr_left fun j _ => ?_
      congr 1
      rw [eq_iff_iff]
      constructor <;> intro z <;> omega
end TD

set_option maxHeartbeats 4000000
/-! # E4: the classes of the document's errors, together -/
namespace TD
open PySem PySem.Spec PyProof.Rows L2
open Evl (Ex Ev EvA EvL EvT RV)
/-- where the classes stand -/
structure Ad where
  InvalidNumber : Addr
  InvalidRoom : Addr
  InvalidLights : Addr
  InvalidLevel : Addr
  InvalidPresses : Addr
  InvalidHistory : Addr
  InvalidRuns : Addr
  InvalidTable : Addr
  InvalidLetters : Addr
  InvalidHouse : Addr
  InvalidWalk : Addr
  InvalidWalks : Addr
  InvalidLayers : Addr
  InvalidText : Addr
  InvalidDeed : Addr
  Unlike : Addr
  TooMany : Addr
  NothingToUndo : Addr
  NothingToRedo : Addr
  DoorError : Addr
def Ad.l17 (A : Ad) : List Addr := [A.InvalidNumber, A.InvalidRoom, A.InvalidLights, A.InvalidLevel, A.InvalidPresses, A.InvalidHistory, A.InvalidRuns, A.InvalidTable, A.InvalidLetters, A.InvalidHouse, A.InvalidWalk, A.InvalidWalks, A.InvalidLayers, A.InvalidText, A.InvalidDeed, A.Unlike, A.TooMany]
def Ad.l19 (A : Ad) : List Addr := [A.InvalidNumber, A.InvalidRoom, A.InvalidLights, A.InvalidLevel, A.InvalidPresses, A.InvalidHistory, A.InvalidRuns, A.InvalidTable, A.InvalidLetters, A.InvalidHouse, A.InvalidWalk, A.InvalidWalks, A.InvalidLayers, A.InvalidText, A.InvalidDeed, A.Unlike, A.TooMany, A.NothingToUndo, A.NothingToRedo]
structure Ck (P : Program) (w : World) (K : Fg) (mg : Str → Option Value) (base : Heap) (A : Ad) : Prop where
  InvalidNumber : Mke P w K mg base "InvalidNumber" A.InvalidNumber
  InvalidRoom : Mke P w K mg base "InvalidRoom" A.InvalidRoom
  InvalidLights : Mke P w K mg base "InvalidLights" A.InvalidLights
  InvalidLevel : Mke P w K mg base "InvalidLevel" A.InvalidLevel
  InvalidPresses : Mke P w K mg base "InvalidPresses" A.InvalidPresses
  InvalidHistory : Mke P w K mg base "InvalidHistory" A.InvalidHistory
  InvalidRuns : Mke P w K mg base "InvalidRuns" A.InvalidRuns
  InvalidTable : Mke P w K mg base "InvalidTable" A.InvalidTable
  InvalidLetters : Mke P w K mg base "InvalidLetters" A.InvalidLetters
  InvalidHouse : Mke P w K mg base "InvalidHouse" A.InvalidHouse
  InvalidWalk : Mke P w K mg base "InvalidWalk" A.InvalidWalk
  InvalidWalks : Mke P w K mg base "InvalidWalks" A.InvalidWalks
  InvalidLayers : Mke P w K mg base "InvalidLayers" A.InvalidLayers
  InvalidText : Mke P w K mg base "InvalidText" A.InvalidText
  InvalidDeed : Mke P w K mg base "InvalidDeed" A.InvalidDeed
  Unlike : Mke P w K mg base "Unlike" A.Unlike
  TooMany : Mke P w K mg base "TooMany" A.TooMany
  NothingToUndo : Mkn K mg "NothingToUndo" A.NothingToUndo
  NothingToRedo : Mkn K mg "NothingToRedo" A.NothingToRedo
  DoorError : Mkn K mg "DoorError" A.DoorError
  s_InvalidNumber : Std K mg "InvalidNumber" A.InvalidNumber [.ref A.DoorError]
  s_InvalidRoom : Std K mg "InvalidRoom" A.InvalidRoom [.ref A.DoorError]
  s_InvalidLights : Std K mg "InvalidLights" A.InvalidLights [.ref A.DoorError]
  s_InvalidLevel : Std K mg "InvalidLevel" A.InvalidLevel [.ref A.DoorError]
  s_InvalidPresses : Std K mg "InvalidPresses" A.InvalidPresses [.ref A.DoorError]
  s_InvalidHistory : Std K mg "InvalidHistory" A.InvalidHistory [.ref A.DoorError]
  s_InvalidRuns : Std K mg "InvalidRuns" A.InvalidRuns [.ref A.DoorError]
  s_InvalidTable : Std K mg "InvalidTable" A.InvalidTable [.ref A.DoorError]
  s_InvalidLetters : Std K mg "InvalidLetters" A.InvalidLetters [.ref A.DoorError]
  s_InvalidHouse : Std K mg "InvalidHouse" A.InvalidHouse [.ref A.DoorError]
  s_InvalidWalk : Std K mg "InvalidWalk" A.InvalidWalk [.ref A.DoorError]
  s_InvalidWalks : Std K mg "InvalidWalks" A.InvalidWalks [.ref A.DoorError]
  s_InvalidLayers : Std K mg "InvalidLayers" A.InvalidLayers [.ref A.DoorError]
  s_InvalidText : Std K mg "InvalidText" A.InvalidText [.ref A.DoorError]
  s_InvalidDeed : Std K mg "InvalidDeed" A.InvalidDeed [.ref A.DoorError]
  s_Unlike : Std K mg "Unlike" A.Unlike [.ref A.DoorError]
  s_TooMany : Std K mg "TooMany" A.TooMany [.ref A.DoorError]
  s_NothingToUndo : Std K mg "NothingToUndo" A.NothingToUndo [.ref A.DoorError]
  s_NothingToRedo : Std K mg "NothingToRedo" A.NothingToRedo [.ref A.DoorError]
  s_DoorError : Std K mg "DoorError" A.DoorError []
  nd : (A.DoorError :: A.l19).Nodup
section
variable {P : Program} {w : World} {K : Fg} {mg : Str → Option Value} {base : Heap} {A : Ad}
theorem Ck.std (M : Ck P w K mg base A) : ∀ C ∈ A.l19, ∃ x, Std K mg x C [.ref A.DoorError] := List.forall_mem_cons.mpr ⟨⟨_, M.s_InvalidNumber⟩, List.forall_mem_cons.mpr ⟨⟨_, M.s_InvalidRoom⟩, List.forall_mem_cons.mpr ⟨⟨_, M.s_InvalidLights⟩, List.forall_mem_cons.mpr ⟨⟨_, M.s_InvalidLevel⟩, List.forall_mem_cons.mpr ⟨⟨_, M.s_InvalidPresses⟩, List.forall_mem_cons.mpr ⟨⟨_, M.s_InvalidHistory⟩, List.forall_mem_cons.mpr ⟨⟨_, M.s_InvalidRuns⟩, List.forall_mem_cons.mpr ⟨⟨_, M.s_InvalidTable⟩, List.forall_mem_cons.mpr ⟨⟨_, M.s_InvalidLetters⟩, List.forall_mem_cons.mpr ⟨⟨_, M.s_InvalidHouse⟩, List.forall_mem_cons.mpr ⟨⟨_, M.s_InvalidWalk⟩, List.forall_mem_cons.mpr ⟨⟨_, M.s_InvalidWalks⟩, List.forall_mem_cons.mpr ⟨⟨_, M.s_InvalidLayers⟩, List.forall_mem_cons.mpr ⟨⟨_, M.s_InvalidText⟩, List.forall_mem_cons.mpr ⟨⟨_, M.s_InvalidDeed⟩, List.forall_mem_cons.mpr ⟨⟨_, M.s_Unlike⟩, List.forall_mem_cons.mpr ⟨⟨_, M.s_TooMany⟩, List.forall_mem_cons.mpr ⟨⟨_, M.s_NothingToUndo⟩, List.forall_mem_cons.mpr ⟨⟨_, M.s_NothingToRedo⟩, fun _ h => nomatch h⟩⟩⟩⟩⟩⟩⟩⟩⟩⟩⟩⟩⟩⟩⟩⟩⟩⟩⟩
theorem Ck.ne (M : Ck P w K mg base A) : ∀ C ∈ A.l19, C ≠ A.DoorError := fun C h e => (List.nodup_cons.mp M.nd).1 (e ▸ h)
theorem kd_all {x : Str} {C D : Addr} {r : List Value} (h : Std K mg x C r) (hr : ∀ d, d ≠ D → Value.ref d ∉ bmV r) : ∀ Ds : List Addr, (∀ d ∈ Ds, ∃ y, Std K mg y d [.ref D]) → (∀ d ∈ Ds, d ≠ D) → KdL K C Ds (Ds.map fun d => decide (C = d))
  | [], _, _ => .nil
  | d :: Ds, h1, h2 => by
    obtain ⟨y, hd⟩ := h1 d (List.mem_cons_self ..)
    exact .cons (h.kit hd (hr d (h2 d (List.mem_cons_self ..)))) (kd_all h hr Ds (fun e he => h1 e (List.mem_cons_of_mem _ he)) (fun e he => h2 e (List.mem_cons_of_mem _ he)))
theorem not_bm {d : Addr} {r : List Value} (h : Value.ref d ∉ r) : Value.ref d ∉ bmV r := fun z => by
  rcases List.mem_append.mp z with z | z
  · exact h z
  · simp at z
/-- the i-th class: which of the nineteen it is -/
theorem Ck.kinds (M : Ck P w K mg base A) {i : Nat} {C : Addr} (h : A.l19[i]? = some C) : KdL K C A.l19 ((List.range 19).map fun j => decide (j = i)) := by
  obtain ⟨x, hx⟩ := M.std C (List.mem_of_getElem? h)
  have k := kd_all hx (D := A.DoorError) (fun d hd => not_bm (by simpa using hd)) A.l19 M.std M.ne
  have e := nd_map 0 (List.nodup_cons.mp M.nd).2 h
  have e2 : (List.range 19).map (fun j => decide (j = i)) = (List.range' 0 A.l19.length).map (fun j => decide (j = 0 + i)) := by
    rw [Nat.zero_add, List.range_eq_range']
    rfl
  rw [e2, ← e]
  exact k
theorem Ck.kinds0 (M : Ck P w K mg base A) : KdL K A.DoorError A.l19 ((List.range 19).map fun _ => false) := by
  have k := kd_all M.s_DoorError (D := A.DoorError) (fun d hd => not_bm (by simp)) A.l19 M.std M.ne
  have e : (A.l19.map fun d => decide (A.DoorError = d)) = A.l19.map fun _ => false := List.map_congr_left fun d hd => decide_eq_false fun z => M.ne d hd z.symm
  rw [e] at k
  exact k
theorem Ck.isD (M : Ck P w K mg base A) {C : Addr} (h : C ∈ A.l19) : PySem.W.kitOne K (.ref C) (.ref A.DoorError) = some true := by
  obtain ⟨x, hx⟩ := M.std C h
  exact hx.kitUp M.s_DoorError (List.mem_append_left _ (List.mem_singleton.mpr rfl))
theorem Ck.isV (M : Ck P w K mg base A) {C : Addr} (h : C ∈ A.l19) : PySem.W.kitOne K (.ref C) (.type "ValueError") = some true := by
  obtain ⟨x, hx⟩ := M.std C h
  exact hx.kitT (List.mem_append_right _ (by decide)) (by decide +kernel)
theorem Ck.dV (M : Ck P w K mg base A) : PySem.W.kitOne K (.ref A.DoorError) (.type "ValueError") = some true := M.s_DoorError.kitT (List.mem_append_right _ (by decide)) (by decide +kernel)
theorem Ck.exc (M : Ck P w K mg base A) {C : Addr} (h : C ∈ A.l19) : ExcC K C := let ⟨_, hx⟩ := M.std C h; hx.exc
end
/-! ### enumerate -/
theorem for_enum {K : PySem.W.Frag} {a : Addr} {xs : List V} {g : TG} {tb : TS} {D : Ends} {σ : L2.St} {H : Hp} (Pv : Nat → L2.St → Hp → Prop) (h0 : Pv 0 σ H) (hl : ∀ i σ H, i ≤ xs.length → Pv i σ H → SqL K H a xs)
    (hs : ∀ i x T σ H, xs[i]? = some x → Pv i σ H → H T = none → g (.ref T) σ (upd H T (.tup [.int (i : Nat), x])) fun σ2 H2 => tb { D with nx := Pv (i + 1), ct := Pv (i + 1), bk := D.nx } σ2 H2) (hd : ∀ σ H, Pv xs.length σ H → D.nx σ H) :
    ∃ W : Nat → Nat → L2.St → Hp → Prop, (∃ m, W 0 m σ H) ∧ ∀ i m σ H, W i m σ H →
      ((Ite K a).stop i H ∧ D.nx σ H) ∨ ((Ite K a).go i H ∧ ∃ N : L2.St → Hp → Prop, (∀ σ' H', N σ' H' → ∃ m', m' < m ∧ W (i + 1) m' σ' H') ∧ ∀ x H', (Ite K a).yld i H x H' → g x σ H' fun σ2 H2 => tb { D with nx := N, ct := N, bk := D.nx } σ2 H2) := by
  refine ⟨fun i m σ H => m = xs.length - i ∧ i ≤ xs.length ∧ Pv i σ H, ⟨xs.length, by simp, Nat.zero_le _, h0⟩, ?_⟩
  rintro i m σ H ⟨rfl, hi, p⟩
  have q := hl i σ H hi p
  by_cases hlt : i < xs.length
  · refine .inr ⟨⟨xs, xs[i], q, by simp [hlt]⟩, Pv (i + 1), fun σ' H' p' => ⟨xs.length - (i + 1), by omega, rfl, hlt, p'⟩, fun x H' y => ?_⟩
    obtain ⟨T, z, rfl, hT, rfl, y⟩ := y
    exact hs i z T σ H (y xs q) p hT
  · have e : i = xs.length := by omega
    subst e
    exact .inl ⟨⟨xs, q, Nat.le_refl _⟩, hd σ H p⟩
/-- a pair unpacked into two names -/
theorem g_pair {K : PySem.W.Frag} {i j : Nat} {T : Addr} {x y : V} {σ : L2.St} {H : Hp} {Q : L2.St → Hp → Prop} (h : H T = some (.tup [x, y])) (q : Q ((σ.set i (some x)).set j (some y)) H) : gTup K 2 (gCons (gName i) (gCons (gName j) gNil)) (.ref T) σ H Q :=
  ⟨T, _, rfl, Evl.st_of h, rfl, _, _, rfl, _, _, rfl, rfl, q⟩
/-! ### the promises of the law's defs -/
def spMade (A : Ad) : Sp := fun vs H Q _ => ∃ v, vs = [v] ∧ ∀ l as H', H l = none → Ex H H' → H' l = some (.lst (as.map V.ref)) → AllE H' v as A.l17 → Q (.ref l) H'
def spEmpty (A : Ad) : Sp := fun vs H Q _ => vs = [] ∧ ∀ l as H', H l = none → Ex H H' → H' l = some (.lst (as.map V.ref)) → AllE H' .non as A.l17 → Q (.ref l) H'
def spKinds (K : Fg) (A : Ad) : Sp := fun vs H Q _ => ∃ a C bs, vs = [.ref a] ∧ IsX H a C ∧ ExcC K C ∧ KdL K C A.l19 bs ∧ ∀ l H', H l = none → Ex H H' → H' l = some (.lst (bs.map V.bl)) → Q (.ref l) H'
/-- a value that is like itself and may be printed -/
def Vok (K : Fg) (H : Hp) (v : V) : Prop := (∃ d, Da K H v d ∧ Fine d) ∧ ∀ H', Ex H H' → ∀ Q : VK, Q (.bl true) H' → rEqW K v v H' Q
theorem Vok.ex {K : Fg} {H H' : Hp} {v : V} (e : Ex H H') (h : Vok K H v) : Vok K H' v := by
  obtain ⟨⟨d, h1, h2⟩, h3⟩ := h
  exact ⟨⟨d, h1.ex e, h2⟩, fun H2 e2 => h3 H2 (e.trans e2)⟩
def spRow (K : Fg) (A : Ad) : Sp := fun vs H Q _ => ∃ l as v, vs = [.ref l, v] ∧ H l = some (.lst (as.map V.ref)) ∧ AllE H v as A.l17 ∧ Vok K H v ∧ ∀ H', Ex H H' → Q (.bl true) H'
def spLaw (K : Fg) : Sp := fun vs H Q _ => ∃ (s : Addr) (ns : List Int), vs = [.ref s] ∧ SqL K H s (ns.map V.int) ∧ ∀ H', Q (.bl true) H'
section
variable {σ : L2.St} {H : Hp} {te : TE} {tz : TS} {D : Ends} {i : Nat} {Cs : List Addr} {v : V}
theorem q_asgX (h : EvXL te σ H Cs v) (k : ∀ l as H1, H l = none → Ex H H1 → H1 l = some (.lst (as.map V.ref)) → AllE H1 v as Cs → tz D (σ.set i (some (.ref l))) H1) : tSeq (tAsg te (gName i)) tz D σ H := h H (Ex.refl H) _ k
theorem s_retX (h : EvXL te σ H Cs v) (k : ∀ l as H1, H l = none → Ex H H1 → H1 l = some (.lst (as.map V.ref)) → AllE H1 v as Cs → D.rt (.ref l) H1) : tRet te D σ H := h H (Ex.refl H) _ k
theorem exl_is {Ds : List Addr} (h : EvXL te σ H Cs v) (e : Cs = Ds) : EvXL te σ H Ds v := e ▸ h
end
end TD

set_option maxHeartbeats 4000000
/-! # X1: a caught exception that is kept behind its except suite -/
namespace TD
open PySem PySem.Spec PyProof.Rows L2
open Evl (Ex)
/-- at a: an exception of the class at C that was raised and caught; its dict is at d -/
def exk (a C d : Addr) : HO := .ext fun h => ∃ (ob : Obj) (fl : Array Value), h.get? a = some ob ∧ ob.cls = .ref C ∧ ob.dict = some d ∧ ob.data = .fields fl
theorem exk_ok {P : Program} {w : World} {H : Hp} {h : Heap} {a C d : Addr} {ob : Obj} {fl : Array Value} (e : h.get? a = some ob) (z : Zc (.ref C) (some d) ob) (k : ob.data = .fields fl) : ObjOk P w H h a (exk a C d) :=
  ⟨⟨ob, fl, e, z.1, z.2, k⟩, ⟨ob, e⟩, fun _ _ ⟨o, v, q, r⟩ st => ⟨o, v, st o q, r⟩⟩
theorem exk_at {P : Program} {w : World} {H : Hp} {h : Heap} {a C d : Addr} (ok : HOk P w H h) (e : H a = some (exk a C d)) : ∃ (ob : Obj) (fl : Array Value), h.get? a = some ob ∧ ob.cls = .ref C ∧ ob.dict = some d ∧ ob.data = .fields fl := by
  have z : ObjOk P w H h a (.ext fun h => ∃ (ob : Obj) (fl : Array Value), h.get? a = some ob ∧ ob.cls = .ref C ∧ ob.dict = some d ∧ ob.data = .fields fl) := ok a _ e
  exact z.1
section
variable {X : Cx} {pins : List (Addr × Obj)} {σ : L2.St} {H : Hp} {s : Shared} {a : Addr} {o : HO}
/-- what stands in the heap, new since the entry, may be tracked from now on -/
theorem Inv.adopt (I : Inv X pins σ H s) (n0 : X.s_0.heap.get? a = none) (nH : H a = none) (nL : a ≠ X.env.locals) (nC : ∀ x c, X.env.cells.lookup x = some c → c ≠ a) (nP : ∀ p ∈ X.pn ++ pins, p.1 ≠ a)
    (ok : ObjOk X.prog X.w (upd H a o) s.heap a o) : Inv X pins σ (upd H a o) s := by
  have other : ∀ {b : Addr}, b ≠ a → upd H a o b = H b := fun hb => upd_ne hb
  have had : ∀ {b : Addr} {u : HO}, H b = some u → b ≠ a := fun e z => by
    subst z
    rw [nH] at e
    cases e
  refine { ok := I.ok, os := I.os, bare := I.bare, base := ?_, loc := I.loc, cell := I.cell, free := ?_, freeC := ?_, pin := ?_, hok := I.hok.laidN (fun _ _ e => e) nH ok, len := I.len }
  · refine { keep := I.base.keep, slot := I.base.slot, free := ?_, there := I.base.there, tups := ?_, frzs := ?_, tbls := ?_ }
    · intro b u e n hx
      rw [other (fun z => by subst z; rw [n0] at e; cases e)]
      exact I.base.free b u e n hx
    · intro b xs e
      have q := I.base.tups b xs e
      rwa [other (had q)]
    · intro b u v e
      have q := I.base.frzs b u v e
      rwa [other (had q)]
    · intro b ps e
      obtain ⟨m, q⟩ := I.base.tbls b ps e
      exact ⟨m, by rwa [other (had q)]⟩
  · rw [other (Ne.symm nL)]
    exact I.free
  · intro x c e
    rw [other (nC x c e)]
    exact I.freeC x c e
  · intro p hp
    obtain ⟨e1, e2, e3⟩ := I.pin p hp
    exact ⟨e1, by rw [other (nP p hp)]; exact e2, e3⟩
end
/-- what is wished of an exception that is caught, kept, and forgotten by the clause's name (slot i) -/
def wKeep (K : Fg) (c : Value) (i : Nat) (ts : TS) (D : Ends) : WX := fun cls d σ H => ∃ C x, cls = .ref C ∧ d = some x ∧ PySem.W.exmOne K cls c = some true ∧
  ∀ a, H a = none → ts { nx := fun σ2 H2 => D.nx (σ2.set i none) (upd H2 a (exk a C x)), rt := fun _ _ => False, bk := fun _ _ => False, ct := fun _ _ => False } (σ.set i (some (.ref a))) H
section
variable {X : Cx} {x n : Str} {c : Value} {i : Nat} {body rest : List Stmt} {b0 : Stmt} {p1 p2 p3 : Pos} {tb : WX → TS} {ts : TS}
theorem ps_keep (hs : X.stack = X.env :: X.outer) (hf : X.env.frame = some X.env.locals) (hex : X.ex = []) (hN : X.N.Nodup) (hi : X.N[i]? = some n) (hln : X.env.kindOf n = some .local) (hc : Names X x c)
    (hb : ∀ (W : WX) (pn : List (Addr × Obj)) (xe : Value → Shared → Prop), Takes (X.tr pn xe) W → PassesOwn (model X.prog X.w) X.A X.env xe → PSs (X.tr pn xe) body (tb W))
    (hsu : ∀ (a : Addr) (oe : Obj) (cls : Value) (d : Option Addr) (pn : List (Addr × Obj)), Zc cls d oe → (∃ vs, oe.data = .fields vs) → PSs (X.suite a ((a, oe) :: pn)) (b0 :: rest) ts) :
    PS X (.Try body [.ExceptHandler (some (.Name x p1)) (some n) (b0 :: rest) p2] [] [] p3) (fun D σ H => tb (wKeep X.K c i ts D) D σ H) := by
  refine ⟨fun pins s σ H D I h => ?_⟩
  have Iok := I.ok
  have frm : X.A.frames = some (X.env :: X.outer) := by
    rw [Iok.frames, hs]
  refine wpAny_Try_except ?_
  let cont : Value → Shared → Prop := fun e z => wpAny (model X.prog X.w) X.A (noteFrame e X.env) (fun _ z2 => wpAny (model X.prog X.w) X.A (setFlight e none) (fun _ z3 =>
    wpAny (model X.prog X.w) X.A (handleBy e X.env [.ExceptHandler (some (.Name x p1)) (some n) (b0 :: rest) p2]) (SP X pins D) X.xe z3) X.xe z2) X.xe z
  have caught : Takes (X.tr (X.pn ++ pins) cont) (wKeep X.K c i ts D) := by
    rintro _ z ⟨a, B, zI, pins2, σ2, H2, cls, d, rfl, J0, nb, up, sky, na, eo, bare, C, xd, rfl, rfl, yes, go⟩
    have J : Inv X pins σ2 H2 zI := J0.ofTry Iok
    rw [show (X.tr (X.pn ++ pins) cont).stack = X.env :: X.outer from hs] at sky
    show wpAny (model X.prog X.w) X.A (noteFrame (.ref a) X.env) _ _ _
    refine Sky.land Zc.steady frm hf sky fun hA flA upA => ?_
    have JA : Inv X pins σ2 H2 { z with heap := hA } := J.landed nb flA.1 (up.trans upA) eo bare
    obtain ⟨oA, vA, eA, zA, dA⟩ := flA.there
    have nfr : a ∉ frs (X.env :: X.outer) := fun hm => by
      obtain ⟨_, o2, e2, nf⟩ := flA.2.2.1.mem hm
      rw [eA] at e2
      cases e2
      exact nf _ dA
    have nL : a ≠ X.env.locals := fun q => nfr (List.mem_filterMap.mpr ⟨X.env, List.mem_cons_self, by rw [hf, q]⟩)
    have nF : a ∉ X.fs := fun hm => by
      obtain ⟨e, he, q⟩ := List.mem_filterMap.mp hm
      exact nfr (List.mem_filterMap.mpr ⟨e, List.mem_cons_of_mem _ he, q⟩)
    have SA := JA.suite eA dA na nL nF
    have nI : zI.heap.get? a = none := by
      cases q : zI.heap.get? a with
      | none => rfl
      | some u =>
        have r := nb a u q (by rw [show (X.tr (X.pn ++ pins) cont).stack = X.env :: X.outer from hs]; exact nfr)
        rw [flA.2.1] at r
        cases r
    have n0 : X.s_0.heap.get? a = none := by
      cases q : X.s_0.heap.get? a with
      | none => rfl
      | some u =>
        obtain ⟨u2, r⟩ := J.base.there a u q (by rw [hex]; exact fun w => nomatch w)
        rw [nI] at r
        cases r
    have nC : ∀ y cc, X.env.cells.lookup y = some cc → cc ≠ a := fun y cc e q => by
      obtain ⟨v, o, ho, _⟩ := J.cell y cc e
      rw [q, nI] at ho
      cases ho
    have nP : ∀ p ∈ X.pn ++ pins, p.1 ≠ a := fun p hp q => by
      have r := (J.pin p hp).1
      rw [q, nI] at r
      cases r
    refine wpAny_handleBy_cons (codeAny_handlers_test ?_) (fun q => nomatch q)
    have ty : PySem.W.Looks (model X.prog X.w) hA (typeOf (.ref a)) (.ref C) := fun _ _ _ _ k q => wpAny_typeOf_ref (k _ _ eA) (by
      rw [zA.1]
      exact q)
    have LK := PySem.W.exm_one (M := model X.prog X.w) (JA.kIn) ty yes
    have name : ∀ {Q : Value → Shared → Prop} {E : Value → Shared → Prop}, Q c { z with heap := hA } → wpAny (model X.prog X.w) (X.A.mark (some (.ref a))) (eval (.Name x p1) X.env) Q E { z with heap := hA } := fun q => by
      obtain ⟨hg, hd, hm | ⟨hm, hv, hn⟩⟩ := hc
      · exact ld_glob (X := X.suite a ((a, oA) :: (X.pn ++ pins))) SA hg hm q hd
      · exact ld_blt (X := X.suite a ((a, oA) :: (X.pn ++ pins))) SA hg hm hv q hn hd
    refine name (LK.here (codeAny_handlers_suite_as ?_))
    refine HandSPX.lands_againZ flA fun hB flB upB => ?_
    have JB : Inv X pins σ2 H2 { z with heap := hB } := J.landed nb flB.1 ((up.trans upA).trans upB) eo bare
    obtain ⟨oB, vB, eB, zB, dB⟩ := flB.there
    refine store_ok (X := X.suite a ((a, oB) :: (X.pn ++ pins))) (v := .ref a) (JB.suite eB dB na nL nF) hN hi (.inl hln) rfl (fun z5 S5 => ?_) (.inr hln)
    refine wpAny_mono ((hsu a oB (.ref C) (some xd) (X.pn ++ pins) zB ⟨_, dB⟩).run [] z5 _ H2 _ S5 (go a na)) (fun f z6 sp => ?_) (fun _ _ q => q.elim)
    cases f with
    | next =>
      obtain ⟨σ6, H6, S6, q6⟩ := sp
      obtain ⟨e6, m6, _⟩ := S6.pin (a, oB) (List.mem_append_left _ List.mem_cons_self)
      have J6 : Inv X pins σ6 (upd H6 a (exk a C xd)) z6 := Inv.adopt (S6.unsuite Iok) n0 m6 nL nC nP (exk_ok e6 zB dB)
      exact gone_ok J6 hN hi hln fun z7 J7 => ⟨_, _, J7, q6⟩
    | brk => exact (let ⟨_, _, _, q⟩ := sp; False.elim q)
    | cont => exact (let ⟨_, _, _, q⟩ := sp; False.elim q)
    | ret u => exact (let ⟨_, _, _, _, _, q⟩ := sp; False.elim q)
  refine wpAny_mono ((hb _ (X.pn ++ pins) cont caught PassesOwn.looking).run [] s σ H D (I.toTry _) h) (fun f z sp => ?_) (fun _ _ q => q)
  cases f with
  | next => exact (let ⟨σ2, H2, J, q⟩ := sp; wpAny_execs_nil ⟨σ2, H2, J.ofTry Iok, q⟩)
  | brk => exact (let ⟨σ2, H2, J, q⟩ := sp; ⟨σ2, H2, J.ofTry Iok, q⟩)
  | cont => exact (let ⟨σ2, H2, J, q⟩ := sp; ⟨σ2, H2, J.ofTry Iok, q⟩)
  | ret u => exact (let ⟨v, σ2, H2, J, r, q⟩ := sp; ⟨v, σ2, H2, J.ofTry Iok, r, q⟩)
end
end TD

set_option maxHeartbeats 4000000
/-! # X2: defs that may raise: class and field told; calls of them, raising, what a body comes to -/
namespace TD
open PySem PySem.Spec PyProof.Rows L2
open Evl (Ex)
/-- the dict of an exception that keeps v -/
abbrev xdV (v : V) : HO := .xd [(("value" : Str), v)]
/-- the promise of a def that makes new data of its arguments, or raises: the class at C, with the argument number i in the field -/
def SpX (K : Fg) (R : List PyData → PyData → Prop) (RX : List PyData → Addr → Nat → Prop) : Sp := fun vs H Q E => ∃ B ds, Ex B H ∧ Das K B vs ds ∧
  ((∃ d, R ds d ∧ ∀ v B' H', Le B H B' H' → Da K B' v d → Q v H') ∨
   (∃ C i v, RX ds C i ∧ vs[i]? = some v ∧ ∀ x B' H', Le B H B' H' → H' x = some (xdV v) → E (.ref C) (some x) H'))
section
variable (P : Program) (w : World) (K : Fg) (mg : Str → Option Value) (base : Heap)
def Fx (x : Str) (ps : List Str) (k : Nat) (sp : Sp) : Prop :=
  ∃ (f : Addr) (fd : FuncData), mg x = some (.ref f) ∧ PySem.W.keepIn K (.ref f) = true ∧ Binds K fd ps [] ∧ FnG P w K mg base (L2.CX P w) k f fd ps sp
end
/-- the body raises: the class at C, the field is what slot i holds -/
def XZ (K : Fg) (E : XK) (t : TS) (ρ : En) (C : Addr) (i : Nat) : Prop := ∀ σ B H D, Ex B H → SD K B σ ρ → ∀ v, σ[i]? = some (some v) →
  (∀ x B' H', Le B H B' H' → H' x = some (xdV v) → E (.ref C) (some x) H') → t D σ H
/-- arguments, the j-th of which is what slot i holds -/
def EAi (K : Fg) (ta : TA) (ρ : En) (ds : List PyData) (j i : Nat) : Prop := ∀ σ B H, Ex B H → SD K B σ ρ → ∀ v, σ[i]? = some (some v) →
  ∀ Q : List V → Hp → Prop, (∀ vs B' H', Le B H B' H' → Das K B' vs ds → vs[j]? = some v → Q vs H') → ta σ H Q
def tRz (C : Addr) (ta : TA) (W : WX) : TS := fun _ σ H => ta σ H fun vs H1 => ∃ v, vs = [v] ∧ ∀ d, H1 d = none → W (.ref C) (some d) σ (upd H1 d (xdV v))
section
variable {K : Fg} {E : XK} {t u : TS} {ρ ρ1 : En} {C : Addr} {i j k : Nat} {ta : TA} {te : TE} {tt : TT} {d e : PyData} {ds : List PyData} {o : Out}
theorem eai_here {tr : TA} (hd : ρ[i]? = some (some d)) (h : EA K tr ρ ds) : EAi K (tCons (tVar i) tr) ρ (d :: ds) 0 i := fun σ B H s sd v hv Q q => by
  obtain ⟨v', e, hv'⟩ := sd.2 i d hd
  rw [hv] at e
  cases e
  exact ⟨v, hv, h σ B H s sd _ fun vs B' H' l dd => q (v :: vs) B' H' l (.cons (hv'.ex l.ek) dd) rfl⟩
theorem eai_next {tr : TA} (h : ED K te ρ d) (hr : EAi K tr ρ ds j i) : EAi K (tCons te tr) ρ (d :: ds) (j + 1) i := fun σ B H s sd v hv Q q =>
  h σ B H s sd _ fun x B1 H1 l1 d1 => hr σ B1 H1 l1.sub (sd.up l1.ek) v hv _ fun vs B2 H2 l2 d2 e => q (x :: vs) B2 H2 (l1.tr l2) (.cons (d1.ex l2.ek) d2) (by simpa using e)
theorem xz_raise (hd : ρ[i]? = some (some d)) : XZ K E (tRz C (tCons (tVar i) tNil) fun c d _ H => E c d H) ρ C i := fun σ B H D s sd v hv q =>
  ⟨v, hv, v, rfl, fun x hx => q x _ _ (Le.new s hx) upd_same⟩
theorem xz_if1 (h : ET K tt ρ true) (h1 : XZ K E t ρ C i) : XZ K E (tIfS tt t u) ρ C i := fun σ B H D s sd v hv q =>
  h σ B H s sd _ fun B1 H1 l1 => by
    show t D σ H1
    exact h1 σ B1 H1 D l1.sub (sd.up l1.ek) v hv fun x B2 H2 l2 => q x B2 H2 (l1.tr l2)
theorem xz_if0 (h : ET K tt ρ false) (h1 : XZ K E u ρ C i) : XZ K E (tIfS tt t u) ρ C i := fun σ B H D s sd v hv q =>
  h σ B H s sd _ fun B1 H1 l1 => by
    show u D σ H1
    exact h1 σ B1 H1 D l1.sub (sd.up l1.ek) v hv fun x B2 H2 l2 => q x B2 H2 (l1.tr l2)
theorem xz_here (h : XZ K E t ρ C i) : XZ K E (tSeq t u) ρ C i := fun σ B H D s sd v hv q => h σ B H _ s sd v hv q
/-- statements that leave the slot i as it is -/
def XSi (K : Fg) (i : Nat) (t : TS) (ρ ρ1 : En) : Prop := ∀ σ B H (D : Ends), Ex B H → SD K B σ ρ → (∀ σ' B' H', Le B H B' H' → SD K B' σ' ρ1 → σ'[i]? = σ[i]? → D.nx σ' H') → t D σ H
theorem xz_then (h : XSi K i t ρ ρ1) (h1 : XZ K E u ρ1 C i) : XZ K E (tSeq t u) ρ C i := fun σ B H D s sd v hv q =>
  h σ B H _ s sd fun σ' B1 H1 l1 s1 e => h1 σ' B1 H1 D l1.sub s1 v (e.trans hv) fun x B2 H2 l2 => q x B2 H2 (l1.tr l2)
theorem xi_drop (h : ED K te ρ d) : XSi K i (tDrop te) ρ ρ := fun σ B H D s sd q => h σ B H s sd _ fun _ B1 H1 l1 _ => q σ B1 H1 l1 (sd.up l1.ek) rfl
theorem xi_asg (h : ED K te ρ d) (hij : j ≠ i) : XSi K i (tAsg te (gName j)) ρ (ρ.set j (some d)) := fun σ B H D s sd q =>
  h σ B H s sd _ fun v B1 H1 l1 d1 => q _ B1 H1 l1 ((sd.up l1.ek).put j d1) (List.getElem?_set_ne hij)
theorem xi_skip (h : ET K tt ρ false) : XSi K i (tIfS tt t tNext) ρ ρ := fun σ B H D s sd q => h σ B H s sd _ fun B1 H1 l1 => q σ B1 H1 l1 (sd.up l1.ek) rfl
theorem xi_in (h : ET K tt ρ true) (h1 : XSi K i t ρ ρ1) : XSi K i (tIfS tt t u) ρ ρ1 := fun σ B H D s sd q =>
  h σ B H s sd _ fun B1 H1 l1 => by
    show t D σ H1
    exact h1 σ B1 H1 D l1.sub (sd.up l1.ek) fun σ' B2 H2 l2 s2 e => q σ' B2 H2 (l1.tr l2) s2 e
theorem xi_seq {ρ2 : En} (h : XSi K i t ρ ρ1) (h1 : XSi K i u ρ1 ρ2) : XSi K i (tSeq t u) ρ ρ2 := fun σ B H D s sd q =>
  h σ B H _ s sd fun σ1 B1 H1 l1 s1 e1 => h1 σ1 B1 H1 D l1.sub s1 fun σ2 B2 H2 l2 s2 e2 => q σ2 B2 H2 (l1.tr l2) s2 (e2.trans e1)
/-- a call that raises, as a statement -/
theorem xz_call {R : List PyData → PyData → Prop} {RX : List PyData → Addr → Nat → Prop} (h : EAi K ta ρ ds j i) (hR : RX ds C j) : XZ K E (tDrop (tCallS (SpX K R RX) (WE fun c d _ H => E c d H) ta)) ρ C i := fun σ B H D s sd v hv q =>
  h σ B H s sd v hv _ fun vs B1 H1 l1 d1 e => ⟨B1, ds, l1.sub, d1, .inr ⟨C, j, v, hR, e, fun x B2 H2 l2 => q x B2 H2 (l1.tr l2)⟩⟩
theorem xz_ret {R : List PyData → PyData → Prop} {RX : List PyData → Addr → Nat → Prop} (h : EAi K ta ρ ds j i) (hR : RX ds C j) : XZ K E (tRet (tCallS (SpX K R RX) (WE fun c d _ H => E c d H) ta)) ρ C i := fun σ B H D s sd v hv q =>
  h σ B H s sd v hv _ fun vs B1 H1 l1 d1 e => ⟨B1, ds, l1.sub, d1, .inr ⟨C, j, v, hR, e, fun x B2 H2 l2 => q x B2 H2 (l1.tr l2)⟩⟩
/-- a call that may raise, and does not -/
theorem ed_callS {R : List PyData → PyData → Prop} {RX : List PyData → Addr → Nat → Prop} {Ew : L2.St → XK} (h : EA K ta ρ ds) (hR : R ds d) : ED K (tCallS (SpX K R RX) Ew ta) ρ d := fun σ B H s sd Q q =>
  h σ B H s sd _ fun vs B1 H1 l1 d1 => ⟨B1, ds, l1.sub, d1, .inl ⟨d, hR, fun v B2 H2 l2 d2 => q v B2 H2 (l1.tr l2) d2⟩⟩
end
section
variable {P : Program} {w : World} {K : Fg} {mg : Str → Option Value} {base : Heap} {x : Str} {ps N : List Str} {k : Nat} {st : Stmt}
theorem fx_mk {R : List PyData → PyData → Prop} {RX : List PyData → Addr → Nat → Prop} (a : At K mg x st) (S : FnScope N ps (defScope st))
    (hb : ∀ (kV doc pm : Value) (an : Option Addr) (cdv ct : Value) (us : List Value), us.length = ps.length → bindArgs (PySem.W.fnOf x x (defArgs st) (defBody st) (defScope st) .none kV doc pm an cdv ct) ⟨us, []⟩ = pure (ps.zip us))
    (hl : ∀ ds d, R ds d → ds.length = ps.length) (hl2 : ∀ ds C i, RX ds C i → ds.length = ps.length)
    (body : ∀ (f : Addr) (cdv : Value) (A : Around) (outer : List Env) (s : Shared) (H : Hp) (E : XK), A.guards = some [] → Room k (A.deeper (envOfC x (defScope st) s.heap.objs.size f cdv)) →
      Takes (cxOf (L2.CX P w) P w K mg base N x (defScope st) f cdv A outer s H E) (fun c d _ H => E c d H) →
      ∃ t, PSs (cxOf (L2.CX P w) P w K mg base N x (defScope st) f cdv A outer s H E) (defBody st) t ∧ (∀ ds d, R ds d → XR K t (enOf N ds) d) ∧ ∀ ds C i, RX ds C i → XZ K E t (enOf N ds) C i) : Fx P w K mg base x ps (k + 1) (SpX K R RX) := by
  obtain ⟨f, fd, F, hm⟩ := a
  refine ⟨f, fd, hm, F.kp, F.binds hb, fnG F S ?_ ?_⟩
  · rintro vs H Q E ⟨B, ds, _, h, r⟩
    rcases r with ⟨d, r, _⟩ | ⟨C, i, v, r, _⟩
    · exact h.len.trans (hl ds d r)
    · exact h.len.trans (hl2 ds C i r)
  intro cdv A outer s H vs Q E gu hr ⟨B, ds, sx, hd, r⟩
  obtain ⟨t, ht, h1, h2⟩ := body f cdv A outer s H E gu hr (takes_of rfl rfl rfl rfl)
  refine ⟨t, ht, ?_⟩
  have sd := sd_start (N := N) hd
  rcases r with ⟨d, r, q⟩ | ⟨C, i, v, r, hv, q⟩
  · rcases h1 ds d r with h | ⟨rfl, ρ', h⟩
    · exact h _ B H _ sx sd q
    · exact h _ B H _ sx sd fun σ' B' H' l _ => q _ B' H' l .non
  · have hi : i < vs.length := (List.getElem?_eq_some_iff.mp hv).1
    refine h2 ds C i r _ B H _ sx sd v ?_ q
    unfold L2.start
    rw [List.getElem?_append_left (by rw [List.length_map]; exact hi), List.getElem?_map, hv]
    rfl
end
section
variable {X : Cx} {CX : CXT} {k : Nat} {f : Addr} {fd : FuncData} {ps : List Str} {sp : Sp} {x : Str} {p pos pos2 : Pos} {e : Expr} {es : List Expr} {t ta : TA} {E : L2.St → XK} {C : Addr} {W : WX}
theorem runGS {pins : List (Addr × Obj)} {σ : L2.St} {H : Hp} {s : Shared} {Q : VK} {us : List Value} {vs : List V} {Ex' : XK}
    (F : FnG X.prog X.w X.K X.mg X.base CX k f fd ps sp) (hg : X.A.guards = some []) (hr : Room k X.A)
    (hb : Binds X.K fd ps []) (hx : PassesAt CX X σ Ex') (I : Inv X pins σ H s) (r : Vals vs us) (h : sp vs H Q Ex') :
    wpAny (model X.prog X.w) X.A (call (.ref f) us) (EP X pins σ Q) X.xe s := by
  have b := hb s us I.kIn (by rw [List.append_nil, ← r.length]; exact F.ln _ _ _ _ h)
  rw [List.append_nil] at b
  refine wpAny_call (codeAny_mono (F.go X.A X.stack s H _ us vs Q Ex' hg hr I.env0 b r h) ?_)
  intro rs s2 hq
  match rs, hq with
  | .error e, hq => exact hx pins H s e s2 I hq
  | .ok (.ret u), hq => exact I.after hq
  | .ok .next, hq => exact hq.elim
  | .ok .brk, hq => exact hq.elim
  | .ok .cont, hq => exact hq.elim
/-- f(a, ..), where f may raise -/
theorem pe_fx (c : Fx X.prog X.w X.K X.mg X.base x ps k sp) (gu : X.A.guards = some []) (hr : Room k X.A) (hg : Gl X x) (hx : ∀ σ, PassesAt (L2.CX X.prog X.w) X σ (E σ)) (ha : PA X (e :: es) t)
    (d1 : (x == ("__debug__" : Str)) = false := by decide)
    (d2 : starEach (e :: es) X.env = (false, eval e X.env) :: starEach es X.env := by rfl)
    (d3 : (backTo pos (starEach es X.env)).any (·.1) = false := by rfl) :
    PE X (.Call (.Name x p) (e :: es) [] pos) (tCallS sp E t) := by
  obtain ⟨f, fd, hm, kp, hb, F⟩ := c
  refine ⟨fun pins s σ H Q I h => wpAny_Call_Name_kw (ld_glob I hg hm ?_ d1)⟩
  refine PySem.W.callWith_K (h₀ := X.base) I.ok.mod.kin kp (thn (ha.run pos pins s σ H _ I h) ?_) d2 d3
  intro us s1 ⟨vs, H1, I1, r, q⟩
  exact ⟨I1.kIn, runGS F gu hr hb (hx σ) I1 r q⟩
/-- the wish may be had from a stronger one -/
theorem pa_mono (h : PA X es t) : PA X es (fun σ H Q => ∃ P, t σ H P ∧ ∀ vs H', P vs H' → Q vs H') :=
  ⟨fun ps pins s σ H Q I ⟨P, h1, h2⟩ => wpAny_mono (h.run ps pins s σ H P I h1) (fun us s1 ⟨vs, H1, I1, r, q⟩ => ⟨vs, H1, I1, r, h2 _ _ q⟩) fun _ _ z => z⟩
theorem xd_upd {H1 : Hp} {a d : Addr} {v : V} {o o2 o3 : HO} (ha : H1 a = none) (hd : d ≠ a) : upd (L2.del (upd (upd (upd H1 a o) d o2) a o3) a) d (xdV v) = upd H1 d (xdV v) := by
  funext b
  by_cases e : b = d
  · rw [e, upd_same, upd_same]
  · rw [upd_ne e, upd_ne e]
    by_cases e2 : b = a
    · rw [e2, L2.del_same, ha]
    · rw [L2.del_ne e2, upd_ne e2, upd_ne e, upd_ne e2]
theorem ps_rz (c : Mke X.prog X.w X.K X.mg X.base x C) (hc : X.calm = true) (tk : Takes X W) (hr : Room 2 X.A) (hg : Gl X x) (ha : PA X [e] ta)
    (d1 : (x == ("__debug__" : Str)) = false := by decide) (d2 : starEach [e] X.env = (false, eval e X.env) :: starEach [] X.env := by rfl) (d3 : (backTo pos (starEach [] X.env)).any (·.1) = false := by rfl) :
    PS X (.Raise (some (.Call (.Name x p) [e] [] pos)) none pos2) (tRz C ta W) := by
  obtain ⟨fI, fd, hm, T, F, b⟩ := c
  have hb : Binds X.K fd ["self", "value"] [] := fun s us hK hl => by
    rw [List.append_nil] at hl
    match us, hl with
    | [z, u], _ => exact b.b1 s z u hK
  have m := pmk_oex (p := p) (ds := []) (dvs := []) T.o T.ini T.tI F hr hb .nil pass0 hg hm (pa_mono ha) d1 d2 d3
  refine ⟨fun pins s σ H D I h => (ps_raise (W := W) (pos := pos2) hc tk m).run pins s σ H D I ?_⟩
  refine ⟨_, h, fun vs H1 ⟨v, ev, q⟩ => ⟨by subst ev; exact (by decide : 1 ≤ 1000), fun a hn => ?_⟩⟩
  subst ev
  refine ⟨a, C, v, rfl, T.o, T.no, upd_same, fun dx hdx ne => ?_⟩
  rw [upd_ne ne] at hdx
  have z := q dx hdx
  rw [← xd_upd (o := exo a C none) (o2 := exd dx [(("value" : Str), v)]) (o3 := exo a C (some dx)) hn ne] at z
  refine ⟨rfl, dx, [(("value" : Str), v)], upd_same, ?_, hdx, z⟩
  rw [upd_ne ne, upd_same]
end
end TD

set_option maxHeartbeats 4000000
/-! # X3: a call of a def out of a list of defs -/
namespace TD
open PySem PySem.Spec PyProof.Rows L2
open Evl (Ex)
/-- f may be called at X, and keeps sp -/
def Callee (X : Cx) (f : Addr) (sp : Sp) : Prop := ∃ (fd : FuncData) (ps : List Str) (k : Nat), PySem.W.keepIn X.K (.ref f) = true ∧ Binds X.K fd ps [] ∧ Room k X.A ∧ FnG X.prog X.w X.K X.mg X.base (L2.CX X.prog X.w) k f fd ps sp
def tCallF (CP : Addr → Sp → Prop) (tf : TE) (E : L2.St → XK) (t : TA) : TE := fun σ H Q => tf σ H fun v H1 => ∃ f sp, v = .ref f ∧ CP f sp ∧ t σ H1 fun vs H2 => sp vs H2 Q (E σ)
section
variable {X : Cx} {fn e : Expr} {es : List Expr} {pos : Pos} {tf : TE} {t : TA} {E : L2.St → XK}
theorem pe_callF (gu : X.A.guards = some []) (hx : ∀ σ, PassesAt (L2.CX X.prog X.w) X σ (E σ)) (hf : PE X fn tf) (ha : PA X (e :: es) t)
    (d0 : eval (.Call fn (e :: es) [] pos) X.env = (do
      let f ← eval fn X.env
      callWith pos f [] (backTo pos (starEach (e :: es) X.env)) (backToKw pos (keywordEach [] X.env))) := by rfl)
    (d2 : starEach (e :: es) X.env = (false, eval e X.env) :: starEach es X.env := by rfl)
    (d3 : (backTo pos (starEach es X.env)).any (·.1) = false := by rfl) :
    PE X (.Call fn (e :: es) [] pos) (tCallF (Callee X) tf E t) := by
  refine ⟨fun pins s σ H Q I h => ?_⟩
  rw [d0]
  refine wpAny_bind (thn (hf.run pins s σ H _ I h) fun u s1 ⟨v, H1, I1, r1, f, sp, ev, ⟨fd, ps, k, kp, hb, hr, F⟩, q⟩ => ?_)
  subst ev
  cases (show u = Value.ref f from r1)
  refine PySem.W.callWith_K (h₀ := X.base) I1.ok.mod.kin kp (thn (ha.run pos pins s1 σ H1 _ I1 q) ?_) d2 d3
  intro us s2 ⟨vs, H2, I2, r, q2⟩
  exact ⟨I2.kIn, runGS F gu hr hb (hx σ) I2 r q2⟩
end
/-! ### readings -/
/-- what is told is the def at f -/
def EF (K : Fg) (te : TE) (ρ : En) (f : Addr) : Prop := ∀ σ B H, Ex B H → SD K B σ ρ → ∀ Q : VK, (∀ B' H', Le B H B' H' → Q (.ref f) H') → te σ H Q
def EVs (ta : TA) (vs : List V) : Prop := ∀ σ H (Q : List V → Hp → Prop), Q vs H → ta σ H Q
theorem evs_nil : EVs tNil [] := fun _ _ _ q => q
theorem evs_cons {v : V} {tr : TA} {vs : List V} (h : EVs tr vs) : EVs (tCons (tC v) tr) (v :: vs) := fun σ H Q q => h σ H _ q
section
variable {K : Fg} {ρ : En} {ta tb : TA} {te tf : TE} {E : XK} {i : Nat} {fs : List Addr} {f : Addr}
theorem ef_ix (ha : EVs ta (fs.map V.ref)) (hi : ED K te ρ (.int (i : Int))) (hf : fs[i]? = some f) (hz : fs.length ≤ 1000) : EF K (tOp (rIxL K) (tLst ta) te) ρ f := fun σ B H s sd Q q =>
  ha σ H _ ⟨by rw [List.length_map]; exact Evl.sz_of (by omega), fun p hp => by
    have l : Le B H B (upd H p (.lst (fs.map V.ref))) := ⟨Ex.new hp, Ex.refl B, s.trans (Ex.new hp), fun _ h _ => h⟩
    refine hi σ B _ l.sub sd _ fun v B1 H1 l1 d1 => ?_
    cases d1
    refine ⟨p, fs.map V.ref, (i : Int), .ref f, rfl, rfl, SqL.of (l1.ex _ _ upd_same), atI_nat (j := i) (by rw [List.getElem?_map, hf]; rfl), q B1 H1 (l.tr l1)⟩⟩
/-- the promise of a def that is given a number and a list of arguments, and raises: RX tells the class and which item stands in the field -/
def SpL (K : Fg) (RX : Int → List PyData → Addr → Nat → Prop) : Sp := fun vs H Q E => ∃ B n l xs as C j v, Ex B H ∧ vs = [.int n, .ref l] ∧ B l = some (.lst xs) ∧ Das K B xs as ∧ RX n as C j ∧ xs[j]? = some v ∧
  ∀ x B' H', Le B H B' H' → H' x = some (xdV v) → E (.ref C) (some x) H'
/-- the first items of the list in slot i, as arguments -/
def EAt (K : Fg) (ta : TA) (i n : Nat) : Prop := ∀ (σ : L2.St) (H : Hp) (l : Addr) (xs : List V), σ[i]? = some (some (.ref l)) → H l = some (.lst xs) → n ≤ xs.length → ∀ Q : List V → Hp → Prop, Q (xs.take n) H → ta σ H Q
theorem at_ix {i m : Nat} {σ : L2.St} {H : Hp} {l : Addr} {xs : List V} (hs : σ[i]? = some (some (.ref l))) (hl : H l = some (.lst xs)) {v : V} (hv : xs[m]? = some v) {Q : VK} (q : Q v H) : tOp (rIxL K) (tVar i) (tC (.int (m : Int))) σ H Q :=
  ⟨.ref l, hs, l, xs, (m : Int), v, rfl, rfl, SqL.of hl, atI_nat (j := m) hv, q⟩
theorem eat1 : EAt K (tCons (tOp (rIxL K) (tVar i) (tC (.int 0))) tNil) i 1 := fun σ H l xs hs hl hn Q q => by
  match xs, hn with
  | a :: r, _ => exact at_ix (m := 0) hs hl rfl q
theorem eat2 : EAt K (tCons (tOp (rIxL K) (tVar i) (tC (.int 0))) (tCons (tOp (rIxL K) (tVar i) (tC (.int 1))) tNil)) i 2 := fun σ H l xs hs hl hn Q q => by
  match xs, hn with
  | a :: b :: r, _ => exact at_ix (m := 0) hs hl rfl (at_ix (m := 1) hs hl rfl q)
  | [_], h => exact absurd h (by simp)
theorem eat3 : EAt K (tCons (tOp (rIxL K) (tVar i) (tC (.int 0))) (tCons (tOp (rIxL K) (tVar i) (tC (.int 1))) (tCons (tOp (rIxL K) (tVar i) (tC (.int 2))) tNil))) i 3 := fun σ H l xs hs hl hn Q q => by
  match xs, hn with
  | a :: b :: c :: r, _ => exact at_ix (m := 0) hs hl rfl (at_ix (m := 1) hs hl rfl (at_ix (m := 2) hs hl rfl q))
  | [_], h => exact absurd h (by simp)
  | [_, _], h => exact absurd h (by simp)
/-- return fs[i](args[0], ..), which raises -/
theorem xl_call {CP : Addr → Sp → Prop} {R : List PyData → PyData → Prop} {RX : List PyData → Addr → Nat → Prop} {D : Ends} {σ : L2.St} {B H : Hp} {l : Addr} {xs : List V} {as : List PyData} {C : Addr} {j n : Nat} {v : V}
    (hf : EF K tf ρ f) (c : CP f (SpX K R RX)) (ha : EAt K ta i n) (s : Ex B H) (sd : SD K B σ ρ) (hs : σ[i]? = some (some (.ref l))) (hl : B l = some (.lst xs)) (hd : Das K B xs as) (hn : (as.take n).length = n) (hj : j < n) (hR : RX (as.take n) C j) (hv : xs[j]? = some v)
    (q : ∀ x B' H', Le B H B' H' → H' x = some (xdV v) → E (.ref C) (some x) H') : tRet (tCallF CP tf (WE fun c d _ H => E c d H) ta) D σ H :=
  hf σ B H s sd _ fun B1 H1 l1 => ⟨f, _, rfl, c, by
    have hx := hd.len
    rw [List.length_take] at hn
    refine ha σ H1 l xs hs (l1.sub _ _ (l1.ek _ _ hl)) (by omega) _ ?_
    exact ⟨B1, as.take n, l1.sub, (hd.ex l1.ek).take n, .inr ⟨C, j, v, hR, by rw [List.getElem?_take_of_lt hj]; exact hv, fun x B2 H2 l2 => q x B2 H2 (l1.tr l2)⟩⟩⟩
end
end TD

set_option maxHeartbeats 4000000
/-! # X4: bodies that hand the items of a list on to a def that raises -/
namespace TD
open PySem PySem.Spec PyProof.Rows L2
open Evl (Ex)
def XA (K : Fg) (E : XK) (t : TS) (ρ : En) (li : Nat) (as : List PyData) (C : Addr) (j : Nat) : Prop := ∀ σ B H D, Ex B H → SD K B σ ρ → ∀ l xs v, σ[li]? = some (some (.ref l)) → B l = some (.lst xs) → Das K B xs as → xs[j]? = some v →
  (∀ x B' H', Le B H B' H' → H' x = some (xdV v) → E (.ref C) (some x) H') → t D σ H
section
variable {K : Fg} {E : XK} {t u : TS} {ρ : En} {C f : Addr} {j i n : Nat} {as : List PyData} {tt : TT} {tf : TE} {ta : TA} {CP : Addr → Sp → Prop} {R : List PyData → PyData → Prop} {RX : List PyData → Addr → Nat → Prop}
theorem xa_ret (hf : EF K tf ρ f) (c : CP f (SpX K R RX)) (ha : EAt K ta i n) (hn : (as.take n).length = n ∧ j < n) (hR : RX (as.take n) C j) : XA K E (tRet (tCallF CP tf (WE fun c d _ H => E c d H) ta)) ρ i as C j :=
  fun σ B H D s sd l xs v hs hl hd hv q => xl_call hf c ha s sd hs hl hd hn.1 hn.2 hR hv q
theorem xa_in (h : ET K tt ρ true) (h1 : XA K E t ρ i as C j) : XA K E (tSeq (tIfS tt t tNext) u) ρ i as C j := fun σ B H D s sd l xs v hs hl hd hv q =>
  h σ B H s sd _ fun B1 H1 l1 => by
    show t _ σ H1
    exact h1 σ B1 H1 _ l1.sub (sd.up l1.ek) l xs v hs (l1.ek _ _ hl) (hd.ex l1.ek) hv fun x B2 H2 l2 => q x B2 H2 (l1.tr l2)
theorem xa_by (h : ET K tt ρ false) (h1 : XA K E u ρ i as C j) : XA K E (tSeq (tIfS tt t tNext) u) ρ i as C j := fun σ B H D s sd l xs v hs hl hd hv q =>
  h σ B H s sd _ fun B1 H1 l1 => by
    show u D σ H1
    exact h1 σ B1 H1 D l1.sub (sd.up l1.ek) l xs v hs (l1.ek _ _ hl) (hd.ex l1.ek) hv fun x B2 H2 l2 => q x B2 H2 (l1.tr l2)
theorem Fx.callee {X : Cx} {x : Str} {ps : List Str} {k : Nat} {sp : Sp} {a : Addr} (c : Fx X.prog X.w X.K X.mg X.base x ps k sp) (hr : Room k X.A) (hm : X.mg x = some (.ref a)) : Callee X a sp := by
  obtain ⟨f, fd, hm', kp, hb, F⟩ := c
  rw [hm] at hm'
  cases hm'
  exact ⟨fd, ps, k, kp, hb, hr, F⟩
theorem Fx.up {P : Program} {w : World} {K : Fg} {mg : Str → Option Value} {base : Heap} {x : Str} {ps : List Str} {k m : Nat} {sp : Sp} (c : Fx P w K mg base x ps k sp) (h : k ≤ m) : Fx P w K mg base x ps m sp := by
  obtain ⟨f, fd, hm, kp, hb, F⟩ := c
  exact ⟨f, fd, hm, kp, hb, F.up h⟩
theorem Fx.at {P : Program} {w : World} {mg : Str → Option Value} {base : Heap} {x : Str} {ps : List Str} {k : Nat} {sp : Sp} (c : Fx P w K mg base x ps k sp) : ∃ a, mg x = some (.ref a) := let ⟨f, _, hm, _⟩ := c; ⟨f, hm⟩
end
end TD

set_option maxHeartbeats 4000000
/-! # X5: a caught exception: asked for its class and its field; readings beside such a slot -/
namespace TD
open PySem PySem.Spec PyProof.Rows L2
open Evl (Ex)
/-- at a: a caught exception of the class at C, v in its field -/
def Cau (H : Hp) (a C : Addr) (v : V) : Prop := ∃ x, H a = some (exk a C x) ∧ H x = some (xdV v)
theorem Cau.ex {H H' : Hp} {a C : Addr} {v : V} (e : Ex H H') (h : Cau H a C v) : Cau H' a C v := let ⟨x, h1, h2⟩ := h; ⟨x, e _ _ h1, e _ _ h2⟩
def rIsK (K : Fg) : List V → Hp → VK → Prop := fun xs H Q => ∃ (a C : Addr) (v c : V) (cv : Value) (b : Bool), xs = [.ref a, c] ∧ Cau H a C v ∧ ExcC K C ∧ ClsV c cv ∧ PySem.W.kitOne K (.ref C) cv = some b ∧ Q (.bl b) H
def tValK (K : Fg) (te : TE) : TE := fun σ H Q => te σ H fun x H1 => ∃ a C v, x = .ref a ∧ Cau H1 a C v ∧ ExcC K C ∧ PySem.W.findIn K (.ref C) "value" = some none ∧ Q v H1
section
variable {X : Cx} {pins : List (Addr × Obj)} {σ : L2.St} {H : Hp} {s : Shared}
theorem cau_at (I : Inv X pins σ H s) {a C : Addr} {v : V} (h : Cau H a C v) : ∃ ox od z, PySem.W.InstAt s.heap a ox C (some od) ∧ PySem.W.lookIn ("value" : Str) od = some (some z) ∧ RelV v z := by
  obtain ⟨x, h1, h2⟩ := h
  obtain ⟨ob, fl, e1, e2, e3, e4⟩ := exk_at I.hok h1
  have q : ObjOk X.prog X.w H s.heap x (xdV v) := I.hok x _ h2
  obtain ⟨mA, hn, hr⟩ := q
  obtain ⟨od, ho, hl⟩ := lookIn_ns hn
  have l : List.lookup ("value" : Str) [(("value" : Str), v)] = some v := by simp [List.lookup]
  obtain ⟨z, hz, rz⟩ := RelO.some_of (v := v) (o := mA "value") (by rw [← l]; exact hr "value")
  exact ⟨ob, od, z, ⟨e1, e2, by unfold PySem.W.notCls; rw [e4] <;> rfl, by rw [e3]; exact ho⟩, by rw [hl, hz], rz⟩
theorem call_isK : CallR X (.builtin "isinstance") (rIsK X.K) := by
  intro pins s σ H xs us Q I r h
  obtain ⟨a, C, v, c, cv, b, rfl, hx, T, k, e, q⟩ := h
  obtain ⟨u1, u2, rfl, r1, r2⟩ := vals2 r
  have e2 := k.eq r2
  subst e2
  cases (show u1 = Value.ref a from r1)
  obtain ⟨ox, od, _, J, _⟩ := cau_at I hx
  exact PySem.W.kia_one (PySem.W.kitx_exc (ox := ox) (od := some od) (cls_some T.hd) T.hg T.hk T.hs T.ha T.hn T.ht T.hm) I.kIn J e (fun z => nomatch z) fun tk => ⟨.bl b, H, I.tok tk, rfl, q⟩
theorem pe_valueK {e : Expr} {te : TE} {pos : Pos} (he : PE X e te) (hb : attributeBase e "value" X.env (eval e X.env) = eval e X.env := by rfl) : PE X (.Attribute e "value" pos) (tValK X.K te) := by
  refine ⟨fun pins s σ H Q I h => attr_of hb (thn (he.run pins s σ H _ I h) ?_)⟩
  intro u s1 ⟨x, H1, I1, rx, a, C, v, ex, hc, T, no, q⟩
  subst ex
  cases (show u = Value.ref a from rx)
  obtain ⟨ox, od, z, J, hz, rz⟩ := cau_at I1 hc
  exact HandSPX.exc_get I1.kIn J T.hg T.hk T.hs (PySem.W.findObj_own T.hd no rfl hz) (handed_of rz) ⟨v, H1, I1.tok _, rz, q⟩
end
/-! ### readings where something else is known of the slots and the heap, and stays so -/
structure Stab (J : L2.St → Hp → Prop) : Prop where
  ex : ∀ σ H H', Ex H H' → J σ H → J σ H'
def EDJ (K : Fg) (J : L2.St → Hp → Prop) (te : TE) (ρ : En) (d : PyData) : Prop := ∀ σ B H, Ex B H → SD K B σ ρ → J σ H → ∀ Q : VK, (∀ v B' H', Le B H B' H' → Da K B' v d → Q v H') → te σ H Q
def EAJ (K : Fg) (J : L2.St → Hp → Prop) (ta : TA) (ρ : En) (ds : List PyData) : Prop := ∀ σ B H, Ex B H → SD K B σ ρ → J σ H → ∀ Q : List V → Hp → Prop, (∀ vs B' H', Le B H B' H' → Das K B' vs ds → Q vs H') → ta σ H Q
def ETJ (K : Fg) (J : L2.St → Hp → Prop) (tt : TT) (ρ : En) (b : Bool) : Prop := ∀ σ B H, Ex B H → SD K B σ ρ → J σ H → ∀ Q : Bool → Hp → Prop, (∀ B' H', Le B H B' H' → Q b H') → tt σ H Q
section
variable {K : Fg} {J : L2.St → Hp → Prop} {ta tr : TA} {te ta1 tb1 : TE} {tt tu : TT} {ρ : En} {d x y z : PyData} {ds : List PyData} {a b : Bool} {r : R2}
theorem edj_of (h : ED K te ρ d) : EDJ K J te ρ d := fun σ B H s sd _ => h σ B H s sd
theorem etj_of (h : ET K tt ρ b) : ETJ K J tt ρ b := fun σ B H s sd _ => h σ B H s sd
theorem eaj_nil : EAJ K J tNil ρ [] := fun σ B H s sd _ => ea_nil σ B H s sd
theorem eaj_cons (S : Stab J) (h : EDJ K J te ρ x) (hr : EAJ K J tr ρ ds) : EAJ K J (tCons te tr) ρ (x :: ds) := fun σ B H s sd j Q q =>
  h σ B H s sd j _ fun v B1 H1 l1 d1 => hr σ B1 H1 l1.sub (sd.up l1.ek) (S.ex _ _ _ l1.ex j) _ fun vs B2 H2 l2 d2 => q (v :: vs) B2 H2 (l1.tr l2) (.cons (d1.ex l2.ek) d2)
theorem edj_lst (h : EAJ K J ta ρ ds) (hl : ds.length ≤ 100000 := by first | exact Nat.le_of_ble_eq_true rfl | omega) : EDJ K J (tLst ta) ρ (.list ds) := fun σ B H s sd j Q q =>
  h σ B H s sd j _ fun vs B1 H1 l1 d1 => ⟨das_big d1 hl, fun p hp => q _ _ _ (l1.tr (Le.new l1.sub hp)) (.lst upd_same (d1.ex (Le.new (o := .lst vs) l1.sub hp).ek))⟩
theorem edj_op (S : Stab J) (h1 : EDJ K J ta1 ρ x) (h2 : EDJ K J tb1 ρ y) (hr : R2D K r x y z) : EDJ K J (tOp r ta1 tb1) ρ z := fun σ B H s sd j Q q =>
  h1 σ B H s sd j _ fun v B1 H1 l1 d1 => h2 σ B1 H1 l1.sub (sd.up l1.ek) (S.ex _ _ _ l1.ex j) _ fun u B2 H2 l2 d2 => hr v u B2 H2 l2.sub (d1.ex l2.ek) d2 Q fun t B3 H3 l3 d3 => q t B3 H3 ((l1.tr l2).tr l3) d3
theorem edj_cb {rc : List V → Hp → VK → Prop} (h : EAJ K J ta ρ ds) (hr : RcD K rc ds z) : EDJ K J (tCB rc ta) ρ z := fun σ B H s sd j Q q =>
  h σ B H s sd j _ fun vs B1 H1 l1 d1 => hr vs B1 H1 l1.sub d1 Q fun u B2 H2 l2 d2 => q u B2 H2 (l1.tr l2) d2
theorem edj_and (S : Stab J) (h1 : EDJ K J ta1 ρ (.bool a)) (h2 : a = true → EDJ K J tb1 ρ (.bool b)) : EDJ K J (tAndV ta1 tb1) ρ (.bool (a && b)) := fun σ B H s sd j Q q =>
  h1 σ B H s sd j _ fun v B1 H1 l1 d1 => by
    cases d1
    refine ⟨a, rfl, ?_⟩
    cases a with
    | true =>
      show tb1 σ H1 Q
      exact h2 rfl σ B1 H1 l1.sub (sd.up l1.ek) (S.ex _ _ _ l1.ex j) Q fun u B2 H2 l2 d2 => q u B2 H2 (l1.tr l2) d2
    | false =>
      show Q (.bl false) H1
      exact q _ B1 H1 l1 (.bl false)
theorem etj_test (h : EDJ K J te ρ (.bool b)) : ETJ K J (tTest te) ρ b := fun σ B H s sd j Q q => h σ B H s sd j _ fun v B1 H1 l1 d1 => by
  cases d1
  exact ⟨b, rfl, q B1 H1 l1⟩
theorem etj_B (h : EDJ K J te ρ (.bool b)) : ETJ K J (tB te) ρ b := fun σ B H s sd j Q q => h σ B H s sd j _ fun v B1 H1 l1 d1 => by
  cases d1
  exact ⟨b, rfl, q B1 H1 l1⟩
theorem etj_not (h : ETJ K J tt ρ a) : ETJ K J (tNot tt) ρ (!a) := fun σ B H s sd j Q q => h σ B H s sd j _ fun B1 H1 l1 => q B1 H1 l1
theorem etj_or (S : Stab J) (h1 : ETJ K J tt ρ false) (h2 : ETJ K J tu ρ b) : ETJ K J (tOr tt tu) ρ b := fun σ B H s sd j Q q => h1 σ B H s sd j _ fun B1 H1 l1 => by
  show tu σ H1 Q
  exact h2 σ B1 H1 l1.sub (sd.up l1.ek) (S.ex _ _ _ l1.ex j) Q fun B2 H2 l2 => q B2 H2 (l1.tr l2)
end
/-- the slot i holds a caught exception -/
def JC (i : Nat) (a C : Addr) (v : V) : L2.St → Hp → Prop := fun σ H => σ[i]? = some (some (.ref a)) ∧ Cau H a C v
theorem jc_stab {i : Nat} {a C : Addr} {v : V} : Stab (JC i a C v) := ⟨fun _ _ _ e h => ⟨h.1, h.2.ex e⟩⟩
section
variable {K : Fg} {ρ : En} {i : Nat} {a C : Addr} {v : V} {d : PyData} {b : Bool} {c : V} {cv : Value}
theorem edj_isK (T : ExcC K C) (hc : ClsV c cv) (e : PySem.W.kitOne K (.ref C) cv = some b) : EDJ K (JC i a C v) (tCB (rIsK K) (tCons (tVar i) (tCons (tC c) tNil))) ρ (.bool b) := fun σ B H s sd j Q q =>
  ⟨.ref a, j.1, a, C, v, c, cv, b, rfl, j.2, T, hc, e, q _ B H (Le.rfl' s) (.bl b)⟩
theorem edj_none : EDJ K (JC i a C v) (tOp (fun x y H Q => y = .non ∧ Q (.bl (decide (x = .non))) H) (tVar i) (tC .non)) ρ (.bool false) := fun σ B H s sd j Q q =>
  ⟨.ref a, j.1, rfl, q _ B H (Le.rfl' s) (.bl false)⟩
end
/-! ### the first of two statements -/
section
variable {D : Ends} {σ : L2.St} {H : Hp} {t t1 t2 u : TS} {te : TE} {ta : TA} {tt : TT} {i j l : Nat}
theorem q_any (h : t { D with nx := t2 D } σ H) : tSeq t t2 D σ H := h
theorem q_par3 (h : ta σ H fun vs H1 => ∃ u v w, vs = [u, v, w] ∧ t2 D (((σ.set i (some u)).set j (some v)).set l (some w)) H1) : tSeq (tPar3 i j l ta) t2 D σ H := h
theorem q_par (h : ta σ H fun vs H1 => ∃ u v, vs = [u, v] ∧ t2 D ((σ.set i (some u)).set j (some v)) H1) : tSeq (tPar i j ta) t2 D σ H := h
theorem q_asg (h : te σ H fun v H1 => t2 D (σ.set i (some v)) H1) : tSeq (tAsg te (gName i)) t2 D σ H := h
theorem q_drop (h : te σ H fun _ H1 => t2 D σ H1) : tSeq (tDrop te) t2 D σ H := h
theorem q_if (h : tt σ H fun b H1 => if b = true then t { D with nx := t2 D } σ H1 else u { D with nx := t2 D } σ H1) : tSeq (tIfS tt t u) t2 D σ H := h
theorem q_retA {tb : TE} (h : te σ H fun x H1 => ∃ c, x = .bl c ∧ if c = true then tb σ H1 D.rt else D.rt (.bl false) H1) : tRet (tAndV te tb) D σ H := h
theorem q_ifS (h : tt σ H fun b H1 => if b = true then t D σ H1 else u D σ H1) : tIfS tt t u D σ H := h
theorem q_ret (h : te σ H fun v H1 => D.rt v H1) : tRet te D σ H := h
end
/-! ### a loop over zip that leaves a slot as it is -/
section
variable {K : Fg} {s i0 i1 : Nat} {ta : TA} {tb : TS} {ds es : List PyData}
theorem xi_forZ (ρs : Nat → En) (h : EA K ta (ρs 0) [.list ds, .list es]) (hl : ds.length = es.length) (h0 : i0 ≠ s) (h1 : i1 ≠ s)
    (hs : ∀ (i : Nat) (d e : PyData), ds[i]? = some d → es[i]? = some e → ∃ ρ', XSi K s tb (((ρs i).set i0 (some d)).set i1 (some e)) ρ' ∧ (ρs (i + 1)).length = ρ'.length ∧ ∀ (j : Nat) (x : PyData), (ρs (i + 1))[j]? = some (some x) → ρ'[j]? = some (some x)) :
    XSi K s (tFor (iZip K ta) (gTup K 2 (gCons (gName i0) (gCons (gName i1) gNil))) tb) (ρs 0) (ρs ds.length) := fun σ B H D sx sd q =>
  h σ B H sx sd _ fun vs B1 H1 l1 d1 => by
    obtain ⟨v1, r1, rfl, a1, t1⟩ := d1.inv1
    obtain ⟨v2, r2, rfl, a2, t2⟩ := t1.inv1
    cases t2
    cases a1 with
    | @lst p xs _ e1 b1 =>
      cases a2 with
      | @lst p2 ys _ e2 b2 =>
        refine ⟨p, p2, xs, ys, rfl, SqL.of (l1.sub _ _ e1), SqL.of (l1.sub _ _ e2), ?_⟩
        refine RZ.for_zipL (K := K) (xs := xs) (ys := ys) (by rw [b1.len, b2.len, hl]) (fun i σ' H' => ∃ B', Le B H B' H' ∧ Ex B1 B' ∧ SD K B' σ' (ρs i) ∧ σ'[s]? = σ[s]?) ⟨B1, l1, Ex.refl B1, sd.up l1.ek, rfl⟩ ?_ ?_ ?_
        · rintro i σ' H' ⟨B', l, k, _⟩
          exact ⟨SqL.of (l.sub _ _ (k _ _ e1)), SqL.of (l.sub _ _ (k _ _ e2))⟩
        · rintro i x y T σ' H' hx hy ⟨B', l, k, sd', e⟩ hT
          obtain ⟨d, hd, dx⟩ := b1.get hx
          obtain ⟨e', he, dy⟩ := b2.get hy
          obtain ⟨ρ', w1, w2, w3⟩ := hs i d e' hd he
          refine g_pair upd_same ?_
          have lT : Le B' H' B' (upd H' T (.tup [x, y])) := ⟨Ex.new hT, Ex.refl B', l.sub.trans (Ex.new hT), fun _ h _ => h⟩
          refine w1 _ B' _ _ lT.sub ((sd'.put i0 (dx.ex k)).put i1 (dy.ex k)) fun σ2 B2 H2 l2 s2 e2 => ?_
          refine ⟨B2, (l.tr lT).tr l2, k.trans l2.ek, s2.less w2 w3, ?_⟩
          rw [e2, List.getElem?_set_ne h1, List.getElem?_set_ne h0]
          exact e
        · rintro σ' H' ⟨B', l, k, sd', e⟩
          rw [b1.len] at sd'
          exact q σ' B' H' l sd' e
end
end TD

set_option maxHeartbeats 4000000
/-! # X6: a list in one slot that only True is put to; all else is data -/
namespace TD
open PySem PySem.Spec PyProof.Rows L2
open Evl (Ex)
def DueAt (i n : Nat) (σ : L2.St) (B H : Hp) : Prop := ∃ p acc, σ[i]? = some (some (.ref p)) ∧ H p = some (.lst acc) ∧ B p = none ∧ acc.length ≤ n ∧ ∀ v ∈ acc, v = V.bl true
theorem DueAt.le {i n : Nat} {σ : L2.St} {B H B' H' : Hp} (h : DueAt i n σ B H) (l : Le B H B' H') : DueAt i n σ B' H' := by
  obtain ⟨p, acc, h1, h2, h3, h4⟩ := h
  exact ⟨p, acc, h1, l.ex _ _ h2, l.old p h3 (fun z => by rw [h2] at z; cases z), h4⟩
theorem DueAt.slot {i j n : Nat} {σ : L2.St} {B H : Hp} (h : DueAt i n σ B H) (hj : j ≠ i) (o : Option V) : DueAt i n (σ.set j o) B H := by
  obtain ⟨p, acc, h1, h2⟩ := h
  exact ⟨p, acc, by rw [List.getElem?_set_ne hj]; exact h1, h2⟩
def XD (K : Fg) (i : Nat) (t : TS) (ρ ρ' : En) (n m : Nat) : Prop := ∀ σ B H (D : Ends), Ex B H → SD K B σ ρ → DueAt i n σ B H → (∀ σ' B' H', Ex B B' → Ex B' H' → SD K B' σ' ρ' → DueAt i m σ' B' H' → D.nx σ' H') → t D σ H
def allT (ds : List PyData) : Prop := ∀ d ∈ ds, d = PyData.bool true
theorem das_allT {K : Fg} {B : Hp} : ∀ {vs : List V} {ds : List PyData}, Das K B vs ds → allT ds → ∀ v ∈ vs, v = V.bl true
  | _, _, .nil, _, v, h => nomatch h
  | _, _, .cons a t, h, v, m => by
    rcases List.mem_cons.mp m with z | z
    · have e := h _ (List.mem_cons_self ..)
      subst e
      cases a
      exact z
    · exact das_allT t (fun d hd => h d (List.mem_cons_of_mem _ hd)) v z
theorem allT_picked {ds : List PyData} : allT (picked ds (fun _ => true) fun _ => .bool true) := by
  intro d hd
  unfold picked at hd
  obtain ⟨x, _, e⟩ := List.mem_map.mp hd
  exact e.symm
theorem allT_cons {ds : List PyData} (h : allT ds) : allT (.bool true :: ds) := List.forall_mem_cons.mpr ⟨rfl, h⟩
theorem allT_nil : allT [] := fun _ h => nomatch h
section
variable {K : Fg} {i j n m k : Nat} {t u : TS} {te tl : TE} {ρ ρ' ρ1 : En} {d : PyData} {ds : List PyData}
theorem xd_seq (h1 : XD K i t ρ ρ1 n k) (h2 : XD K i u ρ1 ρ' k m) : XD K i (tSeq t u) ρ ρ' n m := fun σ B H D s sd a q =>
  h1 σ B H _ s sd a fun σ1 B1 H1 e1 s1 sd1 a1 => h2 σ1 B1 H1 D s1 sd1 a1 fun σ2 B2 H2 e2 s2 sd2 a2 => q σ2 B2 H2 (e1.trans e2) s2 sd2 a2
theorem xd_asg (hj : j ≠ i) (h : ED K te ρ d) : XD K i (tAsg te (gName j)) ρ (ρ.set j (some d)) n n := fun σ B H D s sd a q =>
  h σ B H s sd _ fun v B1 H1 l1 d1 => q _ B1 H1 l1.ek l1.sub ((sd.up l1.ek).put j d1) ((a.le l1).slot hj _)
theorem due_set {σ : L2.St} {B H : Hp} {p : Addr} {acc : List V} (hi : i < σ.length) (h : H p = some (.lst acc)) (hb : B p = none) (hn : acc.length ≤ n) (ht : ∀ v ∈ acc, v = V.bl true) : DueAt i n (σ.set i (some (.ref p))) B H :=
  ⟨p, acc, List.getElem?_set_self hi, h, hb, hn, ht⟩
/-- due = due + [..] -/
theorem xd_more (h : ED K te ρ (.list ds)) (ht : allT ds) (hk : ds.length ≤ k) (hz : n + k ≤ 100000) : XD K i (tAsg (tOp rCat (tVar i) te) (gName i)) ρ (ρ.set i none) n (n + k) := fun σ B H D s sd a q => by
  obtain ⟨p, acc, h1, h2, h3, h4, h5⟩ := a
  refine ⟨.ref p, h1, h σ B H s sd _ fun v B1 H1 l1 d1 => ?_⟩
  cases d1 with
  | @lst pb ys _ hb hd =>
    have hl := hd.len
    refine ⟨p, pb, acc, ys, rfl, rfl, l1.ex _ _ h2, l1.sub _ _ hb, Evl.sz_of (by omega), fun p2 hp2 => ?_⟩
    have np : B1 p2 = none := Evl.fresh_back l1.sub hp2
    refine q _ B1 _ l1.ek (l1.sub.trans (Ex.new hp2)) ((sd.up l1.ek).drop i _) (due_set (List.getElem?_eq_some_iff.mp h1).1 upd_same np ?_ ?_)
    · rw [List.length_append]
      omega
    · intro v hv
      rcases List.mem_append.mp hv with z | z
      · exact h5 v z
      · exact das_allT hd ht v z
/-- due.append(..) -/
theorem xd_app (h : ED K te ρ (.bool true)) (hz : n + 1 ≤ 100000) : XD K i (tDrop (tBM K "list" rAppend (tVar i) (tCons te tNil))) ρ ρ n (n + 1) := fun σ B H D s sd a q => by
  obtain ⟨p, acc, h1, h2, h3, h4, h5⟩ := a
  refine ⟨.ref p, h1, .inl ⟨rfl, _, SqL.of h2⟩, h σ B H s sd _ fun v B1 H1 l1 d1 => ?_⟩
  cases d1
  have e := l1.ex _ _ h2
  have nb : B1 p = none := l1.old p h3 (fun z => by rw [h2] at z; cases z)
  refine ⟨p, acc, .bl true, rfl, rfl, e, Evl.sz_lt (by omega), ?_⟩
  refine q _ B1 _ l1.ek (fun b o z => ?_) (sd.up l1.ek) ⟨p, _, h1, upd_same, nb, ?_, ?_⟩
  · rw [upd_ne (ne_of_none z nb)]
    exact l1.sub _ _ z
  · rw [List.length_append, List.length_singleton]
    omega
  · intro v hv
    rcases List.mem_append.mp hv with z | z
    · exact h5 v z
    · exact List.mem_singleton.mp z
theorem xd_less (cs : List Nat) (h : XD K i t ρ ρ1 n m) (e : wipeD ρ1 cs = ρ') : XD K i t ρ ρ' n m := fun σ B H D s sd a q =>
  h σ B H D s sd a fun σ1 B1 H1 e1 s1 sd1 a1 => q σ1 B1 H1 e1 s1 (sd1.less (by rw [← e, wipeD_len]) fun j d hj => wipeD_sub cs (by rw [e]; exact hj)) a1
theorem xd_up {m' : Nat} (h : XD K i t ρ ρ' n m) (e : m ≤ m') : XD K i t ρ ρ' n m' := fun σ B H D s sd a q =>
  h σ B H D s sd a fun σ1 B1 H1 e1 s1 sd1 ⟨p, acc, h1, h2, h3, h4, h5⟩ => q σ1 B1 H1 e1 s1 sd1 ⟨p, acc, h1, h2, h3, Nat.le_trans h4 e, h5⟩
theorem xd_step {D : Ends} {σ : L2.St} {B H : Hp} (h : XD K i t ρ ρ1 n k) (r : ∀ σ B H, Ex B H → SD K B σ ρ1 → DueAt i k σ B H → u D σ H) (s : Ex B H) (sd : SD K B σ ρ) (a : DueAt i n σ B H) : tSeq t u D σ H :=
  h σ B H _ s sd a fun σ1 B1 H1 _ s1 sd1 a1 => r σ1 B1 H1 s1 sd1 a1
/-- the end: all is read as data -/
theorem xd_end {D : Ends} {σ : L2.St} {B H : Hp} (h : ∀ ds, allT ds → ds.length ≤ n → XS K t (ρ.set i (some (.list ds))) (.ret d)) (s : Ex B H) (sd : SD K B σ ρ) (a : DueAt i n σ B H) (q : ∀ v B' H', Da K B' v d → D.rt v H') : t D σ H := by
  obtain ⟨p, acc, h1, h2, h3, h4, h5⟩ := a
  have e : Ex B (upd B p (.lst acc)) := Ex.new h3
  have s2 : Ex (upd B p (.lst acc)) H := fun b o z => by
    by_cases w : b = p
    · subst w
      rw [upd_same] at z
      cases z
      exact h2
    · rw [upd_ne w] at z
      exact s b o z
  have dd : ∀ vs : List V, (∀ v ∈ vs, v = V.bl true) → Das K (upd B p (.lst acc)) vs (vs.map fun _ => PyData.bool true) := by
    intro vs
    induction vs with
    | nil => exact fun _ => .nil
    | cons v vs ih =>
      intro hv
      rw [hv v (List.mem_cons_self ..)]
      exact .cons (.bl true) (ih fun v h => hv v (List.mem_cons_of_mem _ h))
  have da : Da K (upd B p (.lst acc)) (.ref p) (.list (acc.map fun _ => PyData.bool true)) := .lst upd_same (dd acc h5)
  have sd2 : SD K (upd B p (.lst acc)) σ (ρ.set i (some (.list (acc.map fun _ => PyData.bool true)))) := by
    have z := (sd.up e).put i da
    have w : σ.set i (some (.ref p)) = σ := by
      obtain ⟨hi, he⟩ := List.getElem?_eq_some_iff.mp h1
      rw [← he]
      exact List.set_getElem_self hi
    rwa [w] at z
  exact h _ (fun d hd => by
    obtain ⟨_, _, z⟩ := List.mem_map.mp hd
    exact z.symm) (by rw [List.length_map]; exact h4) σ _ H D s2 sd2 fun v B' H' _ hv => q v B' H' hv
/-- for x in xs: .. -/
theorem xd_for (hj : j ≠ i) (h : ED K tl ρ (.list ds)) (hb : ∀ d ∈ ds, ∀ n', n' ≤ n + ds.length * k → XD K i t (ρ.set j (some d)) ρ n' (n' + k)) : XD K i (tFor (iList K tl) (gName j) t) ρ ρ n (n + ds.length * k) := fun σ B H D s sd a q =>
  h σ B H s sd _ fun v B1 H1 l1 d1 => by
    cases d1 with
    | @lst p xs _ hp hd =>
      refine ⟨p, rfl, ⟨xs, SqL.of (l1.sub _ _ hp)⟩, ?_⟩
      have hl := hd.len
      refine for_list (K := K) (a := p) (xs := xs) (fun c σ' H' => ∃ B', Ex B1 B' ∧ Ex B' H' ∧ SD K B' σ' ρ ∧ DueAt i (n + c * k) σ' B' H') ⟨B1, Ex.refl B1, l1.sub, sd.up l1.ek, by rw [Nat.zero_mul]; exact a.le l1⟩
        (fun c σ' H' _ ⟨B', e, s', _⟩ => SqL.of (s' _ _ (e _ _ hp))) (fun c v σ' H' hc ⟨B', e, s', sd', a'⟩ => ?_) (fun σ' H' ⟨B', e, s', sd', a'⟩ => ?_)
      · obtain ⟨d, hd1, hv⟩ := hd.get hc
        have lt : c < ds.length := (List.getElem?_eq_some_iff.mp hd1).1
        have z := hb d (List.mem_of_getElem? hd1) (n + c * k) (by have := Nat.mul_le_mul_right k (Nat.le_of_lt lt); omega)
        refine z (σ'.set j (some v)) B' H' _ s' (sd'.put j (hv.ex e)) (a'.slot hj _) fun σ2 B2 H2 e2 s2 sd2 a2 => ⟨B2, e.trans e2, s2, sd2, ?_⟩
        have w : n + (c + 1) * k = n + c * k + k := by rw [Nat.add_mul]; omega
        rw [w]
        exact a2
      · rw [hl] at a'
        exact q σ' B' H' (l1.ek.trans e) s' sd' a'
end
end TD

set_option maxHeartbeats 4000000
/-! # X7: texts: signs one by one, parts, a loop over them -/
namespace TD
open PySem PySem.Spec PyProof.Rows L2
open Evl (Ex)
def signsD (s : Str) : List PyData := s.cps.toList.map fun c => PyData.str ⟨#[c]⟩
section
variable {K : Fg} {ρ ρ' : En} {te ta tb : TE} {tu : TS} {g : TG} {o : Out} {s s2 : Str} {x y z d : PyData}
theorem xs_forS (h : ED K te ρ (.str s)) (f : XF K g tu (signsD s) ρ o) : XS K (tFor (iStr te) g tu) ρ o := fun σ B H D sx sd m =>
  h σ B H sx sd _ fun v B1 H1 l1 d1 => by
    cases d1
    refine ⟨s, rfl, fun i m' σ' H' => m' = s.cps.size - i ∧ i ≤ s.cps.size ∧ ∃ B' ρ', XF K g tu ((signsD s).drop i) ρ' o ∧ Le B1 H1 B' H' ∧ SD K B' σ' ρ', ⟨s.cps.size, rfl, Nat.zero_le _, B1, ρ, by rw [List.drop_zero]; exact f, Le.rfl' l1.sub, sd.up l1.ek⟩, ?_⟩
    rintro i m' σ' H' ⟨rfl, hi, B', ρ', f', l, s'⟩
    have ln : (signsD s).length = s.cps.size := by
      unfold signsD
      rw [List.length_map, Array.length_toList]
    by_cases hlt : i < s.cps.size
    · refine .inr ⟨hlt, fun σ2 H2 => i + 1 ≤ s.cps.size ∧ ∃ B' ρ', XF K g tu ((signsD s).drop (i + 1)) ρ' o ∧ Le B1 H1 B' H' ∧ SD K B' σ2 ρ' ∧ False ∨ (i + 1 ≤ s.cps.size ∧ ∃ B' ρ', XF K g tu ((signsD s).drop (i + 1)) ρ' o ∧ Le B1 H1 B' H2 ∧ SD K B' σ2 ρ'), ?_, ?_⟩
      · rintro σ2 H2 ⟨_, _, _, ⟨_, _, _, z⟩ | ⟨h1, B2, ρ2, f2, l2, s2⟩⟩
        · exact z.elim
        · exact ⟨s.cps.size - (i + 1), by omega, rfl, h1, B2, ρ2, f2, l2, s2⟩
      · rintro v H2 ⟨rfl, c, hc, rfl⟩
        have he : (signsD s)[i]? = some (.str ⟨#[c]⟩) := by
          unfold signsD
          rw [List.getElem?_map, Array.getElem?_toList, hc]
          rfl
        rw [drop_cons he] at f'
        exact xf_turn (m.back l1) f' l s' (.str _) fun ρ2 σ2 B2 H2 f2 l2 s2 => ⟨hlt, B2, ρ2, .inr ⟨hlt, B2, ρ2, f2, l2, s2⟩⟩
    · have e : i = s.cps.size := by omega
      subst e
      rw [drop_all (by rw [ln]; exact Nat.le_refl _)] at f'
      cases f' with
      | nil => exact .inl ⟨Nat.le_refl _, m σ' B' H' (l1.tr l) s'⟩
theorem r_ixS {i : Int} {c : Nat} (hl : s.length ≤ sizeLine) (hc : atI s.cps.toList i = some c) : R2D K rIxS (.str s) (.int i) (.str ⟨#[c]⟩) := fun v w B H sx h1 h2 Q q => by
  cases h1
  cases h2
  exact ⟨s, i, c, rfl, rfl, hl, hc, q _ B H (Le.rfl' sx) (.str _)⟩
def rNotSign : R2 := fun x y H Q => ∃ (c : Nat) (z : Str), x = .str ⟨#[c]⟩ ∧ y = .str z ∧ Q (.bl (!decide (c ∈ z.cps.toList))) H
theorem r_notSign {c : Nat} : R2D K rNotSign (.str ⟨#[c]⟩) (.str s) (.bool (!decide (c ∈ s.cps.toList))) := fun v w B H sx h1 h2 Q q => by
  cases h1
  cases h2
  exact ⟨c, s, rfl, rfl, q _ B H (Le.rfl' sx) (.bl _)⟩
theorem rc_intS {n : Int} (h : PySem.intText? s = some n) (hl : s.length ≤ 640) : RcD K (fun xs H Q => ∃ a n, xs = [.str a] ∧ PySem.intText? a = some n ∧ a.length ≤ 640 ∧ Q (.int n) H) [.str s] (.int n) := fun vs B H sx hd Q q => by
  obtain ⟨v, r, rfl, a, t⟩ := hd.inv1
  cases a
  cases t
  exact ⟨s, n, rfl, h, hl, q _ B H (Le.rfl' sx) (.int _)⟩
theorem rc_lenS (hl : s.length ≤ sizeLine) : RcD K (fun xs H Q => ∃ z, xs = [.str z] ∧ z.length ≤ sizeLine ∧ Q (.int z.length) H) [.str s] (.int (s.length : Nat)) := fun vs B H sx hd Q q => by
  obtain ⟨v, r, rfl, a, t⟩ := hd.inv1
  cases a
  cases t
  exact ⟨s, rfl, hl, q _ B H (Le.rfl' sx) (.int _)⟩
theorem ed_part (h1 : ED K ta ρ (.str s)) (h2 : ED K tb ρ (.str s2)) (hn : (s2.length == 0) = false) (hl : s.length ≤ sizeLine) :
    ED K (tM1 (fun x xs H Q => ∃ a b, x = .str a ∧ xs = [.str b] ∧ (b.length == 0) = false ∧ a.length ≤ sizeLine ∧ ∀ p, H p = none → Q (.ref p) (upd H p (.tup [.str (Txt.partition a b).1, .str (Txt.partition a b).2.1, .str (Txt.partition a b).2.2]))) ta tb) ρ
      (.tuple [.str (Txt.partition s s2).1, .str (Txt.partition s s2).2.1, .str (Txt.partition s s2).2.2]) := fun σ B H sx sd Q q =>
  h1 σ B H sx sd _ fun v B1 H1 l1 d1 => by
    cases d1
    refine ⟨⟨s, rfl⟩, h2 σ B1 H1 l1.sub (sd.up l1.ek) _ fun w B2 H2 l2 d2 => ?_⟩
    cases d2
    exact ⟨s, s2, rfl, rfl, hn, hl, fun p hp => q _ _ _ ((l1.tr l2).tr (Le.new l2.sub hp)) (.tup upd_same (.cons (.str _) (.cons (.str _) (.cons (.str _) .nil))))⟩
theorem das_strs {B : Hp} : ∀ ys : List Str, Das K B (ys.map V.str) (ys.map PyData.str)
  | [] => .nil
  | y :: ys => .cons (.str y) (das_strs ys)
theorem ed_split (h1 : ED K ta ρ (.str s)) (h2 : ED K tb ρ (.str s2)) (hn : (s2.length == 0) = false) (hl : s.length + 2 ≤ sizeLine) :
    ED K (tM1 (fun x xs H Q => ∃ a b, x = .str a ∧ xs = [.str b] ∧ (b.length == 0) = false ∧ a.length + 2 ≤ sizeLine ∧ rNewStrs (Txt.split a b) H Q) ta tb) ρ (.list ((Txt.split s s2).map PyData.str)) := fun σ B H sx sd Q q =>
  h1 σ B H sx sd _ fun v B1 H1 l1 d1 => by
    cases d1
    refine ⟨⟨s, rfl⟩, h2 σ B1 H1 l1.sub (sd.up l1.ek) _ fun w B2 H2 l2 d2 => ?_⟩
    cases d2
    exact ⟨s, s2, rfl, rfl, hn, hl, fun p hp => q _ _ _ ((l1.tr l2).tr (Le.new l2.sub hp)) (.lst upd_same (das_strs _))⟩
theorem ed_count (h1 : ED K ta ρ (.str s)) (h2 : ED K tb ρ (.str s2)) :
    ED K (tM1 (fun x xs H Q => ∃ a b, x = .str a ∧ xs = [.str b] ∧ Q (.int (Txt.count a b)) H) ta tb) ρ (.int (Txt.count s s2)) := fun σ B H sx sd Q q =>
  h1 σ B H sx sd _ fun v B1 H1 l1 d1 => by
    cases d1
    refine ⟨⟨s, rfl⟩, h2 σ B1 H1 l1.sub (sd.up l1.ek) _ fun w B2 H2 l2 d2 => ?_⟩
    cases d2
    exact ⟨s, s2, rfl, rfl, q _ B2 H2 (l1.tr l2) (.int _)⟩
/-- a, b, c = a tuple of three -/
theorem xi_asg3 {i j1 j2 j3 : Nat} (h : ED K te ρ (.tuple [x, y, z])) (n1 : j1 ≠ i) (n2 : j2 ≠ i) (n3 : j3 ≠ i) :
    XSi K i (tAsg te (gTup K 3 (gCons (gName j1) (gCons (gName j2) (gCons (gName j3) gNil))))) ρ (((ρ.set j1 (some x)).set j2 (some y)).set j3 (some z)) := fun σ B H D sx sd q =>
  h σ B H sx sd _ fun v B1 H1 l1 d1 => by
    cases d1 with
    | @tup p xs _ hp hx =>
      obtain ⟨v1, r1, rfl, a1, t1⟩ := hx.inv1
      obtain ⟨v2, r2, rfl, a2, t2⟩ := t1.inv1
      obtain ⟨v3, r3, rfl, a3, t3⟩ := t2.inv1
      cases t3
      refine ⟨p, _, rfl, Evl.st_of (l1.sub _ _ hp), rfl, _, _, rfl, _, _, rfl, _, _, rfl, rfl, ?_⟩
      refine q _ B1 H1 l1 ((((sd.up l1.ek).put j1 a1).put j2 a2).put j3 a3) ?_
      rw [List.getElem?_set_ne n3, List.getElem?_set_ne n2, List.getElem?_set_ne n1]
end
end TD

set_option maxHeartbeats 4000000
/-! # X8: a def that is given a lambda of no names and two things more, and calls it -/
namespace TD
open PySem PySem.Spec PyProof.Rows L2
open Evl (Ex)
open LamX (CodeO Tabs TabB ExtN LamS lamCx)
section
variable {X : Cx} {pins : List (Addr × Obj)} {σ : L2.St} {H : Hp} {s : Shared}
/-- what the lambda at f is -/
abbrev lamO (X : Cx) (par : Arguments) (bd : Expr) (sco : Scope) (pm : Value) (cc : Addr) (tv : Value) : Obj := PySem.W.kla_obj "<lambda>" (X.env.qual ++ "<lambda>") par bd sco (cloFrom X.env.cells sco.names []) pm cc tv
/-- the call of what slot i holds, in the def that was entered at s: it is a lambda that X made -/
theorem pe_thunk {Ng : List Str} {qg a : Str} {sg sco : Scope} {g f cc : Addr} {cdg pm tv : Value} {par : Arguments} {bd : Expr} {k i : Nat} {pn : List (Addr × Obj)} {xe : Value → Shared → Prop} {W : WX} {E : XK} {tb : TE} {p1 p2 : Pos}
    (I : Inv X pins σ H s) (L : LamS X.env.scope sco) (ho : s.heap.get? f = some (lamO X par bd sco pm cc tv)) (hn : H f = none) (hs : f ∉ frs X.stack)
    (hbi : bindArgs (PySem.W.kla_fn "<lambda>" (X.env.qual ++ "<lambda>") par bd sco (cloFrom X.env.cells sco.names []) pm (.ref cc) tv) ⟨[], []⟩ = pure [])
    (tk : Takes ((cxOf CX0 X.prog X.w X.K X.mg X.base Ng qg sg g cdg X.A X.stack s H E0).tr pn xe) W) (rm : Room (k + 1) (X.A.deeper (envOfC qg sg s.heap.objs.size g cdg))) (gu : X.A.guards = some [])
    (hb : ∀ (A : Around) (outer : List Env) (s2 : Shared) (H2 : Hp), A.guards = some [] → Room k (A.deeper (LamX.lamEnv X sco s2.heap.objs.size f cc)) → PE (lamCx X A outer s2 H2 E sco f cc) bd tb)
    (hN : Ng[i]? = some a) (hv : Vis sg a) (z1 : (a == ("__debug__" : Str)) = false := by decide) (z2 : (a == ("__classdict__" : Str)) = false := by decide) :
    PE ((cxOf CX0 X.prog X.w X.K X.mg X.base Ng qg sg g cdg X.A X.stack s H E0).tr pn xe) (.Call (.Name a p1) [] [] p2)
      (fun τ J Q => τ[i]? = some (some (.ref f)) ∧ J cc = some (CodeO cc (X.env.qual ++ "<lambda>")) ∧ (∀ c d J', E c d J' → W c d τ J') ∧ tb σ J Q) := by
  constructor
  rintro qs t τ J Q IT ⟨w1, w2, hW, w3⟩
  have name := (pe_var (pos := p1) (i := i) hN hv z1 z2).run qs t τ J (fun v J1 => v = .ref f ∧ J1 = J) IT ⟨.ref f, w1, rfl, rfl⟩
  refine wpAny_Call_Name_kw (wpAny_mono name ?_ fun _ _ z => z)
  rintro u t1 ⟨v, J1, I1, r1, rfl, rfl⟩
  cases r1
  have of1 := I1.base.keep f _ ho hn hs (List.not_mem_nil)
  refine PySem.W.callWith_F0 ⟨_, _, _, _, of1⟩ (wpAny_call ?_)
  have ch : Un (frs X.stack) [] H J1 s.heap t1.heap := I1.base
  have hco := (I1.hok cc _ w2).1
  obtain ⟨oc, vs, tk1, c1, c2, c3⟩ := hco
  refine codeAny_mono (PySem.W.kla_callFunE (R := CR (L2.CX X.prog X.w) (envOfC qg sg s.heap.objs.size g cdg :: X.stack) X.prog X.w J1 t1 Q E) rm.depth of1 rfl L.co L.gen rfl ⟨cc, oc, vs, tk1, rfl, c1, c2, c3⟩ ?_) ?_
  · rw [List.append_nil, hbi]
    refine wpAny_pure (wpAny_newFunctionEnv (fun y hy => (L.own y hy).2) (fun y hy => nomatch hy) (fun h1 ns sb => ⟨I1.nolimit.fresh _ sb, ?_⟩) L.kind)
    have kp : ∀ b o, t1.heap.get? b = some o → h1.get? b = some o := fun b o e => sb.extBut b o (Nat.ne_of_lt (Heap.lt_size e)) (Heap.get?_push_of_some _ e)
    have JI := LamX.lam_start2 (A := X.A.deeper (envOfC qg sg s.heap.objs.size g cdg)) (outer := envOfC qg sg s.heap.objs.size g cdg :: X.stack) (E := E) (f := f) (c' := cc) (tk := t1.toks + ([] : List (Str × Value)).length) I L I1.env0 rm.hd ch ns kp
    have go := (hb (X.A.deeper (envOfC qg sg s.heap.objs.size g cdg)) (envOfC qg sg s.heap.objs.size g cdg :: X.stack) t1 J1 gu (rm.deeper _)).run [] _ σ J1 Q JI w3
    refine PySem.W.kla_codeExpr (wpAny_mono go ?_ fun _ _ z => z)
    rintro v t2 ⟨x, J2, I2, r2, q2⟩
    exact ⟨x, J2, I2.os, I2.bare, I2.base, I2.hok, r2, q2⟩
  · rintro r t2 q2
    match r, q2 with
    | .error e, q2 => exact tk e t2 (XE.of_call I1 (fun c d J' h => hW c d J' h) q2)
    | .ok (.ret u), q2 => exact I1.after q2
    | .ok .next, q2 => exact q2.elim
    | .ok .brk, q2 => exact q2.elim
    | .ok .cont, q2 => exact q2.elim
/-- what the def makes of a lambda: TT tells it -/
def Gives (X : Cx) (Ng : List Str) (x : Str) (st : Stmt) (k : Nat) (a : Str) (TT : (XK → Hp → VK → Prop) → List V → Hp → VK → Prop) : Prop :=
  ∀ (g : Addr) (cdg : Value) (f cc : Addr) (s : Shared) (H : Hp) (Q : VK) (tl : XK → Hp → VK → Prop) (vs : List V), X.A.guards = some [] → Room k (X.A.deeper (envOfC x (defScope st) s.heap.objs.size g cdg)) →
    (∀ (W : WX) (pn : List (Addr × Obj)) (xe : Value → Shared → Prop) (E : XK) (p1 p2 : Pos), Takes ((cxOf CX0 X.prog X.w X.K X.mg X.base Ng x (defScope st) g cdg X.A X.stack s H E0).nox.tr pn xe) W →
      PE ((cxOf CX0 X.prog X.w X.K X.mg X.base Ng x (defScope st) g cdg X.A X.stack s H E0).nox.tr pn xe) (.Call (.Name a p1) [] [] p2) (fun τ J Q => τ[0]? = some (some (.ref f)) ∧ J cc = some (CodeO cc (X.env.qual ++ "<lambda>")) ∧ (∀ c d J', E c d J' → W c d τ J') ∧ tl E J Q)) →
    H cc = some (CodeO cc (X.env.qual ++ "<lambda>")) → TT tl vs H Q →
    ∃ t, PSs (cxOf CX0 X.prog X.w X.K X.mg X.base Ng x (defScope st) g cdg X.A X.stack s H E0).nox (defBody st) t ∧ t { nx := fun _ H' => Q .non H', rt := Q } (L2.start Ng (.ref f :: vs)) H
def tLam3 (T : List (Addr × Str)) (q : Str) (TT : (XK → Hp → VK → Prop) → List V → Hp → VK → Prop) (ta : TA) (tb : XK → TE) : TE := fun σ H Q => Tabs T H ∧
  ∀ (cc : Addr) (H1 : Hp), ExtN H H1 → Tabs T H1 → H1 cc = some (CodeO cc q) → ta σ H1 fun vs H2 => vs.length = 2 ∧ H2 cc = some (CodeO cc q) ∧ TT (fun E H' Q' => tb E σ H' Q') vs H2 Q
/-- x(lambda: bd, e2, e3) -/
theorem pe_lam3 {T : List (Addr × Str)} {TT : (XK → Hp → VK → Prop) → List V → Hp → VK → Prop} {x a b c : Str} {st : Stmt} {P cd : Addr} {k : Nat} {Ng : List Str} {par : Arguments} {bd e2 e3 : Expr} {sco : Scope} {ta : TA} {tb : XK → TE} {p lp pos : Pos}
    (at_ : At X.K X.mg x st) (S : FnScope Ng [a, b, c] (defScope st)) (hN : Ng[0]? = some a)
    (hbi : ∀ (kV doc pm : Value) (an : Option Addr) (cdv ct : Value) (us : List Value), us.length = [a, b, c].length → bindArgs (PySem.W.fnOf x x (defArgs st) (defBody st) (defScope st) .none kV doc pm an cdv ct) ⟨us, []⟩ = pure ([a, b, c].zip us))
    (hG : Gives X Ng x st (k + 1) a TT) (hg : Gl X x) (gu : X.A.guards = some []) (rm : Room (k + 2) X.A) (hst : X.stack = X.env :: X.outer) (hfr : X.env.frame = some X.env.locals)
    (TB : TabB X.base X.mg cd P) (hcd : X.env.code = .ref cd) (hT1 : (P, X.env.qual ++ "<lambda>") ∈ T) (hT2 : ∀ p ∈ T, p.1 = P → p.2 = X.env.qual ++ "<lambda>") (L : LamS X.env.scope sco) (hdf : defaultsOf par X.env = ([], []))
    (hbl : ∀ (q : Str) (cl : List (Str × Addr)) (pm cv tv : Value), bindArgs (PySem.W.kla_fn "<lambda>" q par bd sco cl pm cv tv) ⟨[], []⟩ = pure [])
    (hb : ∀ (A : Around) (outer : List Env) (s2 : Shared) (H2 : Hp) (E : XK) (f cc : Addr), A.guards = some [] → Room k (A.deeper (LamX.lamEnv X sco s2.heap.objs.size f cc)) → PE (lamCx X A outer s2 H2 E sco f cc) bd (tb E))
    (ha : PA X [e2, e3] ta) (z : (x == ("__debug__" : Str)) = false := by decide) (z1 : (a == ("__debug__" : Str)) = false := by decide) (z2 : (a == ("__classdict__" : Str)) = false := by decide)
    (d2 : starEach (.Lambda par bd sco lp :: [e2, e3]) X.env = (false, eval (.Lambda par bd sco lp) X.env) :: starEach [e2, e3] X.env := by rfl)
    (d3 : (backTo pos (starEach [e2, e3] X.env)).any (·.1) = false := by rfl) :
    PE X (.Call (.Name x p) (.Lambda par bd sco lp :: [e2, e3]) [] pos) (tLam3 T (X.env.qual ++ "<lambda>") TT ta tb) := by
  obtain ⟨g, fd, F, hm⟩ := at_
  have kp := F.kp
  have bn := F.binds hbi
  obtain ⟨oc, od, kV, doc, pm, an, cdv, ct, osl, rfl, lk, hcg⟩ := F.ex
  constructor
  rintro pins s σ H Q I ⟨hT, h⟩
  refine wpAny_Call_Name_kw (ld_glob I hg hm ?_ z)
  refine PySem.W.callWith_K (h₀ := X.base) I.ok.mod.kin kp ?_ d2 d3
  refine Calls.spliced_cons (LamX.lam_make2 I TB hcd hT1 hT2 hT hdf (L.has I.ok) ?_)
  intro f cc pm2 tv H1 s1 I1 eN T1 hf hfn hfs hco
  have nL : f ≠ X.env.locals := fun e => hfs (by rw [hst]; exact List.mem_filterMap.mpr ⟨X.env, List.mem_cons_self, by rw [hfr, e]⟩)
  have nF : f ∉ X.fs := fun hm2 => by
    obtain ⟨e, he, q⟩ := List.mem_filterMap.mp hm2
    exact hfs (by rw [hst]; exact List.mem_filterMap.mpr ⟨e, List.mem_cons_of_mem _ he, q⟩)
  have pinA : ∀ p ∈ X.pn ++ (f, lamO X par bd sco pm2 cc tv) :: pins, s1.heap.get? p.1 = some p.2 ∧ H1 p.1 = none ∧ p.1 ≠ X.env.locals ∧ p.1 ∉ X.fs ∧ ∀ v, p.2.data ≠ .cell v := by
    intro p hp
    rcases List.mem_append.mp hp with w | w
    · exact I1.pin p (List.mem_append_left _ w)
    rcases List.mem_cons.mp w with e | w
    · rw [e]
      exact ⟨hf, hfn, nL, nF, fun v e => nomatch e⟩
    · exact I1.pin p (List.mem_append_right _ w)
  have IP : Inv X ((f, lamO X par bd sco pm2 cc tv) :: pins) σ H1 s1 := { I1 with pin := pinA }
  refine thn (ha.run pos _ s1 σ H1 _ IP (h cc H1 eN T1 hco)) ?_
  rintro us s2 ⟨vs, H2, I2, r, hl, hc2, q⟩
  have pinB : ∀ p ∈ X.pn ++ pins, s2.heap.get? p.1 = some p.2 ∧ H2 p.1 = none ∧ p.1 ≠ X.env.locals ∧ p.1 ∉ X.fs ∧ ∀ v, p.2.data ≠ .cell v := by
    intro p hp
    rcases List.mem_append.mp hp with w | w
    · exact I2.pin p (List.mem_append_left _ w)
    · exact I2.pin p (List.mem_append_right _ (List.mem_cons_of_mem _ w))
  have J2 : Inv X pins σ H2 s2 := { I2 with pin := pinB }
  obtain ⟨f1, f2, _⟩ := I2.pin (f, lamO X par bd sco pm2 cc tv) (List.mem_append_right _ List.mem_cons_self)
  refine ⟨J2.kIn, wpAny_call ?_⟩
  have ul : (.ref f :: us : List Value).length = [a, b, c].length := by
    have := r.length
    simp only [List.length_cons, List.length_nil]
    omega
  have bb := bn s2 (.ref f :: us) J2.kIn (by rw [List.append_nil]; exact ul)
  rw [List.append_nil] at bb
  have run := LamX.run_ofS (CX := CX0) (E := E0) (Q := Q) (N := Ng) (ps := [a, b, c]) (us := .ref f :: us) (vs := .ref f :: vs) lk hcg S rm J2.env0 bb (.cons rfl r) (by simp only [List.length_cons, List.length_nil]; omega) (fun rm2 => by
    obtain ⟨t, ht, hq⟩ := hG g cdv f cc s2 H2 Q (fun E H' Q' => tb E σ H' Q') vs gu rm2 (fun W pn xe E p1 p2 tk => pe_thunk (i := 0) J2 L f1 f2 hfs (hbl _ _ _ _ _) tk rm2 gu (fun A outer s H g2 r2 => hb A outer s H E f cc g2 r2) hN ((S.par a (List.mem_cons_self ..)).elim (fun e => .inl e) (fun e => .inr (.inl e))) z1 z2) hc2 q
    exact ⟨t, ht.nox, hq⟩)
  refine codeAny_mono run ?_
  rintro r2 s3 q3
  match r2, q3 with
  | .error e, q3 => exact (show False from q3).elim
  | .ok (.ret u), q3 => exact J2.after q3
  | .ok .next, q3 => exact q3.elim
  | .ok .brk, q3 => exact q3.elim
  | .ok .cont, q3 => exact q3.elim
/-- the call as a statement; what is wished of what it raises may hang on the slots -/
def tAct (f cc : Addr) (q : Str) (tl : XK → Hp → VK → Prop) (W : WX) : TS := fun D τ J => ∃ E : XK, τ[0]? = some (some (.ref f)) ∧ J cc = some (CodeO cc q) ∧ (∀ c d J', E c d J' → W c d τ J') ∧ tl E J fun _ J' => D.nx τ J'
theorem ps_act {f cc : Addr} {q : Str} {tl : XK → Hp → VK → Prop} {W : WX} {e : Expr} {pos : Pos} (h : ∀ E : XK, PE X e (fun τ J Q => τ[0]? = some (some (.ref f)) ∧ J cc = some (CodeO cc q) ∧ (∀ c d J', E c d J' → W c d τ J') ∧ tl E J Q)) (hsw : swapsWith e none pos.line X.env = pure false := by rfl) : PS X (.Expr e pos) (tAct f cc q tl W) :=
  ⟨fun pins s σ H D I ⟨E, h1, h2, h3, h4⟩ => (ps_expr (h E) hsw).run pins s σ H D I ⟨h1, h2, h3, h4⟩⟩
end
end TD

set_option maxHeartbeats 4000000
/-! # X9: a list that only True is put to, while tables of code objects grow -/
namespace TD
open PySem PySem.Spec PyProof.Rows L2
open Evl (Ex)
open LamX (CodeO Tabs TabS TabB ExtN)
/-- without the tables -/
def noT (B : Hp) : Hp := fun b => match B b with
  | some (.tbl _) => none
  | o => o
def NT (B : Hp) : Prop := ∀ b ps, B b ≠ some (.tbl ps)
theorem noT_some {B : Hp} {b : Addr} {o : HO} (h : B b = some o) (n : ∀ ps, o ≠ .tbl ps) : noT B b = some o := by
  unfold noT
  rw [h]
  cases o with
  | tbl ps => exact (n ps rfl).elim
  | _ => rfl
theorem noT_of {B : Hp} {b : Addr} {o : HO} (h : noT B b = some o) : B b = some o := by
  unfold noT at h
  cases e : B b with
  | none => rw [e] at h; exact h
  | some u =>
    rw [e] at h
    cases u with
    | tbl ps => exact nomatch (show (none : Option HO) = some o from h)
    | _ => exact h
theorem noT_none {B : Hp} {b : Addr} (h : B b = none) : noT B b = none := by
  unfold noT
  rw [h]
theorem noT_nt (B : Hp) : NT (noT B) := fun b ps h => by
  have e := noT_of h
  unfold noT at h
  rw [e] at h
  exact nomatch (show (none : Option HO) = some (.tbl ps) from h)
theorem NT.to {B B1 : Hp} (h : NT B) (e : Ex B B1) : Ex B (noT B1) := fun b o z => noT_some (e b o z) fun ps w => h b ps (by rw [z, w])
theorem noT_sub {B H : Hp} (e : Ex B H) : Ex (noT B) H := fun b o z => e b o (noT_of z)
mutual
theorem Da.noT {K : Fg} {B : Hp} : ∀ {v : V} {d : PyData}, Da K B v d → Da K (TD.noT B) v d
  | _, _, .non => .non
  | _, _, .bl b => .bl b
  | _, _, .int i => .int i
  | _, _, .str x => .str x
  | _, _, .lst h t => .lst (noT_some h fun _ z => nomatch z) (Das.noT t)
  | _, _, .tup h t => .tup (noT_some h fun _ z => nomatch z) (Das.noT t)
  | _, _, .dic h t => .dic (noT_some h fun _ z => nomatch z) (Das.noT t)
theorem Das.noT {K : Fg} {B : Hp} : ∀ {vs : List V} {ds : List PyData}, Das K B vs ds → Das K (TD.noT B) vs ds
  | _, _, .nil => .nil
  | _, _, .cons a t => .cons (Da.noT a) (Das.noT t)
end
theorem SD.noT {K : Fg} {B : Hp} {σ : L2.St} {ρ : En} (s : SD K B σ ρ) : SD K (TD.noT B) σ ρ := ⟨s.1, fun i d h => let ⟨v, a, b⟩ := s.2 i d h; ⟨v, a, b.noT⟩⟩
theorem tabs_setL {T : List (Addr × Str)} {H : Hp} {p : Addr} {xs ys : List V} (t : Tabs T H) (h : H p = some (.lst xs)) : Tabs T (upd H p (.lst ys)) := fun r hr => by
  obtain ⟨ps, h1, h2, h3⟩ := t r hr
  refine ⟨ps, ?_, h2, fun pos cv hc => ?_⟩
  · rw [upd_ne (fun z => by rw [z, h] at h1; cases h1)]
    exact h1
  · obtain ⟨c, e1, e2⟩ := h3 pos cv hc
    refine ⟨c, e1, ?_⟩
    rw [upd_ne (fun z => by rw [z, h] at e2; unfold CodeO at e2; cases e2)]
    exact e2
structure TQ (T : List (Addr × Str)) (i n : Nat) (σ : L2.St) (B H : Hp) : Prop where
  nt : NT B
  due : DueAt i n σ B H
  tab : Tabs T H
def XT (K : Fg) (T : List (Addr × Str)) (J : L2.St → Prop) (i : Nat) (t : TS) (ρ ρ' : En) (n m : Nat) : Prop := ∀ σ B H (D : Ends), J σ → Ex B H → SD K B σ ρ → TQ T i n σ B H →
  (∀ σ' B' H', J σ' → Ex B B' → Ex B' H' → SD K B' σ' ρ' → TQ T i m σ' B' H' → D.nx σ' H') → t D σ H
theorem TQ.le {T : List (Addr × Str)} {i n : Nat} {σ : L2.St} {B H B1 H1 : Hp} (a : TQ T i n σ B H) (l : Le B H B1 H1) : TQ T i n σ (noT B1) H1 := by
  refine ⟨noT_nt B1, ?_, a.tab.ext l.ex⟩
  obtain ⟨p, acc, h1, h2, h3, h4⟩ := a.due.le l
  exact ⟨p, acc, h1, h2, noT_none h3, h4⟩
theorem TQ.slot {T : List (Addr × Str)} {i j n : Nat} {σ : L2.St} {B H : Hp} (a : TQ T i n σ B H) (hj : j ≠ i) (o : Option V) : TQ T i n (σ.set j o) B H := ⟨a.nt, a.due.slot hj o, a.tab⟩
/-- what a lambda's call and its two companions come to: RX tells the class -/
def TTr (K : Fg) (R : Str → PyData → Addr → Prop) : (XK → Hp → VK → Prop) → List V → Hp → VK → Prop := fun tl vs H Q => ∃ B nm v v' fld C, vs = [.str nm, v] ∧ Ex B H ∧ Da K B v fld ∧ Da K B v' fld ∧ R nm fld C ∧
  (∀ (E : XK) B1 H1 Q', Le B H B1 H1 → (∀ x B2 H2, Le B1 H1 B2 H2 → H2 x = some (xdV v') → E (.ref C) (some x) H2) → tl E H1 Q') ∧ ∀ B' H', Le B H B' H' → Q (.bl true) H'
def LamR (K : Fg) (J : L2.St → Prop) (ρ : En) (ta : TA) (tb : XK → TE) (nm : Str) (fld : PyData) (C : Addr) : Prop := ∀ σ B, J σ → SD K B σ ρ → ∃ v v', Da K B v fld ∧ Da K B v' fld ∧
  (∀ H (Q : List V → Hp → Prop), Q [.str nm, v] H → ta σ H Q) ∧ ∀ (E : XK) B1 H1 Q', Ex B B1 → Ex B1 H1 → (∀ x B2 H2, Le B1 H1 B2 H2 → H2 x = some (xdV v') → E (.ref C) (some x) H2) → tb E σ H1 Q'
section
variable {K : Fg} {T : List (Addr × Str)} {J : L2.St → Prop} {i j n m k : Nat} {t u : TS} {te tl : TE} {ρ ρ' ρ1 : En} {d : PyData} {ds : List PyData} {q : Str} {ta : TA} {tb : XK → TE} {R : Str → PyData → Addr → Prop} {nm : Str} {fld : PyData} {C : Addr}
theorem xt_seq (h1 : XT K T J i t ρ ρ1 n k) (h2 : XT K T J i u ρ1 ρ' k m) : XT K T J i (tSeq t u) ρ ρ' n m := fun σ B H D j s sd a q =>
  h1 σ B H _ j s sd a fun σ1 B1 H1 j1 e1 s1 sd1 a1 => h2 σ1 B1 H1 D j1 s1 sd1 a1 fun σ2 B2 H2 j2 e2 s2 sd2 a2 => q σ2 B2 H2 j2 (e1.trans e2) s2 sd2 a2
theorem xt_asg (hj : j ≠ i) (h : ED K te ρ d) : XT K T (fun _ => True) i (tAsg te (gName j)) ρ (ρ.set j (some d)) n n := fun σ B H D _ s sd a q =>
  h σ B H s sd _ fun v B1 H1 l1 d1 => q _ (noT B1) H1 trivial (a.nt.to l1.ek) (noT_sub l1.sub) ((sd.up l1.ek).put j d1).noT ((a.le l1).slot hj _)
theorem put_due {σ : L2.St} {B H : Hp} {p : Addr} {acc : List V} (h1 : σ[i]? = some (some (.ref p))) (s : Ex B H) (t : Tabs T H) (h2 : H p = some (.lst acc)) (h3 : B p = none) (h4 : acc.length ≤ n) (h5 : ∀ v ∈ acc, v = V.bl true) :
    Ex (noT B) (upd H p (.lst (acc ++ [.bl true]))) ∧ TQ T i (n + 1) σ (noT B) (upd H p (.lst (acc ++ [.bl true]))) := by
  refine ⟨fun b o z => ?_, noT_nt B, ⟨p, _, h1, upd_same, noT_none h3, ?_, ?_⟩, tabs_setL t h2⟩
  · rw [upd_ne (ne_of_none (noT_of z) h3)]
    exact s _ _ (noT_of z)
  · rw [List.length_append, List.length_singleton]
    omega
  · intro v hv
    rcases List.mem_append.mp hv with z | z
    · exact h5 v z
    · exact List.mem_singleton.mp z
/-- due.append(..) -/
theorem xt_app (h : EDJ K (fun σ _ => J σ) te ρ (.bool true)) (hz : n + 1 ≤ 100000) : XT K T J i (tDrop (tBM K "list" rAppend (tVar i) (tCons te tNil))) ρ ρ n (n + 1) := fun σ B H D jj s sd a q => by
  obtain ⟨p, acc, h1, h2, h3, h4, h5⟩ := a.due
  refine ⟨.ref p, h1, .inl ⟨rfl, _, SqL.of h2⟩, h σ B H s sd jj _ fun v B1 H1 l1 d1 => ?_⟩
  cases d1
  have e := l1.ex _ _ h2
  have nb : B1 p = none := l1.old p h3 (fun z => by rw [h2] at z; cases z)
  obtain ⟨w1, w2⟩ := put_due (i := i) h1 l1.sub (a.tab.ext l1.ex) e nb h4 h5
  exact ⟨p, acc, .bl true, rfl, rfl, e, Evl.sz_lt (by omega), q _ _ _ jj (a.nt.to l1.ek) w1 (sd.up l1.ek).noT w2⟩
/-- due.append(refused(lambda: .., ..)) -/
theorem xt_lam (h : LamR K J ρ ta tb nm fld C) (hR : R nm fld C) (hz : n + 1 ≤ 100000) : XT K T J i (tDrop (tBM K "list" rAppend (tVar i) (tCons (tLam3 T q (TTr K R) ta tb) tNil))) ρ ρ n (n + 1) := fun σ B H D jj s sd a q2 => by
  obtain ⟨p, acc, h1, h2, h3, h4, h5⟩ := a.due
  obtain ⟨v, v', dv, dv', hta, htb⟩ := h σ B jj sd
  refine ⟨.ref p, h1, .inl ⟨rfl, _, SqL.of h2⟩, a.tab, fun cc H1 eN T1 hc => ?_⟩
  have sB : Ex B H1 := fun b o e => eN b o (s b o e) fun ps z => a.nt b ps (by rw [e, z])
  have e1 : H1 p = some (.lst acc) := eN _ _ h2 fun ps z => nomatch z
  refine hta H1 _ ⟨rfl, hc, B, nm, v, v', fld, C, rfl, sB, dv, dv', hR, fun E B2 H2 Q' l2 hx => htb E B2 H2 Q' l2.ek l2.sub hx, fun B2 H2 l2 => ?_⟩
  have nb : B2 p = none := l2.old p h3 (fun z => by rw [e1] at z; cases z)
  obtain ⟨w1, w2⟩ := put_due (i := i) h1 l2.sub (T1.ext l2.ex) (l2.ex _ _ e1) nb h4 h5
  exact ⟨p, acc, .bl true, rfl, rfl, l2.ex _ _ e1, Evl.sz_lt (by omega), q2 _ _ _ jj (a.nt.to l2.ek) w1 (sd.up l2.ek).noT w2⟩
theorem xt_less (cs : List Nat) (h : XT K T J i t ρ ρ1 n m) (e : wipeD ρ1 cs = ρ') : XT K T J i t ρ ρ' n m := fun σ B H D j s sd a q =>
  h σ B H D j s sd a fun σ1 B1 H1 j1 e1 s1 sd1 a1 => q σ1 B1 H1 j1 e1 s1 (sd1.less (by rw [← e, wipeD_len]) fun j d hj => wipeD_sub cs (by rw [e]; exact hj)) a1
theorem xt_step {D : Ends} {σ : L2.St} {B H : Hp} (h : XT K T (fun _ => True) i t ρ ρ1 n k) (r : ∀ σ B H, Ex B H → SD K B σ ρ1 → TQ T i k σ B H → u D σ H) (s : Ex B H) (sd : SD K B σ ρ) (a : TQ T i n σ B H) : tSeq t u D σ H :=
  h σ B H _ trivial s sd a fun σ1 B1 H1 _ _ s1 sd1 a1 => r σ1 B1 H1 s1 sd1 a1
/-- for x in xs: .. -/
theorem xt_for (hj : j ≠ i) (h : ED K tl ρ (.list ds)) (hb : ∀ d ∈ ds, ∀ n', n' ≤ n + ds.length * k → XT K T (fun _ => True) i t (ρ.set j (some d)) ρ n' (n' + k)) : XT K T (fun _ => True) i (tFor (iList K tl) (gName j) t) ρ ρ n (n + ds.length * k) := fun σ B H D _ s sd a q =>
  h σ B H s sd _ fun v B1 H1 l1 d1 => by
    cases d1 with
    | @lst p xs _ hp hd =>
      refine ⟨p, rfl, ⟨xs, SqL.of (l1.sub _ _ hp)⟩, ?_⟩
      have hl := hd.len
      refine for_list (K := K) (a := p) (xs := xs) (fun c σ' H' => ∃ B', Ex (noT B1) B' ∧ Ex B' H' ∧ SD K B' σ' ρ ∧ TQ T i (n + c * k) σ' B' H') ⟨noT B1, Ex.refl _, noT_sub l1.sub, (sd.up l1.ek).noT, by rw [Nat.zero_mul]; exact a.le l1⟩
        (fun c σ' H' _ ⟨B', e, s', _⟩ => SqL.of (s' _ _ (e _ _ (noT_some hp fun _ z => nomatch z)))) (fun c v σ' H' hc ⟨B', e, s', sd', a'⟩ => ?_) (fun σ' H' ⟨B', e, s', sd', a'⟩ => ?_)
      · obtain ⟨d, hd1, hv⟩ := hd.noT.get hc
        have lt : c < ds.length := (List.getElem?_eq_some_iff.mp hd1).1
        have z := hb d (List.mem_of_getElem? hd1) (n + c * k) (by have := Nat.mul_le_mul_right k (Nat.le_of_lt lt); omega)
        refine z (σ'.set j (some v)) B' H' _ trivial s' (sd'.put j (hv.ex e)) (a'.slot hj _) fun σ2 B2 H2 _ e2 s2 sd2 a2 => ⟨B2, e.trans e2, s2, sd2, ?_⟩
        have w : n + (c + 1) * k = n + c * k + k := by rw [Nat.add_mul]; omega
        rw [w]
        exact a2
      · rw [hl] at a'
        exact q σ' B' H' trivial ((a.nt.to l1.ek).trans e) s' sd' a'
/-- for x in range(..): .. -/
theorem xt_rng {lo : Int} {c : Nat} {g : TG} {D : Ends} {σ : L2.St} {B H : Hp} (hj : j ≠ i) (hb : ∀ x : Nat, x < c → ∀ n', n' ≤ n + c * k → XT K T (fun _ => True) i t (ρ.set j (some (.int (lo + (x : Int))))) ρ n' (n' + k)) (s : Ex B H) (sd : SD K B σ ρ) (a : TQ T i n σ B H)
    (q : ∀ σ' B' H', Ex B B' → Ex B' H' → SD K B' σ' ρ → TQ T i (n + c * k) σ' B' H' → D.nx σ' H') : ∃ W : Nat → Nat → L2.St → Hp → Prop, (∃ m, W 0 m σ H) ∧ ∀ i m σ H, W i m σ H →
      ((Itr lo c).stop i H ∧ D.nx σ H) ∨ ((Itr lo c).go i H ∧ ∃ N : L2.St → Hp → Prop, (∀ σ' H', N σ' H' → ∃ m', m' < m ∧ W (i + 1) m' σ' H') ∧ ∀ x H', (Itr lo c).yld i H x H' → gName j x σ H' fun σ2 H2 => t { D with nx := N, ct := N, bk := D.nx } σ2 H2) := by
  refine for_range (lo := lo) (n := c) (fun x σ' H' => ∃ B', Ex B B' ∧ Ex B' H' ∧ SD K B' σ' ρ ∧ TQ T i (n + x * k) σ' B' H') ⟨B, Ex.refl B, s, sd, by rw [Nat.zero_mul]; exact a⟩
    (fun x σ' H' hx ⟨B', e, s', sd', a'⟩ => ?_) (fun σ' H' ⟨B', e, s', sd', a'⟩ => q σ' B' H' e s' sd' a')
  have z := hb x hx (n + x * k) (by have := Nat.mul_le_mul_right k (Nat.le_of_lt hx); omega)
  refine z (σ'.set j (some (.int (lo + (x : Int))))) B' H' _ trivial s' (sd'.put j (.int _)) (a'.slot hj _) fun σ2 B2 H2 _ e2 s2 sd2 a2 => ⟨B2, e.trans e2, s2, sd2, ?_⟩
  have w : n + (x + 1) * k = n + x * k + k := by rw [Nat.add_mul]; omega
  rw [w]
  exact a2
theorem xt_forR1 {tl : TA} {c : Nat} (hj : j ≠ i) (h : EA K tl ρ [.int (c : Int)]) (hc : c ≤ 1000) (hb : ∀ x : Nat, x < c → ∀ n', n' ≤ n + c * k → XT K T (fun _ => True) i t (ρ.set j (some (.int (0 + (x : Int))))) ρ n' (n' + k)) : XT K T (fun _ => True) i (tFor (iRng1 tl) (gName j) t) ρ ρ n (n + c * k) := fun σ B H D _ s sd a q =>
  h σ B H s sd _ fun vs B1 H1 l1 d1 => by
    cases d1 with
    | cons h1 h2 =>
      cases h1
      cases h2
      refine ⟨(c : Int), rfl, by omega, by omega, ?_⟩
      exact xt_rng (g := gName j) hj hb (noT_sub l1.sub) (sd.up l1.ek).noT (a.le l1) fun σ' B' H' e => q σ' B' H' trivial ((a.nt.to l1.ek).trans e)
theorem xt_forR2 {tl : TA} {lo c : Nat} (hj : j ≠ i) (h : EA K tl ρ [.int (lo : Int), .int ((lo + c : Nat) : Int)]) (hc : lo + c ≤ 1000) (hb : ∀ x : Nat, x < c → ∀ n', n' ≤ n + c * k → XT K T (fun _ => True) i t (ρ.set j (some (.int ((lo : Int) + (x : Int))))) ρ n' (n' + k)) : XT K T (fun _ => True) i (tFor (iRng2 tl) (gName j) t) ρ ρ n (n + c * k) := fun σ B H D _ s sd a q =>
  h σ B H s sd _ fun vs B1 H1 l1 d1 => by
    cases d1 with
    | cons h1 h2 =>
      cases h1
      cases h2 with
      | cons h2 h3 =>
        cases h2
        cases h3
        refine ⟨(lo : Int), ((lo + c : Nat) : Int), rfl, ⟨by omega, by omega, by omega, by omega⟩, ?_⟩
        have ec : (((lo + c : Nat) : Int) - (lo : Int)).toNat = c := by omega
        show ∃ W, _
        rw [ec]
        exact xt_rng (g := gName j) hj hb (noT_sub l1.sub) (sd.up l1.ek).noT (a.le l1) fun σ' B' H' e => q σ' B' H' trivial ((a.nt.to l1.ek).trans e)
/-- for f in [f1, f2, ..]: .., each a def -/
theorem xt_forF {tf : TA} {fs : List Addr} (hj : j ≠ i) (hji : j < ρ.length) (hn : ρ[j]? = some none) (h : EVs tf (fs.map V.ref)) (hz : fs.length ≤ 100) (hb : ∀ f ∈ fs, ∀ n', n' ≤ n + fs.length * k → XT K T (fun σ => σ[j]? = some (some (.ref f))) i t ρ ρ n' (n' + k)) : XT K T (fun _ => True) i (tFor (iList K (tLst tf)) (gName j) t) ρ ρ n (n + fs.length * k) := fun σ B H D _ s sd a q => by
  refine h σ H _ ⟨by rw [List.length_map]; exact Evl.sz_of (by omega), fun p hp => ?_⟩
  have l1 : Le B H B (upd H p (.lst (fs.map V.ref))) := ⟨Ex.new hp, Ex.refl B, s.trans (Ex.new hp), fun _ h _ => h⟩
  have l2 : Le B H (upd B p (.lst (fs.map V.ref))) (upd H p (.lst (fs.map V.ref))) := Le.new s hp
  have bp : noT (upd B p (.lst (fs.map V.ref))) p = some (.lst (fs.map V.ref)) := noT_some upd_same fun _ z => nomatch z
  refine ⟨p, rfl, ⟨_, SqL.of upd_same⟩, ?_⟩
  refine for_list (K := K) (a := p) (xs := fs.map V.ref) (fun c σ' H' => ∃ B', Ex (noT (upd B p (.lst (fs.map V.ref)))) B' ∧ Ex B' H' ∧ SD K B' σ' ρ ∧ TQ T i (n + c * k) σ' B' H') ⟨_, Ex.refl _, noT_sub l2.sub, (sd.up l2.ek).noT, by rw [Nat.zero_mul]; exact a.le l2⟩
    (fun c σ' H' _ ⟨B', e, s', _⟩ => SqL.of (s' _ _ (e _ _ bp))) (fun c v σ' H' hc ⟨B', e, s', sd', a'⟩ => ?_) (fun σ' H' ⟨B', e, s', sd', a'⟩ => ?_)
  · rw [List.getElem?_map] at hc
    obtain ⟨f, hf, rfl⟩ := Option.map_eq_some_iff.mp hc
    have lt : c < fs.length := (List.getElem?_eq_some_iff.mp hf).1
    have z := hb f (List.mem_of_getElem? hf) (n + c * k) (by have := Nat.mul_le_mul_right k (Nat.le_of_lt lt); omega)
    have hs : σ'.length = ρ.length := sd'.1
    have e0 : ρ.set j none = ρ := by
      obtain ⟨q1, q2⟩ := List.getElem?_eq_some_iff.mp hn
      rw [← q2]
      exact List.set_getElem_self q1
    refine z (σ'.set j (some (.ref f))) B' H' _ (List.getElem?_set_self (by omega)) s' (by have w := sd'.drop j (some (.ref f)); rwa [e0] at w) (a'.slot hj _) fun σ2 B2 H2 _ e2 s2 sd2 a2 => ⟨B2, e.trans e2, s2, sd2, ?_⟩
    have w : n + (c + 1) * k = n + c * k + k := by rw [Nat.add_mul]; omega
    rw [w]
    exact a2
  · rw [List.length_map] at a'
    exact q σ' B' H' trivial ((a.nt.to l2.ek).trans e) s' sd' a'
end
end TD

set_option maxHeartbeats 4000000
/-! # X10: the end of a law row whose defs make lambdas: guards are empty, tables are tracked -/
namespace TD
open PySem PySem.Spec PyProof.Rows L2
open LamX (TabB)
abbrev tab0 : Obj := { cls := .none, data := .fields #[] }
def atT (cs : List (Addr × Addr)) (b : Addr) : Prop := ∃ p ∈ cs, p.2 = b
theorem lawGT {P : Program} {w : World} {K : PySem.W.Frag} {mg mb : Str → Option Value} {CX : CXT} {k : Nat} {fa a : Addr} {fd : FuncData} {x : Str} {sp : Sp} {s1 : Shared} {vs : List Value} {ns : List Int} {cs : List (Addr × Addr)}
    (inK : K.In s1.heap) (hgl : s1.heap.Ns mainGlobals mg) (hbu : s1.heap.Ns builtinsNs mb) (hbb : ∀ x : Str, x ≠ "__name__" → mb x = bootBuiltins x) (lim : s1.heap.NoLimit) (see : s1.heap.NoSeer) (gen : s1.gens = #[])
    (tabs : ∀ p ∈ cs, s1.heap.get? p.2 = some tab0) (tabK : ∀ p ∈ cs, K.lookup p.2 = none) (hds : ∀ p ∈ cs, PySem.W.CodeHd s1.heap p.1 p.2)
    (bmod : ∃ (bm : Addr) (ob : Obj), mg "__builtins__" = some (.ref bm) ∧ bm ≠ builtinsNs ∧ s1.heap.get? bm = some ob ∧ ob.cls = .type "module" ∧ ob.dict = some builtinsNs ∧ ob.data = .plain)
    (at_ : s1.heap.get? a = some { cls := .type "list", data := .seq vs.toArray }) (hints : IntsAre vs ns) (len : ns.length ≤ sizeLine) (room : Room k callerA)
    (F : ∀ base : Heap, K.In base → base.Ns mainGlobals mg → (∃ mm, base.Ns sysModules mm) → (∀ p ∈ cs, TabB base mg p.1 p.2) → FnG P w K mg base CX k fa fd [x] sp) (bind : ∀ (s : Shared) (u : Value), BindsTo s fd ⟨[u], []⟩ [(x, u)])
    (hsp : ∀ H : Hp, (∀ p ∈ cs, H p.2 = some (.tbl #[])) → SqL K H a (ns.map V.int) → sp [.ref a] H (fun v _ => v = .bl true) fun _ _ _ => False)
    (hCX : ∀ H e s', CX [] H s1 (fun _ _ _ => False) e s' → False) :
    codeAny (model P w) callerA (.call (.ref fa) ⟨[.ref a], []⟩) (fun r s' => r = .ok (.ret (.bool true)) ∧ OldK s1.heap s'.heap ∧ s'.os = s1.os ∧ AllBare s'.gens) s1 := by
  have relV := vals_ints hints
  have lenV := hints.length
  have tabA : ∀ {b}, atT cs b → s1.heap.get? b = some tab0 := by
    rintro b ⟨p, hp, rfl⟩
    exact tabs p hp
  have noTA : ¬ atT cs a := fun z => by
    have y := tabA z
    rw [at_] at y
    exact nomatch (show Data.seq vs.toArray _ = Data.fields #[] from congrArg Obj.data (Option.some.inj y))
  have key : ∀ H : Hp, (∀ b, atT cs b → H b = some (.tbl #[])) → (∀ b, ¬ atT cs b → H b = none ∨ (b = a ∧ ∃ ob xs, H b = some (.frz ob (.lst xs)))) → SqL K H a (ns.map V.int) → HOk P w H s1.heap → (H a ≠ none → K.lookup a = none) →
      codeAny (model P w) callerA (.call (.ref fa) ⟨[.ref a], []⟩) (fun r s' => r = .ok (.ret (.bool true)) ∧ OldK s1.heap s'.heap ∧ s'.os = s1.os ∧ AllBare s'.gens) s1 := by
    intro H onT offT hS ok nk
    have one : ∀ b, H b ≠ none → b = a ∨ atT cs b := by
      intro b z
      by_cases y : atT cs b
      · exact .inr y
      · rcases offT b y with u | ⟨u, _⟩
        · exact (z u).elim
        · exact .inl u
    have clear : ∀ {b : Addr} {o : Obj}, s1.heap.get? b = some o → (∀ us n, o.data ≠ .seq us n) → o.data ≠ .fields #[] → H b = none := by
      intro b o e n1 n2
      by_cases z : H b = none
      · exact z
      · rcases one b z with y | y
        · rw [y, at_] at e
          cases e
          exact (n1 _ _ rfl).elim
        · rw [tabA y] at e
          cases e
          exact (n2 rfl).elim
    have ns_ : ∀ {b : Addr} {m : Str → Option Value}, s1.heap.Ns b m → (hidT s1.heap H).Ns b m := by
      intro b m ⟨o, es, ep, e, d, r⟩
      exact ⟨o, es, ep, hidT_get e (clear e (fun us n z => nomatch d.symm.trans z) fun z => nomatch d.symm.trans z), d, r⟩
    have inB : K.In (hidT s1.heap H) := by
      intro b o e
      refine hidT_get (inK b o e) ?_
      by_cases z : H b = none
      · exact z
      · rcases one b z with y | ⟨p, hp, y⟩
        · rw [y] at z e
          rw [nk z] at e
          cases e
        · rw [← y, tabK p hp] at e
          cases e
    obtain ⟨mc, l1, l2⟩ := lim
    have md : Mod K mg (hidT s1.heap H) := ⟨inB, ns_ hgl, ⟨mb, ns_ hbu, hbb⟩, ⟨mc, ns_ l1, l2⟩⟩
    have tb : ∀ p ∈ cs, TabB (hidT s1.heap H) mg p.1 p.2 := by
      intro p hp
      obtain ⟨o, us, f1, f2, f3, f4, f5, f6, f7, e1, y1, y2, y3, y⟩ := hds p hp
      obtain ⟨bm, ob, g1, g2, g3, g4, g5, g6⟩ := bmod
      have nd : ∀ us, us ≠ #[] → o.data = .fields us → H p.1 = none := fun us h1 h2 =>
        clear e1 (fun us n z => nomatch h2.symm.trans z) fun z => h1 (Data.fields.inj (h2.symm.trans z))
      have bmg : bm ≠ mainGlobals := fun z => by
        obtain ⟨o2, es, ep, h1, h2, _⟩ := hgl
        rw [z, h1] at g3
        cases g3
        exact nomatch h2.symm.trans g6
      have bmP : bm ≠ p.2 := fun z => by
        rw [z, tabs p hp] at g3
        cases g3
        exact nomatch g6
      refine ⟨⟨o, us, f1, f2, f3, f4, f5, f6, f7, hidT_get e1 (nd us (fun z => by subst z; simp at y3) y2), y1, y2, y3, y⟩, ⟨bm, ob, g1, g2, bmg, bmP, hidT_get g3 (clear g3 (fun us n z => nomatch g6.symm.trans z) fun z => nomatch g6.symm.trans z), g4, g5, g6⟩, fun z => ?_⟩
      obtain ⟨o2, es, ep, h1, h2, _⟩ := hgl
      rw [z, tabs p hp] at h1
      cases h1
      exact nomatch h2
    have e0 : Env0 P w K mg (hidT s1.heap H) callerA [] s1 H :=
      ⟨rfl, md, fun b o e => of_hidT e, Nat.le_of_eq (hidT_size _ _), trivial, (fun b hb => nomatch (show b ∈ ([] : List Addr) from hb)), ok, .of_eq gen⟩
    obtain ⟨mm, sm, _⟩ := see.mods
    refine codeAny_mono ((F _ inB (ns_ hgl) ⟨mm, ns_ sm⟩ tb).go callerA [] s1 H ⟨[.ref a], []⟩ [.ref a] [.ref a] _ _ rfl room e0 (bind s1 (.ref a)) (.cons rfl .nil) (hsp H (fun p hp => onT p.2 ⟨p, hp, rfl⟩) hS)) ?_
    intro r s2 h
    match r, h with
    | .error e, h => exact (hCX H e s2 h).elim
    | .ok .next, h => exact False.elim h
    | .ok .brk, h => exact False.elim h
    | .ok .cont, h => exact False.elim h
    | .ok (.ret u), ⟨v, H2, os, bare, un, ok2, r2, q⟩ =>
      have qv : v = .bl true := q
      subst qv
      have ru : u = Value.bool true := r2
      subst ru
      have stays : ∀ b o, ¬ atT cs b → s1.heap.get? b = some o → s2.heap.get? b = some o := by
        intro b o nb e
        rcases offT b nb with z | ⟨_, ob, xs, z⟩
        · exact un.keep b o e z (fun y => nomatch (show b ∈ ([] : List Addr) from y)) (fun y => nomatch y)
        · obtain ⟨e1, _⟩ := ok b _ z
          obtain ⟨e2, _⟩ := ok2 b _ (un.frzs b ob _ z)
          rw [e1] at e
          cases e
          exact e2
      have grows : ∀ b, atT cs b → ∃ us : Array Value, s2.heap.get? b = some { cls := .none, data := .fields us } := by
        intro b hb
        obtain ⟨us, z⟩ := un.tbls b #[] (onT b hb)
        exact ⟨_, ok2 b _ z⟩
      refine ⟨rfl, ⟨?_, ?_⟩, os, bare⟩
      · intro b o e
        by_cases nb : atT cs b
        · obtain ⟨us, hu⟩ := grows b nb
          rw [tabA nb] at e
          cases e
          obtain ⟨p, hp, rfl⟩ := nb
          refine Or.inr (Or.inl ⟨((hds p hp).tab (tabs p hp)).isCodeTable, rfl, #[], us, rfl, ?_⟩)
          rw [Array.empty_append]
          exact hu
        · exact Or.inl (stays b o nb e)
      · intro b o e
        by_cases nb : atT cs b
        · obtain ⟨us, hu⟩ := grows b nb
          exact ⟨_, hu⟩
        · exact ⟨o, stays b o nb e⟩
  have dec : ∀ b, Decidable (atT cs b) := fun b => Classical.propDecidable _
  by_cases hk : K.lookup a = none
  · refine key (fun b => if atT cs b then some (.tbl #[]) else if b = a then some (.frz { cls := .type "list", data := .seq vs.toArray } (.lst (ns.map V.int))) else none) (fun b hb => if_pos hb) ?_ (.inl (.inr ⟨_, (if_neg noTA).trans (if_pos rfl)⟩)) ?_ fun _ => hk
    · intro b nb
      by_cases hb : b = a
      · exact Or.inr ⟨hb, _, _, (if_neg nb).trans (if_pos hb)⟩
      · exact Or.inl ((if_neg nb).trans (if_neg hb))
    · intro b u z
      by_cases nb : atT cs b
      · have y := (if_pos nb).symm.trans z
        cases y
        exact tabA nb
      have z2 := (if_neg nb).symm.trans z
      by_cases hb : b = a
      · subst hb
        have y := (if_pos rfl).symm.trans z2
        cases y
        exact ⟨at_, by rw [List.length_map]; exact len, vs, _, relV, at_⟩
      · exact nomatch (if_neg hb).symm.trans z2
  · obtain ⟨o, ho⟩ : ∃ o, K.lookup a = some o := by
      cases z : K.lookup a with
      | none => exact (hk z).elim
      | some o => exact ⟨o, rfl⟩
    have e := inK a o ho
    rw [at_] at e
    cases e
    refine key (fun b => if atT cs b then some (.tbl #[]) else none) (fun b hb => if_pos hb) (fun b nb => Or.inl (if_neg nb)) (.inr ⟨_, vs.toArray, _, ho, rfl, rfl, rfl, by rw [List.size_toArray, lenV]; exact len, by simpa using relV⟩) ?_ (fun z => (z (if_neg noTA)).elim)
    intro b u z
    by_cases nb : atT cs b
    · have y := (if_pos nb).symm.trans z
      cases y
      exact tabA nb
    · exact nomatch (if_neg nb).symm.trans z
/-- what the top tells of a def's code object and its table -/
def TabTell (q : Program) (K : PySem.W.Frag) (h : Heap) : Prop := ∀ (x : Str) (c P : Addr), ((recsOf q).any fun e => e.name == x) = true → PySem.W.tabIn K x = some (c, P) → PySem.W.CodeHd h c P ∧ h.get? P = some tab0
theorem tab_mk {K : PySem.W.Frag} {x : Str} {f c P : Addr} {o1 q1 : Value} {o2 q2 : Option Addr} {o3 q3 : Array (Option Value)} {fd : FuncData} {vs : Array Value} (a : PySem.W.nsIn K mainGlobals x = some (some (.ref f))) (l : K.lookup f = some ⟨o1, o2, .func fd, o3⟩) (hc : fd.code = .ref c)
    (lc : K.lookup c = some ⟨q1, q2, .fields vs, q3⟩) (h : vs[11]? = some (.ref P)) : PySem.W.tabIn K x = some (c, P) := by
  unfold PySem.W.tabIn
  rw [a]
  dsimp only
  rw [l]
  dsimp only
  rw [hc]
  dsimp only
  rw [lc]
  dsimp only
  rw [h]
theorem walkGT {l : PySem.W.OpenLaw} {n k : Nat} {q : Program} {loose : List Str} {XP : (Str → Option Value) → Heap → Prop} {YP : World → Heap → Prop} {d : DefRec} {K : Params → PySem.W.Frag} {CX : World → CXT} {sp : PySem.W.Frag → List (Addr × Addr) → Sp} {x : Str}
    (h1 : l.most = some n) (h2 : n ≤ sizeLine) (h3 : d.params.defaults = []) (imp : importsNone q = true) (room : Room k callerA)
    (hY : ∀ (w : World) (h : Heap), YP w h → (K w.params).In h)
    (F : ∀ (w : World) (mg : Str → Option Value) (fa : Addr) (h : Heap), (K w.params).In h → h.Ns mainGlobals mg → mg d.name = some (.ref fa) → TabTell q (K w.params) h →
      ∃ (fd : FuncData) (cs : List (Addr × Addr)), (∀ p ∈ cs, h.get? p.2 = some tab0) ∧ (∀ p ∈ cs, (K w.params).lookup p.2 = none) ∧ (∀ p ∈ cs, PySem.W.CodeHd h p.1 p.2) ∧ (∀ (s : Shared) (u : Value), BindsTo s fd ⟨[u], []⟩ [(x, u)]) ∧
        (∀ (H : Hp) (a : Addr) (ns : List Int), ns.length ≤ n → (∀ p ∈ cs, H p.2 = some (.tbl #[])) → SqL (K w.params) H a (ns.map V.int) → sp (K w.params) cs [.ref a] H (fun v _ => v = .bl true) fun _ _ _ => False) ∧
        ∀ base : Heap, (K w.params).In base → base.Ns mainGlobals mg → (∃ mm, base.Ns sysModules mm) → (∀ p ∈ cs, TabB base mg p.1 p.2) → FnG l.prog w (K w.params) mg base (CX w) k fa fd [x] (sp (K w.params) cs))
    (hCX : ∀ (w : World) (H : Hp) (s : Shared) (e : Value) (s' : Shared), CX w [] H s (fun _ _ _ => False) e s' → False) :
    PySem.W.WalkO q loose XP YP l.row.toRowW d [] (fun f vs => PySem.call f vs) := by
  refine Att.attach_call h1 h3 ?_
  intro w s0 s1 mg mb fa o pm cd doc a vs ns G Y ho hd hcd hmg hobj hints hlen hgen
  have KX := hY w _ Y
  have tell : TabTell q (K w.params) s1.heap := by
    intro x c P hx ht
    cases e : (recsOf q).find? (fun e => e.name == x) with
    | none =>
      rw [List.find?_eq_none] at e
      obtain ⟨d, h1, h2⟩ := List.any_eq_true.mp hx
      exact (e d h1 h2).elim
    | some d => exact PySem.W.tab_of G.T KX e ht
  obtain ⟨fd, cs, t1, t2, t3, hb, hsp, hF⟩ := F w mg fa _ KX G.T.g hmg tell
  refine lawGT KX G.T.g G.T.b G.T.builtins G.T.nolimit (G.T.seer imp) hgen t1 t2 t3 G.T.bmain hobj hints (Nat.le_trans hlen h2) room hF hb (fun H hT hS => hsp H a ns hlen hT hS) ?_
  intro H e s2
  exact hCX w H s1 e s2
end TD

set_option maxHeartbeats 4000000
/-! # X11: comprehensions over pairs -/
namespace TD
open PySem PySem.Spec PyProof.Rows L2
open Evl (Ex)
section
variable {K : Fg} {ρ : En} {te : TE} {tt : TT}
theorem wipe_two {σ : L2.St} {vs : List Nat} {j0 j1 : Nat} {a b : Option V} (h0 : j0 ∈ vs) (h1 : j1 ∈ vs) : L2.wipe (((L2.wipe σ vs).set j0 a).set j1 b) vs = L2.wipe σ vs := by
  have c4 : ∀ (ws : List Nat) (m : L2.St) (j : Nat) (o : Option V), j ∉ ws → L2.wipe (m.set j o) ws = (L2.wipe m ws).set j o := by
    intro ws
    induction ws with
    | nil => exact fun _ _ _ _ => rfl
    | cons v ws ih =>
      intro m j o hn
      rw [List.mem_cons, not_or] at hn
      show (L2.wipe (m.set j o) ws).set v none = ((L2.wipe m ws).set v none).set j o
      rw [ih m j o hn.2, List.set_comm _ _ hn.1]
  have c3 : ∀ (us : List Nat) (m : L2.St) (j : Nat) (o : Option V), j ∈ us → L2.wipe (m.set j o) us = L2.wipe m us := by
    intro us
    induction us with
    | nil => exact fun m j o z => nomatch z
    | cons u us ih =>
      intro m j o hm
      show (L2.wipe (m.set j o) us).set u none = (L2.wipe m us).set u none
      by_cases hu : j ∈ us
      · rw [ih m j o hu]
      · rcases List.mem_cons.mp hm with z | z
        · subst z
          rw [c4 us m j o hu, List.set_set]
        · exact (hu z).elim
  rw [c3 vs _ _ _ h1, c3 vs _ _ _ h0]
  exact wipe_none vs
/-- [e for x, y in xs if t] over a list of pairs -/
theorem ed_lcP {tl : TE} {j0 j1 : Nat} {vs : List Nat} {ds : List PyData} (f : PyData → Bool) (g : PyData → PyData) (h : ED K tl ρ (.list ds)) (hj0 : j0 ∈ vs) (hj1 : j1 ∈ vs) (hz : ds.length ≤ 40000) (hp : ∀ d ∈ ds, ∃ x y, d = .tuple [x, y])
    (ht : ∀ x y, .tuple [x, y] ∈ ds → ET K tt (((wipeD ρ vs).set j0 (some x)).set j1 (some y)) (f (.tuple [x, y]))) (he : ∀ x y, .tuple [x, y] ∈ ds → f (.tuple [x, y]) = true → ED K te (((wipeD ρ vs).set j0 (some x)).set j1 (some y)) (g (.tuple [x, y]))) :
    ED K (tLc (iList K tl) (gTup K 2 (gCons (gName j0) (gCons (gName j1) gNil))) tt te vs) ρ (.list (picked ds f g)) := fun σ B H s sd Q q =>
  h σ B H s sd _ fun v B1 H1 l1 d1 => by
    cases d1 with
    | @lst p xs _ ha hs =>
      have hx : SqL K H1 p xs := SqL.of (l1.sub _ _ ha)
      refine ⟨p, rfl, ⟨xs, hx⟩, fun D hD => ?_⟩
      refine lc_list (K := K) (a := p) (xs := xs) (fun i H' => Cz K B1 H1 D (picked (ds.take i) f g) H') (cz_start l1.sub hD) (fun i H' _ ⟨B', acc, l, _⟩ => SqL.of (l.ex _ _ (l1.sub _ _ ha))) (fun i x H' hi c => ?_) (fun H' c => ?_)
      · obtain ⟨e, he1, hd⟩ := hs.get hi
        have me : e ∈ ds := List.mem_of_getElem? he1
        obtain ⟨x0, y0, rfl⟩ := hp e me
        cases hd with
        | @tup pt us _ e2 b2 =>
        obtain ⟨vx, r, rfl, dx, b3⟩ := b2.inv1
        obtain ⟨vy, r, rfl, dy, b4⟩ := b3.inv1
        cases b4
        obtain ⟨B', acc, l, nD, eD, hacc⟩ := id c
        refine g_pair (l.ex _ _ (l1.sub _ _ e2)) ?_
        refine ⟨wipe_two hj0 hj1, ?_⟩
        · refine cz_turn hD c (((((sd.up l1.ek).wipe vs)).put j0 dx).put j1 dy) ?_ (ht x0 y0 me) (he x0 y0 me) (fun hf H2 c2 => ?_) (fun hf H2 c2 => ?_)
          · have z1 := picked_len (ds.take i) f g
            have z2 : (ds.take i).length ≤ ds.length := by
              rw [List.length_take]
              omega
            omega
          · show Cz K B1 H1 D (picked (ds.take (i + 1)) f g) H2
            rw [picked_more he1, if_pos hf]
            exact c2
          · show Cz K B1 H1 D (picked (ds.take (i + 1)) f g) H2
            rw [picked_more he1, if_neg (by rw [hf]; exact Bool.false_ne_true), List.append_nil]
            exact c2
      · have e : ds.take xs.length = ds := by
          rw [hs.len]
          exact List.take_length
        rw [e] at c
        obtain ⟨B', l, hd⟩ := cz_end hD c
        exact q _ _ _ (l1.tr l) hd
/-- [e for x, y in zip(xs, ys) if t] -/
theorem ed_lcZ {ta : TA} {j0 j1 : Nat} {vs : List Nat} {ds es : List PyData} (f : PyData → Bool) (g : PyData → PyData) (h : EA K ta ρ [.list ds, .list es]) (hl : ds.length = es.length) (hj0 : j0 ∈ vs) (hj1 : j1 ∈ vs) (hz : ds.length ≤ 40000)
    (ht : ∀ (i : Nat) (x y : PyData), ds[i]? = some x → es[i]? = some y → ET K tt (((wipeD ρ vs).set j0 (some x)).set j1 (some y)) (f (.tuple [x, y]))) (he : ∀ (i : Nat) (x y : PyData), ds[i]? = some x → es[i]? = some y → f (.tuple [x, y]) = true → ED K te (((wipeD ρ vs).set j0 (some x)).set j1 (some y)) (g (.tuple [x, y]))) :
    ED K (tLc (iZip K ta) (gTup K 2 (gCons (gName j0) (gCons (gName j1) gNil))) tt te vs) ρ (.list (picked ((ds.zip es).map fun p => .tuple [p.1, p.2]) f g)) := fun σ B H s sd Q q =>
  h σ B H s sd _ fun us B1 H1 l1 d1 => by
    obtain ⟨v1, r1, rfl, a1, t1⟩ := d1.inv1
    obtain ⟨v2, r2, rfl, a2, t2⟩ := t1.inv1
    cases t2
    cases a1 with
    | @lst p xs _ e1 b1 =>
    cases a2 with
    | @lst p2 ys _ e2 b2 =>
    refine ⟨p, p2, xs, ys, rfl, SqL.of (l1.sub _ _ e1), SqL.of (l1.sub _ _ e2), fun D hD => ?_⟩
    have hxy : xs.length = ys.length := by rw [b1.len, b2.len, hl]
    refine ⟨fun i m H' => m = xs.length - i ∧ i ≤ xs.length ∧ Cz K B1 H1 D (picked (((ds.zip es).map fun p => PyData.tuple [p.1, p.2]).take i) f g) H', ⟨xs.length, by simp, Nat.zero_le _, cz_start l1.sub hD⟩, ?_⟩
    rintro i m H' ⟨rfl, hi, c⟩
    obtain ⟨B', acc, l, nD, eD, hacc⟩ := id c
    have q1 : SqL K H' p xs := SqL.of (l.ex _ _ (l1.sub _ _ e1))
    have q2 : SqL K H' p2 ys := SqL.of (l.ex _ _ (l1.sub _ _ e2))
    by_cases hlt : i < xs.length
    · refine .inr ⟨⟨xs, ys, xs[i], ys[i]'(by omega), q1, q2, List.getElem?_eq_getElem hlt, List.getElem?_eq_getElem (by omega)⟩, fun H' => Cz K B1 H1 D (picked (((ds.zip es).map fun p => PyData.tuple [p.1, p.2]).take (i + 1)) f g) H', fun H2 c2 => ⟨xs.length - (i + 1), by omega, rfl, hlt, c2⟩, ?_⟩
      rintro v H2 ⟨T, x, y, rfl, hT, rfl, k1, k2⟩
      have hx := k1 xs q1
      have hy := k2 ys q2
      obtain ⟨x0, he1, dx⟩ := b1.get hx
      obtain ⟨y0, he2, dy⟩ := b2.get hy
      have hzp : ((ds.zip es).map fun p => PyData.tuple [p.1, p.2])[i]? = some (.tuple [x0, y0]) := by
        have zz : (ds.zip es)[i]? = some (x0, y0) := List.getElem?_zip_eq_some.mpr ⟨he1, he2⟩
        rw [List.getElem?_map, zz]
        rfl
      refine g_pair upd_same ?_
      have nDT : D ≠ T := fun z => by
        rw [z, hT] at eD
        cases eD
      have c' : Cz K B1 H1 D (picked (((ds.zip es).map fun p => PyData.tuple [p.1, p.2]).take i) f g) (upd H' T (.tup [x, y])) :=
        ⟨B', acc, l.tr ⟨Ex.new hT, Ex.refl B', l.sub.trans (Ex.new hT), fun _ h _ => h⟩, nD, by rw [upd_ne nDT]; exact eD, hacc⟩
      refine ⟨wipe_two hj0 hj1, ?_⟩
      refine cz_turn hD c' (((((sd.up l1.ek).wipe vs)).put j0 dx).put j1 dy) ?_ (ht i x0 y0 he1 he2) (he i x0 y0 he1 he2) (fun hf H2 c2 => ?_) (fun hf H2 c2 => ?_)
      · have z1 := picked_len (((ds.zip es).map fun p => PyData.tuple [p.1, p.2]).take i) f g
        have z2 : (((ds.zip es).map fun p => PyData.tuple [p.1, p.2]).take i).length ≤ ds.length := by
          rw [List.length_take, List.length_map, List.length_zip]
          omega
        omega
      · rw [picked_more hzp, if_pos hf]
        exact c2
      · rw [picked_more hzp, if_neg (by rw [hf]; exact Bool.false_ne_true), List.append_nil]
        exact c2
    · refine .inl ⟨⟨xs, ys, q1, q2, .inl (by omega)⟩, ?_⟩
      have e : ((ds.zip es).map fun p => PyData.tuple [p.1, p.2]).take i = (ds.zip es).map fun p => PyData.tuple [p.1, p.2] := List.take_of_length_le (by
        rw [List.length_map, List.length_zip, ← b1.len, ← b2.len]
        omega)
      rw [e] at c
      obtain ⟨B', l, hd⟩ := cz_end hD c
      exact q _ _ _ (l1.tr l) hd
end
end TD

set_option maxHeartbeats 4000000
/-! # X12: raising calls out of a list of defs, within an argument, as what a lambda says -/
namespace TD
open PySem PySem.Spec PyProof.Rows L2
open Evl (Ex)
section
variable {K : Fg} {E : XK} {t u : TS} {ρ ρ1 : En} {C f : Addr} {i j k : Nat} {ta tr : TA} {te tf : TE} {tt : TT} {ds : List PyData} {CP : Addr → Sp → Prop} {R : List PyData → PyData → Prop} {RX : List PyData → Addr → Nat → Prop}
/-- return fs[i](x, ..), which raises -/
theorem xz_retF (hf : EF K tf ρ f) (c : CP f (SpX K R RX)) (ha : EAi K ta ρ ds j i) (hR : RX ds C j) : XZ K E (tRet (tCallF CP tf (WE fun c d _ H => E c d H) ta)) ρ C i := fun σ B H D s sd v hv q =>
  hf σ B H s sd _ fun B1 H1 l1 => ⟨f, _, rfl, c, ha σ B1 H1 l1.sub (sd.up l1.ek) v hv _ fun vs B2 H2 l2 d2 e => ⟨B2, ds, l2.sub, d2, .inr ⟨C, j, v, hR, e, fun x B3 H3 l3 => q x B3 H3 ((l1.tr l2).tr l3)⟩⟩⟩
/-- return g(f(x, ..), ..), where f raises -/
theorem xz_retA {sp : Sp} {L : List V} {E' : XK} (ha : EAi K ta ρ ds j i) (hR : RX ds C j) : XZ K E (tRet (tCall sp L E' (tCons (tCallS (SpX K R RX) (WE fun c d _ H => E c d H) ta) tr))) ρ C i := fun σ B H D s sd v hv q =>
  ha σ B H s sd v hv _ fun vs B1 H1 l1 d1 e => ⟨B1, ds, l1.sub, d1, .inr ⟨C, j, v, hR, e, fun x B2 H2 l2 => q x B2 H2 (l1.tr l2)⟩⟩
/-- a slot that is given a list of defs, then a call out of it that raises -/
theorem xz_asgF {fs : List Addr} {m : Nat} (hf : EVs tr (fs.map V.ref)) (hz : fs.length ≤ 1000) (hm : m ≠ i) (hn : ρ[m]? = some none) (hi : ED K te ρ (.int (k : Int))) (hk : fs[k]? = some f) (c : CP f (SpX K R RX)) (ha : EAi K ta ρ ds j i) (hR : RX ds C j) :
    XZ K E (tSeq (tAsg (tLst tr) (gName m)) (tRet (tCallF CP (tOp (rIxL K) (tVar m) te) (WE fun c d _ H => E c d H) ta))) ρ C i := fun σ B H D s sd v hv q => by
  refine hf σ H _ ⟨by rw [List.length_map]; exact Evl.sz_of (by omega), fun p hp => ?_⟩
  have l : Le B H B (upd H p (.lst (fs.map V.ref))) := ⟨Ex.new hp, Ex.refl B, s.trans (Ex.new hp), fun _ h _ => h⟩
  have hl : m < σ.length := by
    rw [sd.1]
    exact (List.getElem?_eq_some_iff.mp hn).1
  have e0 : ρ.set m none = ρ := by
    obtain ⟨q1, q2⟩ := List.getElem?_eq_some_iff.mp hn
    rw [← q2]
    exact List.set_getElem_self q1
  have sd1 : SD K B (σ.set m (some (.ref p))) ρ := by
    have w := sd.drop m (some (.ref p))
    rwa [e0] at w
  have hv1 : (σ.set m (some (.ref p)))[i]? = some (some v) := by
    rw [List.getElem?_set_ne hm]
    exact hv
  refine ⟨.ref p, List.getElem?_set_self hl, hi _ B _ l.sub sd1 _ fun y B1 H1 l1 d1 => ?_⟩
  cases d1
  refine ⟨p, fs.map V.ref, (k : Int), .ref f, rfl, rfl, SqL.of (l1.ex _ _ upd_same), atI_nat (j := k) (by rw [List.getElem?_map, hk]; rfl), f, _, rfl, c, ?_⟩
  exact ha _ B1 H1 l1.sub (sd1.up l1.ek) v hv1 _ fun vs B2 H2 l2 d2 e => ⟨B2, ds, l2.sub, d2, .inr ⟨C, j, v, hR, e, fun x B3 H3 l3 => q x B3 H3 (((l.tr l1).tr l2).tr l3)⟩⟩
theorem xz_skip (h : ET K tt ρ false) (h1 : XZ K E u ρ C i) : XZ K E (tSeq (tIfS tt t tNext) u) ρ C i := xz_then (xi_skip h) h1
theorem xz_in (h : ET K tt ρ true) (h1 : XZ K E t ρ C i) : XZ K E (tSeq (tIfS tt t tNext) u) ρ C i := xz_here (xz_if1 h h1)
/-- the lambda's body is a call that raises -/
theorem lam_call {J : L2.St → Prop} {nm : Str} {fld : PyData} {m : Nat} (ha : EAi K ta ρ ds j i) (hR : RX ds C j) (hi : ρ[i]? = some (some fld)) (hm : ρ[m]? = some (some fld)) : LamR K J ρ (tCons (tC (.str nm)) (tCons (tVar m) tNil)) (fun E => tCallS (SpX K R RX) (WE fun c d _ H => E c d H) ta) nm fld C := by
  intro σ B _ sd
  obtain ⟨v', e', dv'⟩ := sd.2 i fld hi
  obtain ⟨v, e, dv⟩ := sd.2 m fld hm
  exact ⟨v, v', dv, dv', fun H Q q => ⟨v, e, q⟩, fun E B1 H1 Q' k s hx => ha σ B1 H1 s (sd.up k) v' e' _ fun vs B2 H2 l2 d2 e2 => ⟨B2, ds, l2.sub, d2, .inr ⟨C, j, v', hR, e2, fun x B3 H3 l3 => hx x B3 H3 (l2.tr l3)⟩⟩⟩
/-- the same of a def that a slot holds -/
theorem lam_callF {nm : Str} {fld : PyData} {m n : Nat} (c : CP f (SpX K R RX)) (ha : EAi K ta ρ ds j i) (hR : RX ds C j) (hi : ρ[i]? = some (some fld)) (hm : ρ[m]? = some (some fld)) : LamR K (fun σ => σ[n]? = some (some (.ref f))) ρ (tCons (tC (.str nm)) (tCons (tVar m) tNil)) (fun E => tCallF CP (tVar n) (WE fun c d _ H => E c d H) ta) nm fld C := by
  intro σ B hf sd
  obtain ⟨v', e', dv'⟩ := sd.2 i fld hi
  obtain ⟨v, e, dv⟩ := sd.2 m fld hm
  exact ⟨v, v', dv, dv', fun H Q q => ⟨v, e, q⟩, fun E B1 H1 Q' k s hx => ⟨.ref f, hf, f, _, rfl, c, ha σ B1 H1 s (sd.up k) v' e' _ fun vs B2 H2 l2 d2 e2 => ⟨B2, ds, l2.sub, d2, .inr ⟨C, j, v', hR, e2, fun x B3 H3 l3 => hx x B3 H3 (l2.tr l3)⟩⟩⟩⟩
/-- where the value told is a number that is written -/
theorem lam_callI {J : L2.St → Prop} {nm : Str} {n : Int} (ha : ∀ σ B H, Ex B H → SD K B σ ρ → ∀ Q : List V → Hp → Prop, (∀ vs B' H', Le B H B' H' → Das K B' vs ds → vs[j]? = some (.int n) → Q vs H') → ta σ H Q) (hR : RX ds C j) : LamR K J ρ (tCons (tC (.str nm)) (tCons (tC (.int n)) tNil)) (fun E => tCallS (SpX K R RX) (WE fun c d _ H => E c d H) ta) nm (.int n) C := by
  intro σ B _ sd
  exact ⟨.int n, .int n, .int n, .int n, fun H Q q => q, fun E B1 H1 Q' k s hx => ha σ B1 H1 s (sd.up k) _ fun vs B2 H2 l2 d2 e2 => ⟨B2, ds, l2.sub, d2, .inr ⟨C, j, .int n, hR, e2, fun x B3 H3 l3 => hx x B3 H3 (l2.tr l3)⟩⟩⟩
end
end TD

set_option maxHeartbeats 4000000
/-! # X13: a def that makes lambdas: its code object is known; its list's start and end -/
namespace TD
open PySem PySem.Spec PyProof.Rows L2
open Evl (Ex)
open LamX (CodeO Tabs TabS TabB ExtN)
section
variable {P : Program} {w : World} {K : PySem.W.Frag} {mg : Str → Option Value} {base : Heap}
theorem code_is {x : Str} {st : Stmt} {f c Pt : Addr} {fd : FuncData} (F : Fun K x x st f fd) (hm : mg x = some (.ref f)) (inK : K.In base) (hns : base.Ns mainGlobals mg) (ht : PySem.W.tabIn K x = some (c, Pt)) : fd.code = .ref c := by
  obtain ⟨oc, od, kV, doc, pm, an, cdv, ct, osl, rfl, lk, hcd⟩ := F.ex
  exact PySem.W.law_code inK hns ht hm (inK _ _ lk) rfl
theorem fnGT {CX : CXT} {x : Str} {st : Stmt} {f c Pt : Addr} {fd : FuncData} {N ps : List Str} {k : Nat} {sp : Sp} (F : Fun K x x st f fd) (hm : mg x = some (.ref f)) (kIn : K.In base) (hns : base.Ns mainGlobals mg) (htab : PySem.W.tabIn K x = some (c, Pt)) (S : FnScope N ps (defScope st))
    (ln : ∀ vs H Q E, sp vs H Q E → vs.length = ps.length)
    (body : ∀ (A : Around) (outer : List Env) (s : Shared) (H : Hp) (vs : List V) (Q : VK) (E : XK),
      A.guards = some [] → Room k (A.deeper (envOfC x (defScope st) s.heap.objs.size f (.ref c))) → sp vs H Q E →
      ∃ t, PSs (cxOf CX P w K mg base N x (defScope st) f (.ref c) A outer s H E) (defBody st) t ∧ t { nx := fun _ H' => Q .non H', rt := Q } (start N vs) H) :
    FnG P w K mg base CX (k + 1) f fd ps sp := by
  have ec := code_is F hm kIn hns htab
  obtain ⟨oc, od, kV, doc, pm, an, cdv, ct, osl, rfl, lk, hcd⟩ := F.ex
  have ec2 : cdv = .ref c := ec
  subst ec2
  refine ⟨ln, ?_⟩
  intro A outer s H args us vs Q E hg hr e0 hb r hsp
  have keepB : ∀ b o, base.get? b = some o → s.heap.get? b = some o := fun b o e => (e0.bs b o e).1
  have inK : K.In s.heap := e0.mod.kin.keeps keepB
  have noLim : s.heap.NoLimit := e0.mod.nolimit.keeps keepB
  have kinds : ∀ y ∈ ps.zip us, (defScope st).names.lookup y.1 = some .local ∨
      ((defScope st).names.lookup y.1 = some .cell ∧ ((cellsFrom (s.heap.objs.size + 1) (defScope st).names []).lookup y.1).isSome = true) := by
    intro ⟨nm, u⟩ hy
    rcases S.par nm (List.of_mem_zip hy).1 with z | z
    · exact Or.inl z
    · exact Or.inr ⟨z, PySem.W.cellsFrom_some _ _ _ (Or.inl z)⟩
  refine codeAny_call_function hr.depth (inK _ _ lk) rfl S.co S.gen rfl (PySem.W.codeRec_of inK hcd) (hb _ _ _ _ ?_)
  refine wpAny_newFunctionEnv_cells S.kind kinds fun en hen s1 x1 => ?_
  subst hen
  refine ⟨noLim.keeps x1.toInCall.keep, codeAny_func ?_⟩
  obtain ⟨t, ht, hq⟩ := body A outer s H vs Q E hg (hr.deeper _) hsp
  have I1 : Inv (cxOf CX P w K mg base N x (defScope st) f (.ref c) A outer s H E) [] (start N vs) H s1 := inv_start S hr.hd e0 (ln _ _ _ _ hsp) r x1
  refine wpAny_mono (ht.run [] s1 (start N vs) H _ I1 hq) ?_ (fun _ _ z => z)
  intro fl s2 hs
  match fl, hs with
  | .ret u, ⟨v, _, H2, J, rv, q⟩ => exact ⟨v, H2, J.os, J.bare, J.base, J.hok, rv, q⟩
  | .next, ⟨_, H2, J, q⟩ => exact ⟨V.non, H2, J.os, J.bare, J.base, J.hok, rfl, q⟩
  | .brk, ⟨_, _, _, q⟩ => exact q.elim
  | .cont, ⟨_, _, _, q⟩ => exact q.elim
end
section
variable {K : Fg} {T : List (Addr × Str)} {i j l n : Nat} {t u : TS} {ρ : En} {d d1 d2 : PyData} {ta : TA}
theorem xt_up {J : L2.St → Prop} {ρ' : En} {m m' : Nat} (h : XT K T J i t ρ ρ' n m) (e : m ≤ m') : XT K T J i t ρ ρ' n m' := fun σ B H D jj s sd a q =>
  h σ B H D jj s sd a fun σ1 B1 H1 j1 e1 s1 sd1 ⟨a1, ⟨p, acc, h1, h2, h3, h4, h5⟩, a3⟩ => q σ1 B1 H1 j1 e1 s1 sd1 ⟨a1, ⟨p, acc, h1, h2, h3, Nat.le_trans h4 e, h5⟩, a3⟩
/-- due = [] -/
theorem xt_new {D : Ends} {σ : L2.St} {B H : Hp} (hi : i < ρ.length) (r : ∀ σ B H, Ex B H → SD K B σ (ρ.set i none) → TQ T i 0 σ B H → u D σ H) (s : Ex B H) (nt : NT B) (sd : SD K B σ ρ) (tb : Tabs T H) : tSeq (tAsg (tLst tNil) (gName i)) u D σ H := by
  refine ⟨by show 0 ≤ sizeLine; decide, fun p hp => ?_⟩
  have bp : B p = none := Evl.fresh_back s hp
  exact r (σ.set i (some (.ref p))) B (upd H p (.lst [])) (s.trans (Ex.new hp)) (sd.drop i _) ⟨nt, ⟨p, [], List.getElem?_set_self (by rw [sd.1]; exact hi), upd_same, bp, Nat.le_refl _, fun _ h => nomatch h⟩, tb.ext (Ex.new hp)⟩
/-- due, x, y = [], .., .. -/
theorem xt_par3 {D : Ends} {σ : L2.St} {B H : Hp} (h : EA K ta ρ [d1, d2]) (hi : i < ρ.length) (hj : j ≠ i) (hl : l ≠ i) (r : ∀ σ B H, Ex B H → SD K B σ (((ρ.set i none).set j (some d1)).set l (some d2)) → TQ T i 0 σ B H → u D σ H) (s : Ex B H) (nt : NT B) (sd : SD K B σ ρ) (tb : Tabs T H) :
    tSeq (tPar3 i j l (tCons (tLst tNil) ta)) u D σ H := by
  refine ⟨by show 0 ≤ sizeLine; decide, fun p hp => ?_⟩
  have bp : B p = none := Evl.fresh_back s hp
  have l0 : Le B H B (upd H p (.lst [])) := ⟨Ex.new hp, Ex.refl B, s.trans (Ex.new hp), fun _ h _ => h⟩
  refine h σ B _ l0.sub sd _ fun vs B1 H1 l1 dd => ?_
  obtain ⟨v1, r1, rfl, a1, dd⟩ := dd.inv1
  obtain ⟨v2, r2, rfl, a2, dd⟩ := dd.inv1
  cases dd
  refine ⟨.ref p, v1, v2, rfl, ?_⟩
  have e := l1.ex _ _ (upd_same (H := H) (a := p) (o := .lst []))
  have nb : B1 p = none := l1.old p bp (fun z => by rw [upd_same] at z; cases z)
  refine r _ (noT B1) H1 (noT_sub l1.sub) ((((sd.up l1.ek).drop i _).put j a1).put l a2).noT ⟨noT_nt B1, ⟨p, [], ?_, e, noT_none nb, Nat.le_refl _, fun _ h => nomatch h⟩, (tb.ext (Ex.new hp)).ext l1.ex⟩
  rw [List.getElem?_set_ne hl, List.getElem?_set_ne hj, List.getElem?_set_self (by rw [sd.1]; exact hi)]
/-- the end: all is read as data, the tables stand -/
theorem xt_end {D : Ends} {σ : L2.St} {B H : Hp} (h : ∀ ds, allT ds → ds.length ≤ n → XS K t (ρ.set i (some (.list ds))) (.ret d)) (s : Ex B H) (sd : SD K B σ ρ) (a : TQ T i n σ B H) (q : ∀ v B' H', Da K B' v d → Tabs T H' → D.rt v H') : t D σ H := by
  obtain ⟨p, acc, h1, h2, h3, h4, h5⟩ := a.due
  have e : Ex B (upd B p (.lst acc)) := Ex.new h3
  have s2 : Ex (upd B p (.lst acc)) H := fun b o z => by
    by_cases w : b = p
    · subst w
      rw [upd_same] at z
      cases z
      exact h2
    · rw [upd_ne w] at z
      exact s b o z
  have dd : ∀ vs : List V, (∀ v ∈ vs, v = V.bl true) → Das K (upd B p (.lst acc)) vs (vs.map fun _ => PyData.bool true) := by
    intro vs
    induction vs with
    | nil => exact fun _ => .nil
    | cons v vs ih =>
      intro hv
      rw [hv v (List.mem_cons_self ..)]
      exact .cons (.bl true) (ih fun v h => hv v (List.mem_cons_of_mem _ h))
  have da : Da K (upd B p (.lst acc)) (.ref p) (.list (acc.map fun _ => PyData.bool true)) := .lst upd_same (dd acc h5)
  have sd2 : SD K (upd B p (.lst acc)) σ (ρ.set i (some (.list (acc.map fun _ => PyData.bool true)))) := by
    have z := (sd.up e).put i da
    have w : σ.set i (some (.ref p)) = σ := by
      obtain ⟨hi, he⟩ := List.getElem?_eq_some_iff.mp h1
      rw [← he]
      exact List.set_getElem_self hi
    rwa [w] at z
  exact h _ (fun d hd => by
    obtain ⟨_, _, z⟩ := List.mem_map.mp hd
    exact z.symm) (by rw [List.length_map]; exact h4) σ _ H D s2 sd2 fun v B' H' l hv => q v B' H' hv (a.tab.ext l.ex)
/-- return False not in due -/
theorem xs_notin {ds : List PyData} (h : allT ds) (hi : ρ[i]? = some (some (.list ds))) : XS K (tRet (tOp (rIn K true) (tC (.bl false)) (tVar i))) ρ (.ret (.bool true)) := by
  have fl : ds.all flatD = true := List.all_eq_true.mpr fun d hd => by
    rw [h d hd]
    rfl
  refine xs_ret (ed_is (ed_op ed_bl (ed_var hi) (r_ni rfl fl)) ?_)
  have e : ds.any (fun e => PyData.eqv e (.bool false)) = false := List.any_eq_false.mpr fun d hd => by
    rw [h d hd]
    exact Bool.false_ne_true
  rw [e]
  rfl
end
end TD

set_option maxHeartbeats 4000000
/-! # X14: calls of what a slot holds, told apart from where they stand -/
namespace TD
open PySem PySem.Spec PyProof.Rows L2
open Evl (Ex)
def CPx (P : Program) (w : World) (K : Fg) (mg : Str → Option Value) (base : Heap) (k : Nat) : Addr → Sp → Prop := fun f sp => ∃ x ps, Fx P w K mg base x ps k sp ∧ mg x = some (.ref f)
theorem Fx.cpx {P : Program} {w : World} {K : Fg} {mg : Str → Option Value} {base : Heap} {x : Str} {ps : List Str} {k m : Nat} {sp : Sp} {a : Addr} (c : Fx P w K mg base x ps k sp) (h : k ≤ m) (hm : mg x = some (.ref a)) : CPx P w K mg base m a sp := ⟨x, ps, c.up h, hm⟩
section
variable {X : Cx} {fn e : Expr} {es : List Expr} {pos : Pos} {tf : TE} {t : TA} {E : L2.St → XK} {k : Nat}
theorem pe_callC (gu : X.A.guards = some []) (hr : Room k X.A) (hx : ∀ σ, PassesAt (L2.CX X.prog X.w) X σ (E σ)) (hf : PE X fn tf) (ha : PA X (e :: es) t)
    (d0 : eval (.Call fn (e :: es) [] pos) X.env = (do
      let f ← eval fn X.env
      callWith pos f [] (backTo pos (starEach (e :: es) X.env)) (backToKw pos (keywordEach [] X.env))) := by rfl)
    (d2 : starEach (e :: es) X.env = (false, eval e X.env) :: starEach es X.env := by rfl)
    (d3 : (backTo pos (starEach es X.env)).any (·.1) = false := by rfl) :
    PE X (.Call fn (e :: es) [] pos) (tCallF (CPx X.prog X.w X.K X.mg X.base k) tf E t) := by
  refine ⟨fun pins s σ H Q I h => ?_⟩
  rw [d0]
  refine wpAny_bind (thn (hf.run pins s σ H _ I h) fun u s1 ⟨v, H1, I1, r1, f, sp, ev, ⟨x, ps, c, hm⟩, q⟩ => ?_)
  subst ev
  cases (show u = Value.ref f from r1)
  obtain ⟨fd, ps, k, kp, hb, hr, F⟩ := c.callee hr hm
  refine PySem.W.callWith_K (h₀ := X.base) I1.ok.mod.kin kp (thn (ha.run pos pins s1 σ H1 _ I1 q) ?_) d2 d3
  intro us s2 ⟨vs, H2, I2, r, q2⟩
  exact ⟨I2.kIn, runGS F gu hr hb (hx σ) I2 r q2⟩
/-- f(a, ..), f a parameter or a slot: the plain name -/
theorem pe_callN {a : Str} {p : Pos} {i : Nat} {CP : Addr → Sp → Prop} (hcp : ∀ f sp, CP f sp → CPx X.prog X.w X.K X.mg X.base k f sp) (gu : X.A.guards = some []) (hr : Room k X.A) (hx : ∀ σ, PassesAt (L2.CX X.prog X.w) X σ (E σ)) (hN : X.N[i]? = some a) (hv : Vis X.env.scope a) (ha : PA X (e :: es) t)
    (z1 : (a == ("__debug__" : Str)) = false := by decide) (z2 : (a == ("__classdict__" : Str)) = false := by decide)
    (d2 : starEach (e :: es) X.env = (false, eval e X.env) :: starEach es X.env := by rfl)
    (d3 : (backTo pos (starEach es X.env)).any (·.1) = false := by rfl) :
    PE X (.Call (.Name a p) (e :: es) [] pos) (tCallF CP (tVar i) E t) := by
  refine ⟨fun pins s σ H Q I h => ?_⟩
  refine wpAny_Call_Name_kw (thn ((pe_var (pos := p) (i := i) hN hv z1 z2).run pins s σ H _ I h) fun u s1 ⟨v, H1, I1, r1, f, sp, ev, hc, q⟩ => ?_)
  obtain ⟨x, ps, c, hm⟩ := hcp f sp hc
  subst ev
  cases (show u = Value.ref f from r1)
  obtain ⟨fd, ps, k, kp, hb, hr, F⟩ := c.callee hr hm
  refine PySem.W.callWith_K (h₀ := X.base) I1.ok.mod.kin kp (thn (ha.run pos pins s1 σ H1 _ I1 q) ?_) d2 d3
  intro us s2 ⟨vs, H2, I2, r, q2⟩
  exact ⟨I2.kIn, runGS F gu hr hb (hx σ) I2 r q2⟩
theorem pass_no {σ : L2.St} : PassesAt (L2.CX X.prog X.w) X σ (fun _ _ _ => False) := fun _ _ _ _ _ _ c => by
  obtain ⟨_, _, _, _, _, _, _, _, _, _, _, _, z⟩ := c
  exact z.elim
end
section
variable {K : Fg} {T : List (Addr × Str)} {i j l n : Nat} {u : TS} {ρ : En} {d1 d2 : PyData} {ta : TA}
/-- due, x, y = [], .., .. by a tuple -/
theorem xt_asg3 {D : Ends} {σ : L2.St} {B H : Hp} (h : EA K ta ρ [d1, d2]) (hi : i < ρ.length) (hj : j ≠ i) (hl : l ≠ i) (r : ∀ σ B H, Ex B H → SD K B σ (((ρ.set i none).set j (some d1)).set l (some d2)) → TQ T i 0 σ B H → u D σ H) (s : Ex B H) (nt : NT B) (sd : SD K B σ ρ) (tb : LamX.Tabs T H) :
    tSeq (tAsg (tTup (tCons (tLst tNil) ta)) (gTup K 3 (gCons (gName i) (gCons (gName j) (gCons (gName l) gNil))))) u D σ H := by
  refine ⟨by show 0 ≤ sizeLine; decide, fun p hp => ?_⟩
  have bp : B p = none := Evl.fresh_back s hp
  have l0 : Le B H B (upd H p (.lst [])) := ⟨Ex.new hp, Ex.refl B, s.trans (Ex.new hp), fun _ h _ => h⟩
  refine h σ B _ l0.sub sd _ fun vs B1 H1 l1 dd => ?_
  obtain ⟨v1, r1, rfl, a1, dd⟩ := dd.inv1
  obtain ⟨v2, r2, rfl, a2, dd⟩ := dd.inv1
  cases dd
  have e := l1.ex _ _ (upd_same (H := H) (a := p) (o := .lst []))
  have nb : B1 p = none := l1.old p bp (fun z => by rw [upd_same] at z; cases z)
  refine ⟨by show 3 ≤ sizeLine; decide, fun q hq => ?_⟩
  have k : Ex H1 (upd H1 q (.tup [.ref p, v1, v2])) := Ex.new hq
  refine ⟨q, _, rfl, Evl.st_of upd_same, rfl, _, _, rfl, _, _, rfl, _, _, rfl, rfl, ?_⟩
  refine r _ (noT B1) _ ((noT_sub l1.sub).trans k) ((((sd.up l1.ek).drop i _).put j a1).put l a2).noT ⟨noT_nt B1, ⟨p, [], ?_, k _ _ e, noT_none nb, Nat.le_refl _, fun _ h => nomatch h⟩, ((tb.ext (Ex.new hp)).ext l1.ex).ext k⟩
  rw [List.getElem?_set_ne hl, List.getElem?_set_ne hj, List.getElem?_set_self (by rw [sd.1]; exact hi)]
end
section
variable {K : Fg} {ρ : En} {ta : TA} {ds : List PyData} {f : Addr} {j : Nat} {CP : Addr → Sp → Prop} {R : List PyData → PyData → Prop} {RX : List PyData → Addr → Nat → Prop}
/-- f(..) is False, which it is -/
theorem edj_isF (c : CP f (SpX K R RX)) (ha : EA K ta ρ ds) (hR : R ds (.bool false)) : EDJ K (fun σ _ => σ[j]? = some (some (.ref f))) (tOp rIsB (tCallF CP (tVar j) (fun _ _ _ _ => False) ta) (tC (.bl false))) ρ (.bool true) := fun σ B H s sd hf Q q =>
  ⟨.ref f, hf, f, _, rfl, c, ha σ B H s sd _ fun vs B1 H1 l1 d1 => ⟨B1, ds, l1.sub, d1, .inl ⟨_, hR, fun v B2 H2 l2 d2 => by
    cases d2
    exact ⟨false, false, rfl, rfl, q _ B2 H2 (l1.tr l2) (.bl true)⟩⟩⟩⟩
end
end TD

namespace TD
open PySem PySem.Spec PyProof.Rows L2
/-- the i-th statement of the row's text -/
def topS (i : Nat) : Stmt := PySem.Challenge.pw_timedoors_k44_reasons_refused.main.body.getD i (.Pass ⟨0, 0, 0, 0⟩)
end TD

set_option maxHeartbeats 4000000
namespace TD
open PySem PySem.Spec PyProof.Rows L2
open Evl (Ex)
/-! # kinds: what is a door, a level, .. -/
/-- the built-in names that the program uses are not its own -/
structure Bl (mg : Str → Option Value) : Prop where
  isinstance : mg "isinstance" = none
  int : mg "int" = none
  bool : mg "bool" = none
  list : mg "list" = none
  tuple : mg "tuple" = none
  len : mg "len" = none
  all : mg "all" = none
section
variable {P : Program} {w : World} {K : Fg} {mg : Str → Option Value} {base : Heap}
abbrev s_is_whole : Stmt := topS 8
def R_is_whole : List PyData → PyData → Prop := fun ds d => ∃ x, ds = [x] ∧ d = .bool (isWhole x)
theorem f_is_whole (T : Bl mg) (a : At K mg "is_whole" s_is_whole) : Fc P w K mg base "is_whole" ["value"] 1 (SpR K R_is_whole) := by
  have S : FnScope ["value"] ["value"] (defScope s_is_whole) := ⟨rfl, rfl, rfl, by decide +kernel, rfl, by decide +kernel, by decide +kernel⟩
  refine fc_mk a S (fun _ _ _ _ _ _ us hl => match us, hl with | [_], _ => rfl) (by rintro _ _ ⟨x, rfl, rfl⟩; rfl) fun f cdv A outer s H E gu hr => ⟨_, (pss_one (ps_ret (pe_and (pe_callB call_isi (by rfl) T.isinstance (by decide +kernel) (pa_cons (pv 0) (pa_cons (pe_bltn (v := .ty "int") (by rfl) T.int boot_int rfl) pa_nil))) (pe_one (pe_not (pe_callB call_isi (by rfl) T.isinstance (by decide +kernel) (pa_cons (pv 0) (pa_cons (pe_bltn (v := .ty "bool") (by rfl) T.bool boot_bool rfl) pa_nil)))))))), ?_⟩
  rintro _ _ ⟨x, rfl, rfl⟩
  exact xr_ret (xs_ret (ed_and (ed_isi (ed_var rfl)) fun _ => ed_not (ed_isi (ed_var rfl))))
abbrev s_is_count : Stmt := topS 9
def R_is_count : List PyData → PyData → Prop := fun ds d => ∃ x, ds = [x] ∧ d = .bool (isCount x)
theorem f_is_count (a : At K mg "is_count" s_is_count) (c_is_whole : Fc P w K mg base "is_whole" ["value"] 1 (SpR K R_is_whole)) : Fc P w K mg base "is_count" ["value"] 2 (SpR K R_is_count) := by
  have S : FnScope ["value"] ["value"] (defScope s_is_count) := ⟨rfl, rfl, rfl, by decide +kernel, rfl, by decide +kernel, by decide +kernel⟩
  refine fc_mk a S (fun _ _ _ _ _ _ us hl => match us, hl with | [_], _ => rfl) (by rintro _ _ ⟨x, rfl, rfl⟩; rfl) fun f cdv A outer s H E gu hr => ⟨_, (pss_one (ps_ret (pe_and (pe_f c_is_whole gu (hr.mono (by decide)) (by rfl) (pa_cons (pv 0) pa_nil)) (pe_one (pe_cmpR op_ge (pv 0) pe_int (nomark _)))))), ?_⟩
  rintro _ _ ⟨x, rfl, rfl⟩
  cases hx : isWhole x with
  | false =>
    refine xr_ret (xs_ret (ed_is (ed_and (a := false) (b := false) (ed_call (ea_cons (ed_var rfl) ea_nil) ⟨x, rfl, by rw [hx]⟩) (fun z => nomatch z)) ?_))
    cases x <;> first | rfl | exact nomatch (show true = false from hx)
  | true =>
    obtain ⟨i, rfl⟩ := whole_int hx
    exact xr_ret (xs_ret (ed_and (a := true) (b := decide (0 ≤ i)) (ed_call (ea_cons (ed_var rfl) ea_nil) ⟨_, rfl, by rw [hx]⟩) (fun _ => ed_op (ed_var rfl) ed_int r_Ib)))
abbrev s_is_tuple_of : Stmt := topS 10
def R_is_tuple_of : List PyData → PyData → Prop := fun ds d => ∃ (n : Int) (x : PyData), ds = [.int n, x] ∧ d = .bool (isTup n x)
theorem f_is_tuple_of (T : Bl mg) (a : At K mg "is_tuple_of" s_is_tuple_of) : Fc P w K mg base "is_tuple_of" ["many", "value"] 1 (SpR K R_is_tuple_of) := by
  have S : FnScope ["many", "value"] ["many", "value"] (defScope s_is_tuple_of) := ⟨rfl, rfl, rfl, by decide +kernel, rfl, by decide +kernel, by decide +kernel⟩
  refine fc_mk a S (fun _ _ _ _ _ _ us hl => match us, hl with | [_, _], _ => rfl) (by rintro _ _ ⟨n, x, rfl, rfl⟩; rfl) fun f cdv A outer s H E gu hr => ?_
  have hc : (cxOf CX0 P w K mg base ["many", "value"] "is_tuple_of" (defScope s_is_tuple_of) f cdv A outer s H E).nox.calm = true := rfl
  refine ⟨_, (pss_one (ps_ret (pe_and (pe_callB call_isi (by rfl) T.isinstance (by decide +kernel) (pa_cons (pv 1) (pa_cons (pe_bltn (v := .ty "tuple") (by rfl) T.tuple boot_tuple rfl) pa_nil))) (pe_one (pe_cmpR op_eq (pe_callB call_len_seq (by rfl) T.len (by decide +kernel) (pa_cons (pv 1) pa_nil)) (pv 0) (nomark _)))))), ?_⟩
  rintro _ _ ⟨n, x, rfl, rfl⟩
  cases x with
  | tuple ds => exact xr_ret (xs_ret (ed_is (ed_and (ed_isi (ed_var rfl)) fun _ => ed_op (ed_cb (ea_cons (ed_var rfl) ea_nil) rc_lenT) (ed_var rfl) r_eqI) rfl))
  | _ => exact xr_ret (xs_ret (ed_is (ed_and (b := false) (ed_isi (ed_var rfl)) (fun z => nomatch (show false = true from z))) rfl))
abbrev s_fits_room : Stmt := topS 11
def R_fits_room : List PyData → PyData → Prop := fun ds d => ∃ (r : Int) (x : PyData), ds = [.int r, x] ∧ d = .bool (fitsRoom r x)
theorem f_fits_room (a : At K mg "fits_room" s_fits_room) (c_is_count : Fc P w K mg base "is_count" ["value"] 2 (SpR K R_is_count)) : Fc P w K mg base "fits_room" ["rooms", "value"] 3 (SpR K R_fits_room) := by
  have S : FnScope ["rooms", "value"] ["rooms", "value"] (defScope s_fits_room) := ⟨rfl, rfl, rfl, by decide +kernel, rfl, by decide +kernel, by decide +kernel⟩
  refine fc_mk a S (fun _ _ _ _ _ _ us hl => match us, hl with | [_, _], _ => rfl) (by rintro _ _ ⟨n, x, rfl, rfl⟩; rfl) fun f cdv A outer s H E gu hr => ?_
  have hc : (cxOf CX0 P w K mg base ["rooms", "value"] "fits_room" (defScope s_fits_room) f cdv A outer s H E).nox.calm = true := rfl
  refine ⟨_, (pss_one (ps_ret (pe_and (pe_f c_is_count gu (hr.mono (by decide)) (by rfl) (pa_cons (pv 1) pa_nil)) (pe_one (pe_cmpR op_lt (pv 1) (pv 0) (nomark _)))))), ?_⟩
  rintro _ _ ⟨r, x, rfl, rfl⟩
  cases x with
  | int i => exact xr_ret (xs_ret (ed_and (ed_call (ea_cons (ed_var rfl) ea_nil) ⟨_, rfl, rfl⟩) fun _ => ed_op (ed_var rfl) (ed_var rfl) r_Ib))
  | _ => exact xr_ret (xs_ret (ed_is (ed_and (b := false) (ed_call (ea_cons (ed_var rfl) ea_nil) ⟨_, rfl, rfl⟩) (fun z => nomatch (show false = true from z))) rfl))
abbrev s_fits_lights : Stmt := topS 12
def R_fits_lights : List PyData → PyData → Prop := fun ds d => ∃ (r : Int) (x : PyData), ds = [.int r, x] ∧ d = .bool (fitsLights r x)
theorem f_fits_lights (T : Bl mg) (a : At K mg "fits_lights" s_fits_lights) (c_fits_room : Fc P w K mg base "fits_room" ["rooms", "value"] 3 (SpR K R_fits_room)) : Fc P w K mg base "fits_lights" ["rooms", "value"] 4 (SpR K R_fits_lights) := by
  have S : FnScope ["rooms", "value", "ahead", "room"] ["rooms", "value"] (defScope s_fits_lights) := ⟨rfl, rfl, rfl, by decide +kernel, rfl, by decide +kernel, by decide +kernel⟩
  refine fc_mk a S (fun _ _ _ _ _ _ us hl => match us, hl with | [_, _], _ => rfl) (by rintro _ _ ⟨n, x, rfl, rfl⟩; rfl) fun f cdv A outer s H E gu hr => ?_
  have hc : (cxOf CX0 P w K mg base ["rooms", "value", "ahead", "room"] "fits_lights" (defScope s_fits_lights) f cdv A outer s H E).nox.calm = true := rfl
  refine ⟨_, (pss_cons (ps_if (pt_not (pt_val (pe_callB call_isi (by rfl) T.isinstance (by decide +kernel) (pa_cons (pv 1) (pa_cons (pe_bltn (v := .ty "list") (by rfl) T.list boot_list rfl) pa_nil))))) (pss_one (ps_ret pe_bl)) pss_nil)
  (pss_cons (ps_set (i := 2) S.nd rfl (by first | exact Or.inl rfl | exact Or.inr rfl) (pe_un un_neg pe_int))
  (pss_cons (ps_for PassesOwn.never hc (pi_list (pv 1)) (pg_name (i := 3) S.nd rfl (by first | exact Or.inl rfl | exact Or.inr rfl))
    (pss_cons (ps_if (PW.pt (pw_or (pt_not (pt_val (pe_f c_fits_room gu (hr.mono (by decide)) (by rfl) (pa_cons (pv 0) (pa_cons (pv 3) pa_nil))))) (pw_or1 (pt_cmpR op_le (pv 3) (pv 2) (nomark _))))) (pss_one (ps_ret pe_bl)) pss_nil)
  (pss_one (ps_set (i := 2) S.nd rfl (by first | exact Or.inl rfl | exact Or.inr rfl) (pv 3)))))
  (pss_one (ps_ret pe_bl))))), ?_⟩
  rintro _ _ ⟨r, x, rfl, rfl⟩
  cases x with
  | list es =>
    refine xr_ret (xs_seq (xs_if (et_not (et_B (ed_isi (ed_var rfl)))) (fun z => nomatch (show false = true from z)) fun _ => xs_next) (xs_seq (xs_asg ed_neg1) ?_))
    -- the loop: either an item is refused, or all rise
    show XS K _ [some (.int r), some (.list es), some (.int (-1)), none] _
    have key : ∀ (ds : List PyData) (a : Int) (o : Option PyData), (asc r a ds = true → ∃ b o', XF K (gName 3) (tSeq (tIfS (tOr (tNot (tB (tCall (SpR K R_fits_room) [] E0 (tCons (tVar 0) (tCons (tVar 3) tNil))))) (tTest (tOp (rI0 fun i j => .bl (decide (i ≤ j))) (tVar 3) (tVar 2)))) (tRet (tC (.bl false))) tNext) (tAsg (tVar 3) (gName 2))) ds [some (.int r), some (.list es), some (.int a), o] (.nx [some (.int r), some (.list es), some (.int b), o'])) ∧
        (asc r a ds = false → XF K (gName 3) (tSeq (tIfS (tOr (tNot (tB (tCall (SpR K R_fits_room) [] E0 (tCons (tVar 0) (tCons (tVar 3) tNil))))) (tTest (tOp (rI0 fun i j => .bl (decide (i ≤ j))) (tVar 3) (tVar 2)))) (tRet (tC (.bl false))) tNext) (tAsg (tVar 3) (gName 2))) ds [some (.int r), some (.list es), some (.int a), o] (.ret (.bool false))) := by
      intro ds
      induction ds with
      | nil => exact fun a o => ⟨fun _ => ⟨a, o, .nil⟩, fun z => nomatch (show true = false from z)⟩
      | cons x ds ih =>
        intro a o
        cases x with
        | int i =>
          have e : asc r a (.int i :: ds) = ((decide (0 ≤ i) && decide (i < r)) && (decide (a < i) && asc r i ds)) := rfl
          have t1 : ET K (tNot (tB (tCall (SpR K R_fits_room) [] E0 (tCons (tVar 0) (tCons (tVar 3) tNil))))) [some (.int r), some (.list es), some (.int a), some (.int i)] (!(decide (0 ≤ i) && decide (i < r))) :=
            et_not (et_B (ed_call (ea_cons (ed_var rfl) (ea_cons (ed_var rfl) ea_nil)) ⟨_, _, rfl, rfl⟩))
          have t2 : ET K (tTest (tOp (rI0 fun i j => .bl (decide (i ≤ j))) (tVar 3) (tVar 2))) [some (.int r), some (.list es), some (.int a), some (.int i)] (decide (i ≤ a)) := et_test (ed_op (ed_var rfl) (ed_var rfl) r_Ib)
          have t3 := et_or t1 (fun _ => t2)
          cases h1 : (decide (0 ≤ i) && decide (i < r)) with
          | false =>
            rw [h1] at e t3
            refine ⟨(fun z => nomatch (e.symm.trans z)), fun _ => .ret tg_name (xs_leave (xs_if t3 (fun _ => xs_ret ed_bl) (fun z => nomatch (show true = false from z))) trivial)⟩
          | true =>
            rw [h1] at e t3
            by_cases h2 : a < i
            · have e2 : decide (i ≤ a) = false := decide_eq_false (by omega)
              rw [decide_eq_true h2] at e
              rw [e2] at t3
              obtain ⟨k1, k2⟩ := ih i (some (.int i))
              refine ⟨fun z => ?_, fun z => ?_⟩
              · obtain ⟨b, o', f⟩ := k1 (e.symm.trans z)
                exact ⟨b, o', .go tg_name (xs_seq (xs_if t3 (fun z => nomatch (show false = true from z)) (fun _ => xs_next)) (xs_asg (ed_var rfl))) f⟩
              · exact .go tg_name (xs_seq (xs_if t3 (fun z => nomatch (show false = true from z)) (fun _ => xs_next)) (xs_asg (ed_var rfl))) (k2 (e.symm.trans z))
            · have e2 : decide (i ≤ a) = true := decide_eq_true (by omega)
              rw [decide_eq_false h2] at e
              rw [e2] at t3
              refine ⟨(fun z => nomatch (e.symm.trans z)), fun _ => .ret tg_name (xs_leave (xs_if t3 (fun _ => xs_ret ed_bl) (fun z => nomatch (show true = false from z))) trivial)⟩
        | _ =>
          refine ⟨(fun z => nomatch (show false = true from z)), fun _ => .ret tg_name (xs_leave (xs_if (et_or (b := true) (et_not (et_B (ed_call (ea_cons (ed_var rfl) (ea_cons (ed_var rfl) ea_nil)) ⟨_, _, rfl, rfl⟩))) (fun z => nomatch (show true = false from z))) (fun _ => xs_ret ed_bl) (fun z => nomatch (show true = false from z))) trivial)⟩
    obtain ⟨k1, k2⟩ := key es (-1) none
    cases h : asc r (-1) es with
    | true =>
      obtain ⟨b, o', f⟩ := k1 h
      refine xs_seq (xs_forL (ed_var rfl) f) (xs_is (xs_ret ed_bl) ?_)
      show Out.ret (.bool true) = Out.ret (.bool (asc r (-1) es))
      rw [h]
    | false =>
      refine xs_leave (xs_is (xs_forL (ed_var rfl) (k2 h)) ?_) trivial
      show Out.ret (.bool false) = Out.ret (.bool (asc r (-1) es))
      rw [h]
  | _ => exact xr_ret (xs_leave (xs_if (et_not (et_B (ed_isi (ed_var rfl)))) (fun _ => xs_ret ed_bl) (fun z => nomatch (show true = false from z))) trivial)
abbrev s_fits_presses : Stmt := topS 13
def R_fits_presses : List PyData → PyData → Prop := fun ds d => ∃ (r : Int) (x : PyData), ds = [.int r, x] ∧ Sm x ∧ d = .bool (fitsPresses r x)
theorem f_fits_presses (T : Bl mg) (a : At K mg "fits_presses" s_fits_presses) (c_fits_lights : Fc P w K mg base "fits_lights" ["rooms", "value"] 4 (SpR K R_fits_lights)) : Fc P w K mg base "fits_presses" ["rooms", "value"] 5 (SpR K R_fits_presses) := by
  have S : FnScope ["rooms", "value", "lights"] ["rooms", "value"] (defScope s_fits_presses) := ⟨rfl, rfl, rfl, by decide +kernel, rfl, by decide +kernel, by decide +kernel⟩
  refine fc_mk a S (fun _ _ _ _ _ _ us hl => match us, hl with | [_, _], _ => rfl) (by rintro _ _ ⟨r, x, rfl, _⟩; rfl) fun f cdv A outer s H E gu hr => ?_
  have hc : (cxOf CX0 P w K mg base ["rooms", "value", "lights"] "fits_presses" (defScope s_fits_presses) f cdv A outer s H E).nox.calm = true := rfl
  refine ⟨_, (pss_one (ps_ret (pe_and (pe_callB call_isi (by rfl) T.isinstance (by decide +kernel) (pa_cons (pv 1) (pa_cons (pe_bltn (v := .ty "list") (by rfl) T.list boot_list rfl) pa_nil))) (pe_one (pe_callB (cr_all hc) (by rfl) T.all (by decide +kernel) (pa_cons (pe_lc (own := [("lights", 2)]) hc S.nd (pi_list (pv 1)) (blkOk_by (N := ["rooms", "value", "lights"]) (sc := defScope s_fits_presses) (by decide +kernel)) (fun _ _ _ _ _ => (pg_name (i := 2) S.nd rfl (by first | exact Or.inl rfl | exact Or.inr rfl))) (fun _ _ _ _ _ => pts_nil) (fun _ _ _ _ _ => (pe_f c_fits_lights gu (hr.mono (by decide)) (by rfl) (pa_cons (pv 0) (pa_cons (pv 2) pa_nil))))) pa_nil)))))), ?_⟩
  rintro _ _ ⟨r, x, rfl, hs, rfl⟩
  cases x with
  | list es => exact xr_ret (xs_ret (ed_is (ed_and (ed_isi (ed_var rfl)) fun _ => ed_allL (fitsLights r) (ed_var rfl) (by decide) (Nat.le_trans (hs es (.inl rfl)) (by decide)) fun d _ => ed_call (ea_cons (ed_var rfl) (ea_cons (ed_var rfl) ea_nil)) ⟨_, _, rfl, rfl⟩) rfl))
  | _ => exact xr_ret (xs_ret (ed_is (ed_and (b := false) (ed_isi (ed_var rfl)) (fun z => nomatch (show false = true from z))) rfl))
/-- the module's constant NEXT -/
structure BN (mg : Str → Option Value) (t0 : Tok) : Prop where
  NEXT : mg "NEXT" = some (.int 1 t0)
def isShiftW (q : Int) : PyData → Bool
  | .int i => decide (-q ≤ i) && decide (i ≤ q)
  | _ => false
def fitsDoorW (q r : Int) : PyData → Bool
  | .tuple [n, m, s] => fitsLights r n && (fitsRoom r m && isShiftW q s)
  | _ => false
theorem fitsDoorW_one (r : Int) (x : PyData) : fitsDoorW 1 r x = fitsDoor r x := by
  cases x with
  | tuple ds => match ds with
    | [n, m, s] =>
      show (fitsLights r n && (fitsRoom r m && isShiftW 1 s)) = (fitsLights r n && (fitsRoom r m && isShift s))
      cases s <;> rfl
    | [] => rfl
    | [_] => rfl
    | [_, _] => rfl
    | _ :: _ :: _ :: _ :: _ => rfl
  | _ => rfl
theorem tup3_of {x : PyData} (h3 : isTup 3 x = true) : ∃ n m q, x = .tuple [n, m, q] := by
  cases x with
  | tuple ds => match ds, h3 with
    | [n, m, q], _ => exact ⟨n, m, q, rfl⟩
    | [], h => exact nomatch (show false = true from h)
    | [_], h => exact nomatch (show false = true from h)
    | [_, _], h => exact nomatch (show false = true from h)
    | _ :: _ :: _ :: _ :: _, h =>
      simp [isTup] at h
      omega
  | _ => exact nomatch (show false = true from h3)
theorem tup2_of {x : PyData} (h2 : isTup 2 x = true) : ∃ n m, x = .tuple [n, m] := by
  cases x with
  | tuple ds => match ds, h2 with
    | [n, m], _ => exact ⟨n, m, rfl⟩
    | [], h => exact nomatch (show false = true from h)
    | [_], h => exact nomatch (show false = true from h)
    | _ :: _ :: _ :: _, h =>
      simp [isTup] at h
      omega
  | _ => exact nomatch (show false = true from h2)
abbrev s_fits_door_within : Stmt := topS 15
def R_fits_door_within : List PyData → PyData → Prop := fun ds d => ∃ (r q : Int) (x : PyData), ds = [.int r, x, .int q] ∧ d = .bool (fitsDoorW q r x)
theorem f_fits_door_within (a : At K mg "fits_door_within" s_fits_door_within) (c_is_tuple_of : Fc P w K mg base "is_tuple_of" ["many", "value"] 1 (SpR K R_is_tuple_of)) (c_fits_lights : Fc P w K mg base "fits_lights" ["rooms", "value"] 4 (SpR K R_fits_lights)) (c_fits_room : Fc P w K mg base "fits_room" ["rooms", "value"] 3 (SpR K R_fits_room)) (c_is_whole : Fc P w K mg base "is_whole" ["value"] 1 (SpR K R_is_whole)) : Fc P w K mg base "fits_door_within" ["rooms", "value", "farthest"] 5 (SpR K R_fits_door_within) := by
  have S : FnScope ["rooms", "value", "farthest", "needs", "room", "shift"] ["rooms", "value", "farthest"] (defScope s_fits_door_within) := ⟨rfl, rfl, rfl, by decide +kernel, rfl, by decide +kernel, by decide +kernel⟩
  refine fc_mk a S (fun _ _ _ _ _ _ us hl => match us, hl with | [_, _, _], _ => rfl) (by rintro _ _ ⟨r, q, x, rfl, _⟩; rfl) fun f cdv A outer s H E gu hr => ?_
  have hc : (cxOf CX0 P w K mg base ["rooms", "value", "farthest", "needs", "room", "shift"] "fits_door_within" (defScope s_fits_door_within) f cdv A outer s H E).nox.calm = true := rfl
  refine ⟨_, (pss_cons (ps_if (pt_not (pt_val (pe_f c_is_tuple_of gu (hr.mono (by decide)) (by rfl) (pa_cons pe_int (pa_cons (pv 1) pa_nil))))) (pss_one (ps_ret pe_bl)) pss_nil)
  (pss_cons (ps_asg (pv 1) (pg_tup hc (pgs_cons (pg_name (i := 3) S.nd rfl (by first | exact Or.inl rfl | exact Or.inr rfl)) (pgs_cons (pg_name (i := 4) S.nd rfl (by first | exact Or.inl rfl | exact Or.inr rfl)) (pgs_cons (pg_name (i := 5) S.nd rfl (by first | exact Or.inl rfl | exact Or.inr rfl)) pgs_nil)))))
  (pss_cons (ps_if (PW.pt (pw_or (pt_not (pt_val (pe_f c_fits_lights gu (hr.mono (by decide)) (by rfl) (pa_cons (pv 0) (pa_cons (pv 3) pa_nil))))) (pw_or1 (pt_not (pt_val (pe_f c_fits_room gu (hr.mono (by decide)) (by rfl) (pa_cons (pv 0) (pa_cons (pv 4) pa_nil)))))))) (pss_one (ps_ret pe_bl)) pss_nil)
  (pss_one (ps_ret (pe_and (pe_f c_is_whole gu (hr.mono (by decide)) (by rfl) (pa_cons (pv 5) pa_nil)) (pe_one (pe_chain op_le op_le (pe_un un_neg (pv 2)) (pv 5) (pv 2) (by with_unfolding_all rfl))))))))), ?_⟩
  rintro _ _ ⟨r, q, x, rfl, rfl⟩
  have no : isTup 3 x = false → fitsDoorW q r x = false := by
    intro h
    cases x with
    | tuple ds => match ds, h with
      | [], _ => rfl
      | [_], _ => rfl
      | [_, _], _ => rfl
      | _ :: _ :: _ :: _ :: _, _ => rfl
      | [_, _, _], h => exact nomatch (show true = false from h)
    | _ => rfl
  cases h3 : isTup 3 x with
  | false => exact xr_ret (xs_leave (xs_if (et_not (a := false) (et_B (ed_call (ea_cons ed_int (ea_cons (ed_var rfl) ea_nil)) ⟨_, _, rfl, by rw [h3]⟩))) (fun _ => xs_is (xs_ret ed_bl) (by rw [no h3])) (fun z => nomatch (show true = false from z))) trivial)
  | true =>
    obtain ⟨n, m, s', rfl⟩ := tup3_of h3
    refine xr_ret (xs_seq (xs_if (et_not (et_B (ed_call (ea_cons ed_int (ea_cons (ed_var rfl) ea_nil)) ⟨_, _, rfl, rfl⟩))) (fun z => nomatch (show false = true from z)) (fun _ => xs_next)) (xs_seq (xs_asgG (ed_var rfl) (tg_tup (tgs_cons tg_name (tgs_cons tg_name (tgs_cons tg_name tgs_nil))))) ?_))
    have t1 : ET K _ [some (.int r), some (.tuple [n, m, s']), some (.int q), some n, some m, some s'] _ := et_or (et_not (et_B (ed_call (K := K) (R := R_fits_lights) (E := E0) (ea_cons (ed_var (i := 0) rfl) (ea_cons (ed_var (i := 3) rfl) ea_nil)) ⟨_, _, rfl, rfl⟩))) fun _ => et_not (et_B (ed_call (K := K) (R := R_fits_room) (E := E0) (ea_cons (ed_var (i := 0) rfl) (ea_cons (ed_var (i := 4) rfl) ea_nil)) ⟨_, _, rfl, rfl⟩))
    have e : fitsDoorW q r (.tuple [n, m, s']) = (fitsLights r n && (fitsRoom r m && isShiftW q s')) := rfl
    cases h1 : fitsLights r n with
    | false =>
      rw [h1] at t1 e
      exact xs_leave (xs_if t1 (fun _ => xs_is (xs_ret ed_bl) (by rw [e]; rfl)) (fun z => nomatch (show true = false from z))) trivial
    | true =>
      cases h2 : fitsRoom r m with
      | false =>
        rw [h1, h2] at t1 e
        exact xs_leave (xs_if t1 (fun _ => xs_is (xs_ret ed_bl) (by rw [e]; rfl)) (fun z => nomatch (show true = false from z))) trivial
      | true =>
        rw [h1, h2] at t1 e
        refine xs_seq (xs_if t1 (fun z => nomatch (show false = true from z)) (fun _ => xs_next)) (xs_ret ?_)
        rw [e]
        cases s' with
        | int i => exact ed_is (ed_and (a := true) (b := decide (-q ≤ i) && decide (i ≤ q)) (ed_call (ea_cons (ed_var (i := 5) rfl) ea_nil) ⟨_, rfl, rfl⟩) fun _ => ed_chain (ed_un (ed_var (i := 2) rfl) r1_neg) (ed_var (i := 5) rfl) r_Ib (fun _ => ed_var (i := 2) rfl) (fun _ => r_Ib)) rfl
        | _ => exact ed_is (ed_and (a := false) (b := false) (ed_call (ea_cons (ed_var (i := 5) rfl) ea_nil) ⟨_, rfl, rfl⟩) (fun z => nomatch z)) rfl
abbrev s_fits_door : Stmt := topS 14
def R_fits_door : List PyData → PyData → Prop := fun ds d => ∃ (r : Int) (x : PyData), ds = [.int r, x] ∧ d = .bool (fitsDoor r x)
theorem f_fits_door {t0 : Tok} (T : BN mg t0) (a : At K mg "fits_door" s_fits_door) (c_fits_door_within : Fc P w K mg base "fits_door_within" ["rooms", "value", "farthest"] 5 (SpR K R_fits_door_within)) : Fc P w K mg base "fits_door" ["rooms", "value"] 6 (SpR K R_fits_door) := by
  have S : FnScope ["rooms", "value"] ["rooms", "value"] (defScope s_fits_door) := ⟨rfl, rfl, rfl, by decide +kernel, rfl, by decide +kernel, by decide +kernel⟩
  refine fc_mk a S (fun _ _ _ _ _ _ us hl => match us, hl with | [_, _], _ => rfl) (by rintro _ _ ⟨r, x, rfl, _⟩; rfl) fun f cdv A outer s H E gu hr => ⟨_, (pss_one (ps_ret (pe_f c_fits_door_within gu (hr.mono (by decide)) (by rfl) (pa_cons (pv 0) (pa_cons (pv 1) (pa_cons (pe_glob (v := .int 1) (by rfl) T.NEXT ⟨_, rfl⟩) pa_nil)))))), ?_⟩
  rintro _ _ ⟨r, x, rfl, rfl⟩
  rw [← fitsDoorW_one]
  exact xr_ret (xs_ret (ed_call (ea_cons (ed_var rfl) (ea_cons (ed_var rfl) (ea_cons ed_int ea_nil))) ⟨_, _, _, rfl, rfl⟩))
/-- a level by what its doors have to be -/
def fitsLevelW2 (g : Int → PyData → Bool) : PyData → PyData → Bool
  | .int r, .list ds => decide (1 ≤ r) && ds.all (g r)
  | _, _ => false
def fitsLevelW (g : Int → PyData → Bool) : PyData → Bool
  | .tuple [a, b] => fitsLevelW2 g a b
  | _ => false
theorem fitsLevelW_door (x : PyData) : fitsLevelW fitsDoor x = fitsLevel x := by
  cases x with
  | tuple ds => match ds with
    | [a, b] => cases a <;> cases b <;> rfl
    | [] => rfl
    | [_] => rfl
    | _ :: _ :: _ :: _ => rfl
  | _ => rfl
def R_one (g : Int → PyData → Bool) : List PyData → PyData → Prop := fun ds d => ∃ (r : Int) (x : PyData), ds = [.int r, x] ∧ d = .bool (g r x)
abbrev s_fits_level_with : Stmt := topS 17
/-- handed the def at one -/
def SpW (K : Fg) (one : Addr) (g : Int → PyData → Bool) : Sp := fun vs H Q _ => ∃ B v x, vs = [v, .ref one] ∧ Ex B H ∧ Da K B v x ∧ (∀ r es, x = .tuple [r, .list es] → es.length ≤ 30000) ∧ ∀ u B' H', Le B H B' H' → Da K B' u (.bool (fitsLevelW g x)) → Q u H'
theorem f_fits_level_with (T : Bl mg) (a : At K mg "fits_level_with" s_fits_level_with) (c_is_tuple_of : Fc P w K mg base "is_tuple_of" ["many", "value"] 1 (SpR K R_is_tuple_of)) (c_is_whole : Fc P w K mg base "is_whole" ["value"] 1 (SpR K R_is_whole)) {one : Addr} {g : Int → PyData → Bool} (hone : CPc P w K mg base 6 one (SpR K (R_one g))) : Fc P w K mg base "fits_level_with" ["value", "fits_one"] 7 (SpW K one g) := by
  have S : FnScope ["value", "fits_one", "rooms", "doors", "door"] ["value", "fits_one"] (defScope s_fits_level_with) := ⟨rfl, rfl, rfl, by decide +kernel, rfl, by decide +kernel, by decide +kernel⟩
  refine fcg_mk a S (fun _ _ _ _ _ _ us hl => match us, hl with | [_, _], _ => rfl) (by rintro _ _ _ _ ⟨_, _, _, rfl, _⟩; rfl) fun f cdv A outer s H vs Q E gu hr h => ?_
  have hc : (cxOf CX0 P w K mg base ["value", "fits_one", "rooms", "doors", "door"] "fits_level_with" (defScope s_fits_level_with) f cdv A outer s H E).nox.calm = true := rfl
  obtain ⟨B, v, x, rfl, sx, dv, hz, q⟩ := h
  refine ⟨_, (pss_cons (ps_if (pt_not (pt_val (pe_f c_is_tuple_of gu (hr.mono (by decide)) (by rfl) (pa_cons pe_int (pa_cons (pv 0) pa_nil))))) (pss_one (ps_ret pe_bl)) pss_nil)
  (pss_cons (ps_asg (pv 0) (pg_tup hc (pgs_cons (pg_name (i := 2) S.nd rfl (by first | exact Or.inl rfl | exact Or.inr rfl)) (pgs_cons (pg_name (i := 3) S.nd rfl (by first | exact Or.inl rfl | exact Or.inr rfl)) pgs_nil))))
  (pss_cons (ps_if (PW.pt (pw_or (pt_not (pt_val (pe_f c_is_whole gu (hr.mono (by decide)) (by rfl) (pa_cons (pv 2) pa_nil)))) (pw_or (pt_cmpR op_lt (pv 2) pe_int (nomark _)) (pw_or1 (pt_not (pt_val (pe_callB call_isi (by rfl) T.isinstance (by decide +kernel) (pa_cons (pv 3) (pa_cons (pe_bltn (v := .ty "list") (by rfl) T.list boot_list rfl) pa_nil))))))))) (pss_one (ps_ret pe_bl)) pss_nil)
  (pss_one (ps_ret (pe_callB (cr_all hc) (by rfl) T.all (by decide +kernel) (pa_cons (pe_lc (own := [("door", 4)]) hc S.nd (pi_list (pv 3)) (blkOk_by (N := ["value", "fits_one", "rooms", "doors", "door"]) (sc := defScope s_fits_level_with) (by decide +kernel)) (fun _ _ _ _ _ => (pg_name (i := 4) S.nd rfl (by first | exact Or.inl rfl | exact Or.inr rfl))) (fun _ _ _ _ _ => pts_nil) (fun _ _ _ _ _ => (pe_callNc (k := 6) (CP := CPc P w K mg base 6) (fun _ _ h => h) gu (hr.mono (by decide)) (i := 1) rfl (by first | exact Or.inl rfl | exact Or.inr (Or.inl rfl) | exact Or.inr (Or.inr rfl)) (pa_cons (pv 2) (pa_cons (pv 4) pa_nil))))) pa_nil))))))), ?_⟩
  have sd : SD K B (L2.start ["value", "fits_one", "rooms", "doors", "door"] [v, .ref one]) [some x, none, none, none, none] := by
    refine ⟨rfl, fun i d e => ?_⟩
    match i, e with
    | 0, e =>
      cases e
      exact ⟨v, rfl, dv⟩
    | 1, e => exact nomatch (show (none : Option PyData) = some d from Option.some.inj e)
    | 2, e => exact nomatch (show (none : Option PyData) = some d from Option.some.inj e)
    | 3, e => exact nomatch (show (none : Option PyData) = some d from Option.some.inj e)
    | 4, e => exact nomatch (show (none : Option PyData) = some d from Option.some.inj e)
    | _ + 5, e => exact nomatch e
  let J : L2.St → Prop := fun σ => σ[1]? = some (some (.ref one))
  have js : J (L2.start ["value", "fits_one", "rooms", "doors", "door"] [v, .ref one]) := rfl
  have no : isTup 2 x = false → fitsLevelW g x = false := by
    intro h
    cases x with
    | tuple ds => match ds, h with
      | [], _ => rfl
      | [_], _ => rfl
      | _ :: _ :: _ :: _, _ => rfl
      | [_, _], h => exact nomatch (show true = false from h)
    | _ => rfl
  cases h2 : isTup 2 x with
  | false =>
    refine (xs_leave (o := .ret (.bool (fitsLevelW g x))) (xs_if (et_not (a := false) (et_B (ed_call (ea_cons ed_int (ea_cons (ed_var (i := 0) rfl) ea_nil)) ⟨_, _, rfl, by rw [h2]⟩))) (fun _ => xs_is (xs_ret ed_bl) (by rw [no h2])) (fun z => nomatch (show true = false from z))) trivial) _ B H _ sx sd q
  | true =>
    obtain ⟨n, m, rfl⟩ := tup2_of h2
    refine xss_seq (J := J) (ρ1 := [some (.tuple [n, m]), none, none, none, none]) (ks_skip (et_not (a := true) (et_B (ed_call (K := K) (R := R_is_tuple_of) (E := E0) (ea_cons (ed_int (i := 2)) (ea_cons (ed_var (i := 0) rfl) ea_nil)) ⟨2, .tuple [n, m], rfl, rfl⟩)))) (o := .ret (.bool (fitsLevelW g (.tuple [n, m])))) ?_ _ js B H _ sx sd q
    refine xss_seq (J := J) (ρ1 := [some (.tuple [n, m]), none, some n, some m, none]) (ks_asg2 (ed_var (i := 0) rfl) (fun σ a b h => by
      show ((σ.set 2 (some a)).set 3 (some b))[1]? = _
      rw [List.getElem?_set_ne (by decide), List.getElem?_set_ne (by decide)]
      exact h)) ?_
    cases hn : isWhole n with
    | false =>
      refine xss_of (xs_leave (xs_if (et_or (a := true) (b := true) (et_is (et_not (et_B (ed_call (ea_cons (ed_var (i := 2) rfl) ea_nil) ⟨_, rfl, rfl⟩))) (by rw [hn]; rfl)) (fun z => nomatch z)) (fun _ => xs_is (xs_ret ed_bl) ?_) (fun z => nomatch (show true = false from z))) trivial)
      cases n <;> first | rfl | exact nomatch (show true = false from hn)
    | true =>
      obtain ⟨r, rfl⟩ := whole_int hn
      have t1 : ET K _ [some (.tuple [.int r, m]), none, some (.int r), some m, none] _ := et_or (et_not (et_B (ed_call (K := K) (R := R_is_whole) (E := E0) (ea_cons (ed_var (i := 2) rfl) ea_nil) ⟨_, rfl, rfl⟩))) fun _ => et_or (et_test (ed_op (ed_var (i := 2) rfl) (ed_int (i := 1)) (r_Ib (g := fun i j => decide (i < j))))) fun _ => et_not (et_B (ed_isi (T := "list") (ed_var (i := 3) rfl)))
      by_cases h1 : r < 1
      · refine xss_of (xs_leave (xs_if (et_is t1 (b := true) ?_) (fun _ => xs_is (xs_ret ed_bl) ?_) (fun z => nomatch (show true = false from z))) trivial)
        · rw [decide_eq_true h1]
          rfl
        · show Out.ret (.bool false) = Out.ret (.bool (fitsLevelW g (.tuple [.int r, m])))
          cases m with
          | list es =>
            show Out.ret (.bool false) = Out.ret (.bool (decide (1 ≤ r) && es.all (g r)))
            rw [decide_eq_false (by omega)]
            rfl
          | _ => rfl
      · rw [decide_eq_false h1] at t1
        cases m with
        | list es =>
          refine xss_seq (J := J) (ks_skip t1) (xss_ret ?_)
          have e : fitsLevelW g (.tuple [.int r, .list es]) = es.all (g r) := by
            show (decide (1 ≤ r) && es.all (g r)) = es.all (g r)
            rw [decide_eq_true (by omega)]
            rfl
          rw [e]
          refine eds_allL (J := J) (g r) (ed_var (i := 3) rfl) (by decide) (Nat.le_trans (hz _ es rfl) (by decide)) (fun σ x h => by
            show ((L2.wipe σ [4]).set 4 (some x))[1]? = _
            rw [List.getElem?_set_ne (by decide)]
            show (σ.set 4 none)[1]? = _
            rw [List.getElem?_set_ne (by decide)]
            exact h) fun d _ => eds_callN hone (ea_cons (ed_var (i := 2) rfl) (ea_cons (ed_var (i := 4) rfl) ea_nil)) ⟨_, _, rfl, rfl⟩
        | _ => exact xss_of (xs_leave (xs_if t1 (fun _ => xs_ret ed_bl) (fun z => nomatch (show true = false from z))) trivial)
abbrev s_fits_level : Stmt := topS 16
def R_fits_level : List PyData → PyData → Prop := fun ds d => ∃ x : PyData, ds = [x] ∧ (∀ r es, x = .tuple [r, .list es] → es.length ≤ 30000) ∧ d = .bool (fitsLevel x)
theorem ed_callW {E : XK} {te : TE} {ρ : En} {one : Addr} {g : Int → PyData → Bool} {x : PyData} (h : ED K te ρ x) (hz : ∀ r es, x = .tuple [r, .list es] → es.length ≤ 30000) : ED K (tCall (SpW K one g) [] E (tCons te (tCons (tC (.ref one)) tNil))) ρ (.bool (fitsLevelW g x)) := fun σ B H s sd Q q =>
  h σ B H s sd _ fun v B1 H1 l1 d1 => ⟨B1, v, x, rfl, l1.sub, d1, hz, fun u B2 H2 l2 d2 => q u B2 H2 (l1.tr l2) d2⟩
theorem f_fits_level {a_fits_door : Addr} (m_fits_door : mg "fits_door" = some (.ref a_fits_door)) (a : At K mg "fits_level" s_fits_level) (c_fits_level_with : Fc P w K mg base "fits_level_with" ["value", "fits_one"] 7 (SpW K a_fits_door fitsDoor)) : Fc P w K mg base "fits_level" ["value"] 8 (SpR K R_fits_level) := by
  have S : FnScope ["value"] ["value"] (defScope s_fits_level) := ⟨rfl, rfl, rfl, by decide +kernel, rfl, by decide +kernel, by decide +kernel⟩
  refine fc_mk a S (fun _ _ _ _ _ _ us hl => match us, hl with | [_], _ => rfl) (by rintro _ _ ⟨x, rfl, _⟩; rfl) fun f cdv A outer s H E gu hr => ⟨_, (pss_one (ps_ret (pe_f c_fits_level_with gu (hr.mono (by decide)) (by rfl) (pa_cons (pv 0) (pa_cons (pe_glob (v := .ref a_fits_door) (by rfl) m_fits_door rfl) pa_nil))))), ?_⟩
  rintro _ _ ⟨x, rfl, hz, rfl⟩
  rw [← fitsLevelW_door]
  exact xr_ret (xs_ret (ed_callW (ed_var rfl) hz))
end
end TD

set_option maxHeartbeats 4000000
namespace TD
open PySem PySem.Spec PyProof.Rows L2
open Evl (Ex)
/-! # what the law draws -/
structure Bg (mg : Str → Option Value) : Prop where
  int : mg "int" = none
  len : mg "len" = none
  max : mg "max" = none
  sum : mg "sum" = none
  range : mg "range" = none
section
variable {X : Cx}
/-- a power of a great number -/
theorem op_powB : OpR X (binaryOp .Pow) (rI (fun i j => i = 10 ^ 60 ∧ j = 10) fun i j => .int (i ^ j.toNat)) := opI fun i j t u s Q E hc q => by
  obtain ⟨rfl, rfl⟩ := hc
  exact PySem.AutoIntOps.pow_4 (by decide) (by decide) (by decide) (by decide) (by decide +kernel) q
end
def rInt1 : List V → Hp → VK → Prop := fun xs H Q => (∃ i, xs = [.int i] ∧ Q (.int i) H) ∨ ∃ k, xs = [.bl k] ∧ Q (.int (if k then 1 else 0)) H
section
variable {P : Program} {w : World} {K : Fg} {mg : Str → Option Value} {base : Heap}
theorem rc_int {i : Int} : RcD K rInt1 [.int i] (.int i) := fun vs B H s h Q q => by
  obtain ⟨v, r, rfl, a, t⟩ := h.inv1
  cases a
  cases t
  exact .inl ⟨i, rfl, q _ B H (Le.rfl' s) (.int _)⟩
def hashV (s i : Int) : Int := ((((s * 1140671 + 27644437 * i * i + 131 * i + 19) % 2147483629) * ((s * 1140671 + 27644437 * i * i + 131 * i + 19) % 2147483629) + 62089 * i + 32416187) % 2147483587) * 48271 % 2147483647
theorem hashV_in (s i : Int) : 0 ≤ hashV s i ∧ hashV s i < 2147483647 := ⟨Int.emod_nonneg _ (by decide), Int.emod_lt_of_pos _ (by decide)⟩
abbrev s__law_hash : Stmt := topS 71
def R__law_hash : List PyData → PyData → Prop := fun ds d => ∃ s i : Int, ds = [.int s, .int i] ∧ (0 ≤ s ∧ s < 2147483647) ∧ (0 ≤ i ∧ i ≤ 1000000000) ∧ d = .int (hashV s i)
theorem f__law_hash (T : Bg mg) (a : At K mg "_law_hash" s__law_hash) : Fc P w K mg base "_law_hash" ["_law_seed", "_law_index"] 1 (SpR K R__law_hash) := by
  have S : FnScope ["_law_seed", "_law_index", "_law_mixed"] ["_law_seed", "_law_index"] (defScope s__law_hash) := ⟨rfl, rfl, rfl, by decide +kernel, rfl, by decide +kernel, by decide +kernel⟩
  refine fc_mk a S (fun _ _ _ _ _ _ us hl => match us, hl with | [_, _], _ => rfl) (by rintro _ _ ⟨s, i, rfl, _⟩; rfl) fun f cdv A outer s H E gu hr => ⟨_, (pss_cons (ps_set (i := 2) S.nd rfl (by first | exact Or.inl rfl | exact Or.inr rfl) (pe_op op_mod (pe_callTy call_int1 (by rfl) T.int (by decide +kernel) (pa_cons (pe_op op_add (pe_op op_add (pe_op op_add (pe_op op_mul (pv 0) pe_int) (pe_op op_mul (pe_op op_mul pe_int (pv 1)) (pv 1))) (pe_op op_mul pe_int (pv 1))) pe_int) pa_nil)) pe_int))
  (pss_cons (ps_set (i := 2) S.nd rfl (by first | exact Or.inl rfl | exact Or.inr rfl) (pe_op op_mod (pe_callTy call_int1 (by rfl) T.int (by decide +kernel) (pa_cons (pe_op op_add (pe_op op_add (pe_op op_mul (pv 2) (pv 2)) (pe_op op_mul pe_int (pv 1))) pe_int) pa_nil)) pe_int))
  (pss_one (ps_ret (pe_op op_mod (pe_callTy call_int1 (by rfl) T.int (by decide +kernel) (pa_cons (pe_op op_mul (pv 2) pe_int) pa_nil)) pe_int))))), ?_⟩
  rintro _ _ ⟨s, i, rfl, hs, hi, rfl⟩
  have m1 : ∀ {x y : Int}, (-(2 ^ 64) < x ∧ x < 2 ^ 64) → CMul x y := fun h => .inl h
  have m2 : ∀ {x y : Int}, (-(2 ^ 64) < y ∧ y < 2 ^ 64) → CMul x y := fun h => .inr h
  have q1 := Int.emod_nonneg (s * 1140671 + 27644437 * i * i + 131 * i + 19) (show (2147483629 : Int) ≠ 0 by decide)
  have q2 := Int.emod_lt_of_pos (s * 1140671 + 27644437 * i * i + 131 * i + 19) (show (0 : Int) < 2147483629 by decide)
  have i64 : -(2 ^ 64) < i ∧ i < 2 ^ 64 := ⟨by omega, by omega⟩
  refine xr_ret (xs_seq (xs_asg (ed_op (ed_cb (ea_cons (ed_op (ed_op (ed_op (ed_op (ed_var rfl) ed_int (r_IC (m2 (by decide)))) (ed_op (ed_op ed_int (ed_var rfl) (r_IC (m1 (by decide)))) (ed_var rfl) (r_IC (m2 i64))) r_Ii) (ed_op ed_int (ed_var rfl) (r_IC (m1 (by decide)))) r_Ii) ed_int r_Ii) ea_nil) rc_int) ed_int (r_IC (show (0 : Int) < _ by decide)))) ?_)
  refine xs_seq (xs_asg (ed_op (ed_cb (ea_cons (ed_op (ed_op (ed_op (ed_var rfl) (ed_var rfl) (r_IC (m1 ⟨by omega, by omega⟩))) (ed_op ed_int (ed_var rfl) (r_IC (m1 (by decide)))) r_Ii) ed_int r_Ii) ea_nil) rc_int) ed_int (r_IC (show (0 : Int) < _ by decide)))) ?_
  exact xs_ret (ed_op (ed_cb (ea_cons (ed_op (ed_var rfl) ed_int (r_IC (m2 (by decide)))) ea_nil) rc_int) ed_int (r_IC (show (0 : Int) < _ by decide)))
/-! ## the generator asked once -/
theorem bits_le {m : Int} (h : 1 ≤ m ∧ m ≤ 10 ^ 30) : Builtin.Int.intBits m ≤ 100 := intBits_le_iff.mpr (by
  have : m.natAbs ≤ 10 ^ 30 := by omega
  exact Nat.lt_of_le_of_lt this (by decide))
def preRnd : List PyData → Prop := fun ds => ∃ m : Int, ds = [.int m] ∧ 1 ≤ m ∧ m ≤ 10 ^ 30
def R_rnd : List PyData → PyData → Prop := fun ds d => ∃ m i : Int, ds = [.int m] ∧ d = .int i ∧ 0 ≤ i ∧ i < m
abbrev s__law_random : Stmt := topS 72
theorem f__law_random (T : Bg mg) (a : At K mg "_law_random" s__law_random) (c__law_hash : Fc P w K mg base "_law_hash" ["_law_seed", "_law_index"] 1 (SpR K R__law_hash)) : Fc P w K mg base "_law_random" ["_law_generator_here", "_law_bound"] 2 (SpG K 5 preRnd R_rnd) := by
  have S : FnScope ["_law_generator_here", "_law_bound", "_law_drawn", "_law_turn"] ["_law_generator_here", "_law_bound"] (defScope s__law_random) := ⟨rfl, rfl, rfl, by decide +kernel, rfl, by decide +kernel, by decide +kernel⟩
  obtain ⟨f, fd, F, hm⟩ := a
  refine ⟨f, fd, hm, F.kp, F.binds (fun _ _ _ _ _ _ us hl => match us, hl with | [_, _], _ => rfl), fnG F S ?_ ?_⟩
  · rintro vs H Q E ⟨g, ws, B, ds, n, rfl, _, _, _, hd, ⟨m, rfl, _⟩, _⟩
    have e := hd.len
    simp at e ⊢
    exact e
  intro cdv A outer s H vs Q E gu hr ⟨g, ws, B, ds, n, ev, sx, hg, ga, hd, ⟨m, ed, hm1, hm2⟩, q⟩
  subst ev ed
  obtain ⟨v, r, rfl, dv, dr⟩ := hd.inv1
  cases dv
  cases dr
  have hc : (cxOf CX0 P w K mg base ["_law_generator_here", "_law_bound", "_law_drawn", "_law_turn"] "_law_random" (defScope s__law_random) f cdv A outer s H E).nox.calm = true := rfl
  suffices h : ∃ t, PSs (cxOf CX0 P w K mg base ["_law_generator_here", "_law_bound", "_law_drawn", "_law_turn"] "_law_random" (defScope s__law_random) f cdv A outer s H E).nox (defBody s__law_random) t ∧ t { nx := fun _ H' => Q .non H', rt := Q } (L2.start ["_law_generator_here", "_law_bound", "_law_drawn", "_law_turn"] [.ref g, .int m]) H by
    obtain ⟨t, h1, h2⟩ := h
    exact ⟨t, h1.nox, h2⟩
  refine ⟨_, (pss_cons (ps_if (pt_cmpR op_gt (pe_ix ix_list (pv 0) pe_int (fun _ _ => rfl)) pe_int (nomark _)) (pss_cons (ps_set (i := 2) S.nd rfl (by first | exact Or.inl rfl | exact Or.inr rfl) (pe_op op_mod (pe_callTy call_int1 (by rfl) T.int (by decide +kernel) (pa_cons (pe_ix ix_list (pv 0) pe_int (fun _ _ => rfl)) pa_nil)) (pv 1)))
  (pss_cons (ps_asg (pe_op op_fdivW (pe_ix ix_list (pv 0) pe_int (fun _ _ => rfl)) (pv 1)) (pg_sub (pv 0) pe_int set_list))
  (pss_one (ps_ret (pv 2))))) pss_nil)
  (pss_cons (ps_set (i := 2) S.nd rfl (by first | exact Or.inl rfl | exact Or.inr rfl) pe_int)
  (pss_cons (ps_for PassesOwn.never hc (pi_range1 (by rfl) T.range (pa_cons (pe_op op_add pe_int (pe_op op_fdiv (pe_bits (pv 1)) pe_int)) pa_nil)) (pg_name (i := 3) S.nd rfl (by first | exact Or.inl rfl | exact Or.inr rfl))
    (pss_cons (ps_asg (pe_op op_add (pe_ix ix_list (pv 0) pe_int (fun _ _ => rfl)) pe_int) (pg_sub (pv 0) pe_int set_list))
  (pss_one (ps_set (i := 2) S.nd rfl (by first | exact Or.inl rfl | exact Or.inr rfl) (pe_op op_add (pe_op op_mul (pv 2) pe_int) (pe_f c__law_hash gu (hr.mono (by decide)) (by rfl) (pa_cons (pe_ix ix_list (pv 0) pe_int (fun _ _ => rfl)) (pa_cons (pe_ix ix_list (pv 0) pe_int (fun _ _ => rfl)) pa_nil))))))))
  (pss_one (ps_ret (pe_op op_mod (pe_callTy call_int1 (by rfl) T.int (by decide +kernel) (pa_cons (pv 2) pa_nil)) (pv 1))))))), ?_⟩
  obtain ⟨a, b, c, eg, ha, hb, hc0, hcn⟩ := ga
  have ex0 : ∀ (x y z : Int) (H' : Hp), (∀ p o, p ≠ g → H p = some o → H' p = some o) → H' g = some (.lst [.int x, .int y, .int z]) → 0 ≤ x → (0 ≤ y ∧ y < 2147483647) → 0 ≤ z → z + (n : Int) ≤ 1000000000 → ∀ i : Int, 0 ≤ i → i < m → Q (.int i) H' := by
    intro x y z H' k e h1 h2 h3 h4 i h5 h6
    refine q (.int i) (.int i) B H' ⟨k, Ex.refl B, fun p o hp => ?_, fun _ h _ => h⟩ ⟨x, y, z, e, h1, h2, h3, h4⟩ (.int i) ⟨m, i, rfl, rfl, h5, h6⟩
    have np : p ≠ g := fun z => by
      rw [z, hg] at hp
      cases hp
    exact k p o np (sx p o hp)
  have mlog : m.natAbs.log2 < 9000 := by
    have h1 : m.natAbs < 2 ^ 100 := Nat.lt_of_le_of_lt (show m.natAbs ≤ 10 ^ 30 by omega) (by decide)
    exact Nat.lt_of_lt_of_le (PySem.Flt.log2_lt_of (by decide) h1) (by decide)
  -- if generator[0] > 0
  refine ⟨.ref g, rfl, g, _, 0, .int a, rfl, rfl, SqL.of eg, atI_nat (j := 0) rfl, a, 0, rfl, rfl, _, rfl, ite2 (fun h => ?_) (fun h => ?_)⟩
  · have h0 := of_decide_eq_true h
    refine ⟨.ref g, rfl, g, _, 0, .int a, rfl, rfl, SqL.of eg, atI_nat (j := 0) rfl, .inl ⟨a, rfl, .int m, rfl, a, m, rfl, rfl, (show (0 : Int) < m by omega), ?_⟩⟩
    refine ⟨.ref g, rfl, g, _, 0, .int a, rfl, rfl, SqL.of eg, atI_nat (j := 0) rfl, .int m, rfl, a, m, rfl, rfl, ⟨by omega, mlog⟩, .ref g, rfl, g, _, 0, 0, rfl, rfl, eg, rfl, ?_⟩
    refine ⟨.int (a % m), rfl, ?_⟩
    exact ex0 (a / m) b c _ (fun p o np e => by rw [upd_ne np]; exact e) upd_same (Int.ediv_nonneg ha (by omega)) hb hc0 (by omega) _ (Int.emod_nonneg _ (by omega)) (Int.emod_lt_of_pos _ (by omega))
  · -- the hash's turns
    have hbits := bits_le ⟨hm1, hm2⟩
    have hl : (0 : Int) ≤ (Builtin.Int.intBits m : Int) / 30 ∧ (Builtin.Int.intBits m : Int) / 30 ≤ 3 := by omega
    generalize hk : (Builtin.Int.intBits m : Int) / 30 = k at hl
    refine ⟨.int m, rfl, m, rfl, _, 30, rfl, rfl, ⟨by decide, by decide⟩, 1, _, rfl, rfl, _, rfl, ?_, ?_, ?_⟩
    · rw [hk]
      omega
    · rw [hk]
      omega
    rw [hk]
    refine for_range (lo := 0) (n := (1 + k).toNat) (fun i σ' H' => ∃ (dr c' : Int) (o : Option V), σ' = [some (.ref g), some (.int m), some (.int dr), o] ∧ H' g = some (.lst [.int a, .int b, .int c']) ∧ (0 ≤ c' ∧ c' ≤ c + (i : Int)) ∧ ∀ p o, p ≠ g → H p = some o → H' p = some o)
      ⟨0, c, none, rfl, eg, ⟨hc0, by omega⟩, fun p o _ e => e⟩ ?_ ?_
    · rintro i σ' H' hi ⟨dr, c', o, rfl, e, hc', kp⟩
      have e1 : (upd H' g (.lst [.int a, .int b, .int (c' + 1)])) g = some (.lst [.int a, .int b, .int (c' + 1)]) := upd_same
      refine ⟨.ref g, rfl, g, _, 2, .int c', rfl, rfl, SqL.of e, atI_nat (j := 2) rfl, c', 1, rfl, rfl, .ref g, rfl, g, _, 2, 2, rfl, rfl, e, rfl, ?_⟩
      refine ⟨.int dr, rfl, dr, _, rfl, rfl, .inr (by decide), .ref g, rfl, g, _, 1, .int b, rfl, rfl, SqL.of e1, atI_nat (j := 1) rfl, .ref g, rfl, g, _, 2, .int (c' + 1), rfl, rfl, SqL.of e1, atI_nat (j := 2) rfl, ?_⟩
      refine ⟨_, [.int b, .int (c' + 1)], .int (hashV b (c' + 1)), Ex.refl _, .cons (.int _) (.cons (.int _) .nil), ⟨b, c' + 1, rfl, hb, ⟨by omega, by omega⟩, rfl⟩, ?_⟩
      intro v B3 H3 l3 d3
      cases d3
      refine ⟨_, _, rfl, rfl, _, c' + 1, _, rfl, l3.ex g _ e1, ⟨by omega, by omega⟩, fun p o np z => l3.ex p o ?_⟩
      rw [upd_ne np]
      exact kp p o np z
    · rintro σ' H' ⟨dr, c', o, rfl, e, hc', kp⟩
      refine ⟨.int dr, rfl, .inl ⟨dr, rfl, .int m, rfl, dr, m, rfl, rfl, (show (0 : Int) < m by omega), ?_⟩⟩
      exact ex0 a b c' _ kp e ha hb hc'.1 (by omega) _ (Int.emod_nonneg _ (by omega)) (Int.emod_lt_of_pos _ (by omega))
/-! ## the seed, the generator -/
abbrev s__law_cell : Stmt := topS 73
def spCell (K : Fg) : Sp := fun vs H Q _ => ∃ (s : Addr) (ns : List Int) (i : Int), vs = [.ref s, .int i] ∧ SqL K H s (ns.map V.int) ∧ 0 ≤ i ∧ i ≤ 1000 ∧ ∀ (z : Int) H', Ex H H' → Q (.int z) H'
theorem f__law_cell (T : Bg mg) (a : At K mg "_law_cell" s__law_cell) : Fc P w K mg base "_law_cell" ["_law_script", "_law_index"] 1 (spCell K) := by
  have S : FnScope ["_law_script", "_law_index"] ["_law_script", "_law_index"] (defScope s__law_cell) := ⟨rfl, rfl, rfl, by decide +kernel, rfl, by decide +kernel, by decide +kernel⟩
  obtain ⟨f, fd, F, hm⟩ := a
  refine ⟨f, fd, hm, F.kp, F.binds (fun _ _ _ _ _ _ us hl => match us, hl with | [_, _], _ => rfl), fnG F S ?_ ?_⟩
  · rintro vs H Q E ⟨s, ns, i, rfl, _⟩
    rfl
  intro cdv A outer s H vs Q E gu hr ⟨sc, ns, i, ev, hS, h0, h1, q⟩
  subst ev
  have hc : (cxOf CX0 P w K mg base ["_law_script", "_law_index"] "_law_cell" (defScope s__law_cell) f cdv A outer s H E).nox.calm = true := rfl
  suffices h : ∃ t, PSs (cxOf CX0 P w K mg base ["_law_script", "_law_index"] "_law_cell" (defScope s__law_cell) f cdv A outer s H E).nox (defBody s__law_cell) t ∧ t { nx := fun _ H' => Q .non H', rt := Q } (L2.start ["_law_script", "_law_index"] [.ref sc, .int i]) H by
    obtain ⟨t, h1, h2⟩ := h
    exact ⟨t, h1.nox, h2⟩
  refine ⟨_, (pss_cons (ps_if (pt_cmpR op_lt (pv 1) (pe_callB call_len_seq (by rfl) T.len (by decide +kernel) (pa_cons (pv 0) pa_nil)) (nomark _)) (pss_one (ps_ret (pe_ix ix_list (pv 0) (pv 1) (fun _ _ => rfl)))) pss_nil)
  (pss_one (ps_ret (pe_op op_mod (pe_callB (cr_sum hc) (by rfl) T.sum (by decide +kernel) (pa_cons (pe_slice sl_list (pv 0) po_none (po_some pe_int)) pa_nil)) pe_int)))), ?_⟩
  refine ⟨.int i, rfl, .ref sc, rfl, sc, _, rfl, .inl hS, i, _, rfl, rfl, _, rfl, ite2 (fun h => ?_) (fun h => ?_)⟩
  · have hi := of_decide_eq_true h
    rw [List.length_map] at hi
    obtain ⟨j, rfl⟩ : ∃ j : Nat, i = j := ⟨i.toNat, by omega⟩
    have hj : j < ns.length := by omega
    have e : (ns.map V.int)[j]? = some (.int ns[j]) := by
      rw [List.getElem?_map, List.getElem?_eq_getElem hj]
      rfl
    exact ⟨.ref sc, rfl, .int j, rfl, sc, _, j, _, rfl, rfl, hS, atI_nat e, q _ H (Ex.refl H)⟩
  · refine ⟨.ref sc, rfl, 1, rfl, sc, _, rfl, hS, fun p hp => ?_⟩
    have e : cutV (ns.map V.int) none (some 1) = (ns.take 1).map V.int := by
      rw [List.map_take]
      unfold cutV
      rw [show HT.sIx (ns.map V.int).length 0 none = 0 from HT.sIx_none _ _, show HT.sIx (ns.map V.int).length (ns.map V.int).length (some 1) = min 1 (ns.map V.int).length from HT.sIx_nat _ _ 1]
      simp
    refine ⟨p, ns.take 1, rfl, SqL.of (by rw [upd_same, e]), _, 1000003, rfl, rfl, (show (0 : Int) < 1000003 by decide), ?_⟩
    exact q _ _ (Ex.new hp)
abbrev s__law_generator : Stmt := topS 74
def spGen (K : Fg) : Sp := fun vs H Q _ => ∃ (s : Addr) (ns : List Int) (i : Int), vs = [.ref s, .int i] ∧ SqL K H s (ns.map V.int) ∧ 0 ≤ i ∧ i ≤ 1000 ∧ ∀ (g : Addr) H', H g = none → Ex H H' → GenAt g 900000000 H' → Q (.ref g) H'
theorem f__law_generator (T : Bg mg) (a : At K mg "_law_generator" s__law_generator) (c__law_cell : Fc P w K mg base "_law_cell" ["_law_script", "_law_index"] 1 (spCell K)) : Fc P w K mg base "_law_generator" ["_law_script", "_law_index"] 2 (spGen K) := by
  have S : FnScope ["_law_script", "_law_index", "_law_seed"] ["_law_script", "_law_index"] (defScope s__law_generator) := ⟨rfl, rfl, rfl, by decide +kernel, rfl, by decide +kernel, by decide +kernel⟩
  obtain ⟨f, fd, F, hm⟩ := a
  refine ⟨f, fd, hm, F.kp, F.binds (fun _ _ _ _ _ _ us hl => match us, hl with | [_, _], _ => rfl), fnG F S ?_ ?_⟩
  · rintro vs H Q E ⟨s, ns, i, rfl, _⟩
    rfl
  intro cdv A outer s H vs Q E gu hr ⟨sc, ns, i, ev, hS, h0, h1, q⟩
  subst ev
  have hc : (cxOf CX0 P w K mg base ["_law_script", "_law_index", "_law_seed"] "_law_generator" (defScope s__law_generator) f cdv A outer s H E).nox.calm = true := rfl
  suffices h : ∃ t, PSs (cxOf CX0 P w K mg base ["_law_script", "_law_index", "_law_seed"] "_law_generator" (defScope s__law_generator) f cdv A outer s H E).nox (defBody s__law_generator) t ∧ t { nx := fun _ H' => Q .non H', rt := Q } (L2.start ["_law_script", "_law_index", "_law_seed"] [.ref sc, .int i]) H by
    obtain ⟨t, h1, h2⟩ := h
    exact ⟨t, h1.nox, h2⟩
  refine ⟨_, (pss_cons (ps_set (i := 2) S.nd rfl (by first | exact Or.inl rfl | exact Or.inr rfl) (pe_f c__law_cell gu (hr.mono (by decide)) (by rfl) (pa_cons (pv 0) (pa_cons (pv 1) pa_nil))))
  (pss_one (ps_ret (pe_lst (pa_cons (pe_op op_mod (pe_callTy call_int1 (by rfl) T.int (by decide +kernel) (pa_cons (pe_callB (call_max2 hc) (by rfl) T.max (by decide +kernel) (pa_cons (pe_op op_sub (pv 2) (pe_op op_pow pe_int pe_int)) (pa_cons pe_int pa_nil))) pa_nil)) (pe_op op_powB (pe_op op_pow pe_int pe_int) pe_int)) (pa_cons (pe_op op_mod (pe_callTy call_int1 (by rfl) T.int (by decide +kernel) (pa_cons (pv 2) pa_nil)) pe_int) (pa_cons (pe_op op_mul pe_int (pv 1)) pa_nil))))))), ?_⟩
  refine ⟨.ref sc, rfl, .int i, rfl, sc, ns, i, rfl, hS, h0, h1, fun z H1 e1 => ?_⟩
  have pos : (0 : Int) < (10 ^ 60) ^ Int.toNat 10 := by decide +kernel
  refine ⟨.int z, rfl, 10, 18, rfl, rfl, ⟨by decide, by decide, by decide⟩, z, _, rfl, rfl, _, 0, rfl, .inl ⟨_, rfl, 10, 60, rfl, rfl, ⟨by decide, by decide, by decide⟩, _, 10, rfl, rfl, ⟨rfl, rfl⟩, _, _, rfl, rfl, pos, ?_⟩⟩
  refine ⟨.int z, rfl, .inl ⟨z, rfl, z, 2147483647, rfl, rfl, (show (0 : Int) < 2147483647 by decide), .int i, rfl, 1000, i, rfl, rfl, .inl ⟨by decide, by decide⟩, by show 3 ≤ sizeLine; decide, fun g hg => ?_⟩⟩
  refine q g _ (Evl.fresh_back e1 hg) (e1.trans (Ex.new hg)) ⟨_, _, _, upd_same, Int.emod_nonneg _ (Int.ne_of_gt pos), ⟨Int.emod_nonneg _ (by decide), Int.emod_lt_of_pos _ (by decide)⟩, by omega, by omega⟩
end
end TD

set_option maxHeartbeats 4000000
namespace TD
open PySem PySem.Spec PyProof.Rows L2
open Evl (Ex)
/-! # what the program refuses -/
/-- a level that fits, of a size that is looked through -/
def Lv (x : PyData) (r : Int) : Prop := ∃ es, x = .tuple [.int r, .list es] ∧ es.length ≤ 30000 ∧ fitsLevel x = true
theorem Lv.sz {x : PyData} {r : Int} (h : Lv x r) : ∀ r' es, x = .tuple [r', .list es] → es.length ≤ 30000 := by
  obtain ⟨es, rfl, h1, h2⟩ := h
  intro r' es' e
  injection e with e
  injection e with _ e
  injection e with e _
  injection e with e
  exact e ▸ h1
theorem Lv.fits {x : PyData} {r : Int} (h : Lv x r) : fitsLevel x = true := let ⟨_, _, _, q⟩ := h; q
theorem sz_lv {x : PyData} (h : szOk x = true) : ∀ r es, x = .tuple [r, .list es] → es.length ≤ 30000 := by
  rintro r es rfl
  have z := (sz_list ((sz_tup h).2 (.list es) (by simp))).1
  omega
structure Ad4 where
  Number : Addr
  Level : Addr
  Presses : Addr
  Room : Addr
structure Ck4 (P : Program) (w : World) (K : Fg) (mg : Str → Option Value) (base : Heap) (A : Ad4) : Prop where
  InvalidNumber : Mke P w K mg base "InvalidNumber" A.Number
  InvalidLevel : Mke P w K mg base "InvalidLevel" A.Level
  InvalidPresses : Mke P w K mg base "InvalidPresses" A.Presses
  InvalidRoom : Mke P w K mg base "InvalidRoom" A.Room
/-- no level -/
def NL (x : PyData) : Prop := szOk x = true ∧ fitsLevel x = false
/-- no presses, presses -/
def BP (r : Int) (x : PyData) : Prop := szOk x = true ∧ fitsPresses r x = false
def GP (r : Int) (x : PyData) : Prop := szOk x = true ∧ fitsPresses r x = true
def Bad2 (A : Ad4) (l p : PyData) (C : Addr) (i : Nat) : Prop := (NL l ∧ C = A.Level ∧ i = 0) ∨ ∃ r, Lv l r ∧ BP r p ∧ C = A.Presses ∧ i = 1
def Bad4 (A : Ad4) (l p t m : PyData) (C : Addr) (i : Nat) : Prop := Bad2 A l p C i ∨ (∃ r ps, Lv l r ∧ p = .list ps ∧ GP r p ∧ fitsRoom ps.length t = false ∧ C = A.Number ∧ i = 2) ∨ ∃ r ps, Lv l r ∧ p = .list ps ∧ GP r p ∧ fitsRoom ps.length t = true ∧ fitsRoom r m = false ∧ C = A.Room ∧ i = 3
def R_none : List PyData → PyData → Prop := fun _ _ => False
def X2 (A : Ad4) : List PyData → Addr → Nat → Prop := fun ds C i => ∃ l p, ds = [l, p] ∧ Bad2 A l p C i
def X4 (A : Ad4) : List PyData → Addr → Nat → Prop := fun ds C i => ∃ l p t m, ds = [l, p, t, m] ∧ Bad4 A l p t m C i
structure BM (mg : Str → Option Value) (t1 : Tok) : Prop where
  MOST_TICKS : mg "MOST_TICKS" = some (.int 30 t1)
section
variable {P : Program} {w : World} {K : Fg} {mg : Str → Option Value} {base : Heap} {A : Ad4} {t1 : Tok}

def R_check_level : List PyData → PyData → Prop := fun ds d => ∃ x r, ds = [x] ∧ Lv x r ∧ d = .none
def X_check_level (A : Ad4) : List PyData → Addr → Nat → Prop := fun ds C i => ∃ x, ds = [x] ∧ NL x ∧ C = A.Level ∧ i = 0
def R_check_presses : List PyData → PyData → Prop := fun ds d => ∃ l r x, ds = [l, x] ∧ Lv l r ∧ GP r x ∧ d = .none
def X_check_presses (A : Ad4) : List PyData → Addr → Nat → Prop := fun ds C i => ∃ l r x, ds = [l, x] ∧ Lv l r ∧ BP r x ∧ C = A.Presses ∧ i = 1
def R_check_tick : List PyData → PyData → Prop := fun ds d => ∃ (n : Int) (t : PyData), ds = [.int n, t] ∧ fitsRoom n t = true ∧ d = .none
def X_check_tick (A : Ad4) : List PyData → Addr → Nat → Prop := fun ds C i => ∃ (n : Int) (t : PyData), ds = [.int n, t] ∧ fitsRoom n t = false ∧ C = A.Number ∧ i = 1
def R_check_room : List PyData → PyData → Prop := fun ds d => ∃ l r x, ds = [l, x] ∧ Lv l r ∧ fitsRoom r x = true ∧ d = .none
def X_check_room (A : Ad4) : List PyData → Addr → Nat → Prop := fun ds C i => ∃ l r x, ds = [l, x] ∧ Lv l r ∧ fitsRoom r x = false ∧ C = A.Room ∧ i = 1
def R_check_room_at : List PyData → PyData → Prop := fun ds d => ∃ l r ps t m, ds = [l, .list ps, t, m] ∧ Lv l r ∧ GP r (.list ps) ∧ fitsRoom ps.length t = true ∧ fitsRoom r m = true ∧ d = .none

abbrev s_check_level : Stmt := topS 21
theorem f_check_level (M : Ck4 P w K mg base A) (a : At K mg "check_level" s_check_level) (c_fits_level : Fc P w K mg base "fits_level" ["value"] 8 (SpR K R_fits_level)) : Fx P w K mg base "check_level" ["level"] 9 (SpX K R_check_level (X_check_level A)) := by
  have S : FnScope ["level"] ["level"] (defScope s_check_level) := ⟨rfl, rfl, rfl, by decide +kernel, rfl, by decide +kernel, by decide +kernel⟩
  refine fx_mk a S (fun _ _ _ _ _ _ us hl => match us, hl with | [_], _ => rfl) (by rintro _ _ ⟨x, r, rfl, _⟩; rfl) (by rintro _ _ _ ⟨x, rfl, _⟩; rfl) fun f cdv A' outer s H E gu hr tk => ?_
  refine ⟨_, (pss_one (ps_if (pt_not (pt_val (pe_f c_fits_level gu (hr.mono (by decide)) (by rfl) (pa_cons (pv 0) pa_nil)))) (pss_one (ps_rz M.InvalidLevel rfl tk (hr.mono (by decide)) (by rfl) (pa_cons (pv 0) pa_nil))) pss_nil)), ?_, ?_⟩
  · rintro _ _ ⟨x, r, rfl, hL, rfl⟩
    exact xr_end (xs_if (et_not (a := true) (et_B (ed_call (ea_cons (ed_var rfl) ea_nil) ⟨_, rfl, hL.sz, by rw [hL.fits]⟩))) (fun z => nomatch (show false = true from z)) (fun _ => xs_next))
  · rintro _ _ _ ⟨x, rfl, ⟨hz, hf⟩, rfl, rfl⟩
    exact xz_if1 (et_not (a := false) (et_B (ed_call (ea_cons (ed_var rfl) ea_nil) ⟨_, rfl, sz_lv hz, by rw [hf]⟩))) (xz_raise rfl)

abbrev s_check_presses : Stmt := topS 22
theorem f_check_presses (M : Ck4 P w K mg base A) (a : At K mg "check_presses" s_check_presses) (c_fits_presses : Fc P w K mg base "fits_presses" ["rooms", "value"] 5 (SpR K R_fits_presses)) : Fx P w K mg base "check_presses" ["level", "presses"] 7 (SpX K R_check_presses (X_check_presses A)) := by
  have S : FnScope ["level", "presses"] ["level", "presses"] (defScope s_check_presses) := ⟨rfl, rfl, rfl, by decide +kernel, rfl, by decide +kernel, by decide +kernel⟩
  refine fx_mk a S (fun _ _ _ _ _ _ us hl => match us, hl with | [_, _], _ => rfl) (by rintro _ _ ⟨l, r, x, rfl, _⟩; rfl) (by rintro _ _ _ ⟨l, r, x, rfl, _⟩; rfl) fun f cdv A' outer s H E gu hr tk => ?_
  refine ⟨_, (pss_one (ps_if (pt_not (pt_val (pe_f c_fits_presses gu (hr.mono (by decide)) (by rfl) (pa_cons (pe_ix ix_tup (pv 0) pe_int (fun _ _ => rfl)) (pa_cons (pv 1) pa_nil))))) (pss_one (ps_rz M.InvalidPresses rfl tk (hr.mono (by decide)) (by rfl) (pa_cons (pv 1) pa_nil))) pss_nil)), ?_, ?_⟩
  · rintro _ _ ⟨l, r, x, rfl, ⟨es, rfl, _⟩, ⟨hz, hf⟩, rfl⟩
    exact xr_end (xs_if (et_not (a := true) (et_B (ed_call (ea_cons (ed_op (ed_var rfl) ed_int r_ixT0) (ea_cons (ed_var rfl) ea_nil)) ⟨_, _, rfl, sz_Sm hz, by rw [hf]⟩))) (fun z => nomatch (show false = true from z)) (fun _ => xs_next))
  · rintro _ _ _ ⟨l, r, x, rfl, ⟨es, rfl, _⟩, ⟨hz, hf⟩, rfl, rfl⟩
    exact xz_if1 (et_not (a := false) (et_B (ed_call (ea_cons (ed_op (ed_var rfl) ed_int r_ixT0) (ea_cons (ed_var rfl) ea_nil)) ⟨_, _, rfl, sz_Sm hz, by rw [hf]⟩))) (xz_raise rfl)

abbrev s_check_tick : Stmt := topS 24
theorem f_check_tick (M : Ck4 P w K mg base A) (a : At K mg "check_tick" s_check_tick) (c_is_count : Fc P w K mg base "is_count" ["value"] 2 (SpR K R_is_count)) : Fx P w K mg base "check_tick" ["ticks", "tick"] 3 (SpX K R_check_tick (X_check_tick A)) := by
  have S : FnScope ["ticks", "tick"] ["ticks", "tick"] (defScope s_check_tick) := ⟨rfl, rfl, rfl, by decide +kernel, rfl, by decide +kernel, by decide +kernel⟩
  refine fx_mk a S (fun _ _ _ _ _ _ us hl => match us, hl with | [_, _], _ => rfl) (by rintro _ _ ⟨n, t, rfl, _⟩; rfl) (by rintro _ _ _ ⟨n, t, rfl, _⟩; rfl) fun f cdv A' outer s H E gu hr tk => ?_
  refine ⟨_, (pss_one (ps_if (PW.pt (pw_or (pt_not (pt_val (pe_f c_is_count gu (hr.mono (by decide)) (by rfl) (pa_cons (pv 1) pa_nil)))) (pw_or1 (pt_cmpR op_ge (pv 1) (pv 0) (nomark _))))) (pss_one (ps_rz M.InvalidNumber rfl tk (hr.mono (by decide)) (by rfl) (pa_cons (pv 1) pa_nil))) pss_nil)), ?_, ?_⟩
  · rintro _ _ ⟨n, t, rfl, hf, rfl⟩
    cases t with
    | int i =>
      have hf' : (decide (0 ≤ i) && decide (i < n)) = true := hf
      rw [Bool.and_eq_true, decide_eq_true_eq, decide_eq_true_eq] at hf'
      exact xr_end (xs_if (et_is (b := false) (et_or (et_not (a := true) (et_B (ed_call (ea_cons (ed_var rfl) ea_nil) ⟨_, rfl, by show _ = PyData.bool (decide (0 ≤ i)); rw [decide_eq_true hf'.1]⟩))) fun _ => et_test (ed_op (ed_var rfl) (ed_var rfl) (r_Ib (g := fun i j => decide (j ≤ i))))) (by rw [decide_eq_false (show ¬ n ≤ i by omega)]; rfl)) (fun z => nomatch z) (fun _ => xs_next))
    | _ => exact nomatch (show false = true from hf)
  · rintro _ _ _ ⟨n, t, rfl, hf, rfl, rfl⟩
    refine xz_if1 ?_ (xz_raise rfl)
    cases hc : isCount t with
    | false => exact et_or (a := true) (b := true) (et_not (a := false) (et_B (ed_call (ea_cons (ed_var rfl) ea_nil) ⟨_, rfl, by rw [hc]⟩))) fun z => nomatch z
    | true =>
      cases t with
      | int i =>
        have h0 : decide (0 ≤ i) = true := hc
        have hf' : (decide (0 ≤ i) && decide (i < n)) = false := hf
        rw [h0, Bool.true_and] at hf'
        exact et_is (et_or (et_not (a := true) (et_B (ed_call (ea_cons (ed_var rfl) ea_nil) ⟨_, rfl, by rw [hc]⟩))) fun _ => et_test (ed_op (ed_var rfl) (ed_var rfl) (r_Ib (g := fun i j => decide (j ≤ i))))) (by rw [decide_eq_true (show n ≤ i by have := of_decide_eq_false hf'; omega)]; rfl)
      | _ => exact nomatch (show false = true from hc)

abbrev s_check_room : Stmt := topS 23
theorem f_check_room (M : Ck4 P w K mg base A) (a : At K mg "check_room" s_check_room) (c_fits_room : Fc P w K mg base "fits_room" ["rooms", "value"] 3 (SpR K R_fits_room)) : Fx P w K mg base "check_room" ["level", "room"] 4 (SpX K R_check_room (X_check_room A)) := by
  have S : FnScope ["level", "room"] ["level", "room"] (defScope s_check_room) := ⟨rfl, rfl, rfl, by decide +kernel, rfl, by decide +kernel, by decide +kernel⟩
  refine fx_mk a S (fun _ _ _ _ _ _ us hl => match us, hl with | [_, _], _ => rfl) (by rintro _ _ ⟨l, r, x, rfl, _⟩; rfl) (by rintro _ _ _ ⟨l, r, x, rfl, _⟩; rfl) fun f cdv A' outer s H E gu hr tk => ?_
  refine ⟨_, (pss_one (ps_if (pt_not (pt_val (pe_f c_fits_room gu (hr.mono (by decide)) (by rfl) (pa_cons (pe_ix ix_tup (pv 0) pe_int (fun _ _ => rfl)) (pa_cons (pv 1) pa_nil))))) (pss_one (ps_rz M.InvalidRoom rfl tk (hr.mono (by decide)) (by rfl) (pa_cons (pv 1) pa_nil))) pss_nil)), ?_, ?_⟩
  · rintro _ _ ⟨l, r, x, rfl, ⟨es, rfl, _⟩, hf, rfl⟩
    exact xr_end (xs_if (et_not (a := true) (et_B (ed_call (ea_cons (ed_op (ed_var rfl) ed_int r_ixT0) (ea_cons (ed_var rfl) ea_nil)) ⟨_, _, rfl, by rw [hf]⟩))) (fun z => nomatch (show false = true from z)) (fun _ => xs_next))
  · rintro _ _ _ ⟨l, r, x, rfl, ⟨es, rfl, _⟩, hf, rfl, rfl⟩
    exact xz_if1 (et_not (a := false) (et_B (ed_call (ea_cons (ed_op (ed_var rfl) ed_int r_ixT0) (ea_cons (ed_var rfl) ea_nil)) ⟨_, _, rfl, by rw [hf]⟩))) (xz_raise rfl)

abbrev s_check_room_at : Stmt := topS 25
theorem f_check_room_at (T : Bl mg) (a : At K mg "check_room_at" s_check_room_at) (c_check_level : Fx P w K mg base "check_level" ["level"] 9 (SpX K R_check_level (X_check_level A))) (c_check_presses : Fx P w K mg base "check_presses" ["level", "presses"] 7 (SpX K R_check_presses (X_check_presses A))) (c_check_tick : Fx P w K mg base "check_tick" ["ticks", "tick"] 3 (SpX K R_check_tick (X_check_tick A))) (c_check_room : Fx P w K mg base "check_room" ["level", "room"] 4 (SpX K R_check_room (X_check_room A))) : Fx P w K mg base "check_room_at" ["level", "presses", "tick", "room"] 10 (SpX K R_check_room_at (X4 A)) := by
  have S : FnScope ["level", "presses", "tick", "room"] ["level", "presses", "tick", "room"] (defScope s_check_room_at) := ⟨rfl, rfl, rfl, by decide +kernel, rfl, by decide +kernel, by decide +kernel⟩
  refine fx_mk a S (fun _ _ _ _ _ _ us hl => match us, hl with | [_, _, _, _], _ => rfl) (by rintro _ _ ⟨l, r, ps, t, m, rfl, _⟩; rfl) (by rintro _ _ _ ⟨l, p, t, m, rfl, _⟩; rfl) fun f cdv A' outer s H E gu hr tk => ?_
  refine ⟨_, (pss_cons (ps_expr (pe_fx c_check_level gu (hr.mono (by decide)) (by rfl) (fun σ => passAt tk σ) (pa_cons (pv 0) pa_nil)))
  (pss_cons (ps_expr (pe_fx c_check_presses gu (hr.mono (by decide)) (by rfl) (fun σ => passAt tk σ) (pa_cons (pv 0) (pa_cons (pv 1) pa_nil))))
  (pss_cons (ps_expr (pe_fx c_check_tick gu (hr.mono (by decide)) (by rfl) (fun σ => passAt tk σ) (pa_cons (pe_callB call_len_seq (by rfl) T.len (by decide +kernel) (pa_cons (pv 1) pa_nil)) (pa_cons (pv 2) pa_nil))))
  (pss_one (ps_expr (pe_fx c_check_room gu (hr.mono (by decide)) (by rfl) (fun σ => passAt tk σ) (pa_cons (pv 0) (pa_cons (pv 3) pa_nil)))))))), ?_, ?_⟩
  · rintro _ _ ⟨l, r, ps, t, m, rfl, hL, hp, ht, hm, rfl⟩
    exact xr_end (xs_seq (xs_drop (ed_callS (ea_cons (ed_var (i := 0) rfl) ea_nil) ⟨_, _, rfl, hL, rfl⟩)) (xs_seq (xs_drop (ed_callS (ea_cons (ed_var (i := 0) rfl) (ea_cons (ed_var (i := 1) rfl) ea_nil)) ⟨_, _, _, rfl, hL, hp, rfl⟩)) (xs_seq (xs_drop (ed_callS (ea_cons (ed_cb (ea_cons (ed_var (i := 1) rfl) ea_nil) rc_lenL) (ea_cons (ed_var (i := 2) rfl) ea_nil)) ⟨_, _, rfl, ht, rfl⟩)) (xs_drop (ed_callS (ea_cons (ed_var (i := 0) rfl) (ea_cons (ed_var (i := 3) rfl) ea_nil)) ⟨_, _, _, rfl, hL, hm, rfl⟩)))))
  · rintro _ _ _ ⟨l, p, t, m, rfl, (⟨hf, rfl, rfl⟩ | ⟨r, hL, hp, rfl, rfl⟩) | ⟨r, ps, hL, rfl, hp, ht, rfl, rfl⟩ | ⟨r, ps, hL, rfl, hp, ht, hm, rfl, rfl⟩⟩
    · exact xz_here (xz_call (eai_here rfl ea_nil) ⟨_, rfl, hf, rfl, rfl⟩)
    · exact xz_then (xi_drop (ed_callS (ea_cons (ed_var (i := 0) rfl) ea_nil) ⟨_, _, rfl, hL, rfl⟩)) (xz_here (xz_call (eai_next (ed_var (i := 0) rfl) (eai_here rfl ea_nil)) ⟨_, _, _, rfl, hL, hp, rfl, rfl⟩))
    · exact xz_then (xi_drop (ed_callS (ea_cons (ed_var (i := 0) rfl) ea_nil) ⟨_, _, rfl, hL, rfl⟩)) (xz_then (xi_drop (ed_callS (ea_cons (ed_var (i := 0) rfl) (ea_cons (ed_var (i := 1) rfl) ea_nil)) ⟨_, _, _, rfl, hL, hp, rfl⟩)) (xz_here (xz_call (eai_next (ed_cb (ea_cons (ed_var (i := 1) rfl) ea_nil) rc_lenL) (eai_here rfl ea_nil)) ⟨_, _, rfl, ht, rfl, rfl⟩)))
    · exact xz_then (xi_drop (ed_callS (ea_cons (ed_var (i := 0) rfl) ea_nil) ⟨_, _, rfl, hL, rfl⟩)) (xz_then (xi_drop (ed_callS (ea_cons (ed_var (i := 0) rfl) (ea_cons (ed_var (i := 1) rfl) ea_nil)) ⟨_, _, _, rfl, hL, hp, rfl⟩)) (xz_then (xi_drop (ed_callS (ea_cons (ed_cb (ea_cons (ed_var (i := 1) rfl) ea_nil) rc_lenL) (ea_cons (ed_var (i := 2) rfl) ea_nil)) ⟨_, _, rfl, ht, rfl⟩)) (xz_call (eai_next (ed_var (i := 0) rfl) (eai_here rfl ea_nil)) ⟨_, _, _, rfl, hL, hm, rfl, rfl⟩)))

abbrev s_presses_in : Stmt := topS 42
theorem f_presses_in (a : At K mg "presses_in" s_presses_in) (c_check_level : Fx P w K mg base "check_level" ["level"] 9 (SpX K R_check_level (X_check_level A))) (c_check_presses : Fx P w K mg base "check_presses" ["level", "presses"] 7 (SpX K R_check_presses (X_check_presses A))) : Fx P w K mg base "presses_in" ["level", "presses"] 10 (SpX K R_none (X2 A)) := by
  have S : FnScope ["level", "presses"] ["level", "presses"] (defScope s_presses_in) := ⟨rfl, rfl, rfl, by decide +kernel, rfl, by decide +kernel, by decide +kernel⟩
  refine fx_mk a S (fun _ _ _ _ _ _ us hl => match us, hl with | [_, _], _ => rfl) (fun _ _ h => h.elim) (by rintro _ _ _ ⟨l, p, rfl, _⟩; rfl) fun f cdv A' outer s H E gu hr tk => ?_
  refine ⟨_, (pss_cons (ps_expr (pe_fx c_check_level gu (hr.mono (by decide)) (by rfl) (fun σ => passAt tk σ) (pa_cons (pv 0) pa_nil)))
  (pss_cons (ps_expr (pe_fx c_check_presses gu (hr.mono (by decide)) (by rfl) (fun σ => passAt tk σ) (pa_cons (pv 0) (pa_cons (pv 1) pa_nil))))
  (pss_one ps_no))), fun _ _ h => h.elim, ?_⟩
  rintro _ _ _ ⟨l, p, rfl, ⟨hf, rfl, rfl⟩ | ⟨r, hL, hp, rfl, rfl⟩⟩
  · exact xz_here (xz_call (eai_here rfl ea_nil) ⟨_, rfl, hf, rfl, rfl⟩)
  · exact xz_then (xi_drop (ed_callS (ea_cons (ed_var (i := 0) rfl) ea_nil) ⟨_, _, rfl, hL, rfl⟩)) (xz_here (xz_call (eai_next (ed_var (i := 0) rfl) (eai_here rfl ea_nil)) ⟨_, _, _, rfl, hL, hp, rfl, rfl⟩))

abbrev s_is_added : Stmt := topS 67
theorem f_is_added (a : At K mg "is_added" s_is_added) (c_check_level : Fx P w K mg base "check_level" ["level"] 9 (SpX K R_check_level (X_check_level A))) (c_check_presses : Fx P w K mg base "check_presses" ["level", "presses"] 7 (SpX K R_check_presses (X_check_presses A))) : Fx P w K mg base "is_added" ["level", "presses"] 10 (SpX K R_none (X2 A)) := by
  have S : FnScope ["level", "presses"] ["level", "presses"] (defScope s_is_added) := ⟨rfl, rfl, rfl, by decide +kernel, rfl, by decide +kernel, by decide +kernel⟩
  refine fx_mk a S (fun _ _ _ _ _ _ us hl => match us, hl with | [_, _], _ => rfl) (fun _ _ h => h.elim) (by rintro _ _ _ ⟨l, p, rfl, _⟩; rfl) fun f cdv A' outer s H E gu hr tk => ?_
  refine ⟨_, (pss_cons (ps_expr (pe_fx c_check_level gu (hr.mono (by decide)) (by rfl) (fun σ => passAt tk σ) (pa_cons (pv 0) pa_nil)))
  (pss_cons (ps_expr (pe_fx c_check_presses gu (hr.mono (by decide)) (by rfl) (fun σ => passAt tk σ) (pa_cons (pv 0) (pa_cons (pv 1) pa_nil))))
  (pss_one ps_no))), fun _ _ h => h.elim, ?_⟩
  rintro _ _ _ ⟨l, p, rfl, ⟨hf, rfl, rfl⟩ | ⟨r, hL, hp, rfl, rfl⟩⟩
  · exact xz_here (xz_call (eai_here rfl ea_nil) ⟨_, rfl, hf, rfl, rfl⟩)
  · exact xz_then (xi_drop (ed_callS (ea_cons (ed_var (i := 0) rfl) ea_nil) ⟨_, _, rfl, hL, rfl⟩)) (xz_here (xz_call (eai_next (ed_var (i := 0) rfl) (eai_here rfl ea_nil)) ⟨_, _, _, rfl, hL, hp, rfl, rfl⟩))

abbrev s_together : Stmt := topS 68
theorem f_together (a : At K mg "together" s_together) (c_check_level : Fx P w K mg base "check_level" ["level"] 9 (SpX K R_check_level (X_check_level A))) (c_check_presses : Fx P w K mg base "check_presses" ["level", "presses"] 7 (SpX K R_check_presses (X_check_presses A))) : Fx P w K mg base "together" ["level", "presses"] 10 (SpX K R_none (X2 A)) := by
  have S : FnScope ["level", "presses"] ["level", "presses"] (defScope s_together) := ⟨rfl, rfl, rfl, by decide +kernel, rfl, by decide +kernel, by decide +kernel⟩
  refine fx_mk a S (fun _ _ _ _ _ _ us hl => match us, hl with | [_, _], _ => rfl) (fun _ _ h => h.elim) (by rintro _ _ _ ⟨l, p, rfl, _⟩; rfl) fun f cdv A' outer s H E gu hr tk => ?_
  refine ⟨_, (pss_cons (ps_expr (pe_fx c_check_level gu (hr.mono (by decide)) (by rfl) (fun σ => passAt tk σ) (pa_cons (pv 0) pa_nil)))
  (pss_cons (ps_expr (pe_fx c_check_presses gu (hr.mono (by decide)) (by rfl) (fun σ => passAt tk σ) (pa_cons (pv 0) (pa_cons (pv 1) pa_nil))))
  (pss_one ps_no))), fun _ _ h => h.elim, ?_⟩
  rintro _ _ _ ⟨l, p, rfl, ⟨hf, rfl, rfl⟩ | ⟨r, hL, hp, rfl, rfl⟩⟩
  · exact xz_here (xz_call (eai_here rfl ea_nil) ⟨_, rfl, hf, rfl, rfl⟩)
  · exact xz_then (xi_drop (ed_callS (ea_cons (ed_var (i := 0) rfl) ea_nil) ⟨_, _, rfl, hL, rfl⟩)) (xz_here (xz_call (eai_next (ed_var (i := 0) rfl) (eai_here rfl ea_nil)) ⟨_, _, _, rfl, hL, hp, rfl, rfl⟩))

theorem eai4 {ta : TA} {ρ : En} {l p t m : PyData} {C : Addr} {i : Nat} (h0 : ρ[0]? = some (some l)) (h1 : ρ[1]? = some (some p)) (h2 : ρ[2]? = some (some t)) (h3 : ρ[3]? = some (some m)) (hb : Bad4 A l p t m C i) : EAi K (tCons (tVar 0) (tCons (tVar 1) (tCons (tVar 2) (tCons (tVar 3) tNil)))) ρ [l, p, t, m] i i := by
  have hi : i = 0 ∨ i = 1 ∨ i = 2 ∨ i = 3 := by
    rcases hb with (⟨_, _, rfl⟩ | ⟨_, _, _, _, rfl⟩) | ⟨_, _, _, _, _, _, _, rfl⟩ | ⟨_, _, _, _, _, _, _, _, rfl⟩ <;> simp
  rcases hi with rfl | rfl | rfl | rfl
  · exact eai_here h0 (ea_cons (ed_var h1) (ea_cons (ed_var h2) (ea_cons (ed_var h3) ea_nil)))
  · exact eai_next (ed_var h0) (eai_here h1 (ea_cons (ed_var h2) (ea_cons (ed_var h3) ea_nil)))
  · exact eai_next (ed_var h0) (eai_next (ed_var h1) (eai_here h2 (ea_cons (ed_var h3) ea_nil)))
  · exact eai_next (ed_var h0) (eai_next (ed_var h1) (eai_next (ed_var h2) (eai_here h3 ea_nil)))

abbrev s_reasons : Stmt := topS 54
theorem f_reasons (a : At K mg "reasons" s_reasons) (c_check_room_at : Fx P w K mg base "check_room_at" ["level", "presses", "tick", "room"] 10 (SpX K R_check_room_at (X4 A))) : Fx P w K mg base "reasons" ["level", "presses", "tick", "room"] 11 (SpX K R_none (X4 A)) := by
  have S : FnScope ["level", "presses", "tick", "room"] ["level", "presses", "tick", "room"] (defScope s_reasons) := ⟨rfl, rfl, rfl, by decide +kernel, rfl, by decide +kernel, by decide +kernel⟩
  refine fx_mk a S (fun _ _ _ _ _ _ us hl => match us, hl with | [_, _, _, _], _ => rfl) (fun _ _ h => h.elim) (by rintro _ _ _ ⟨l, p, t, m, rfl, _⟩; rfl) fun f cdv A' outer s H E gu hr tk => ?_
  refine ⟨_, (pss_cons (ps_expr (pe_fx c_check_room_at gu (hr.mono (by decide)) (by rfl) (fun σ => passAt tk σ) (pa_cons (pv 0) (pa_cons (pv 1) (pa_cons (pv 2) (pa_cons (pv 3) pa_nil))))))
  (pss_one ps_no)), fun _ _ h => h.elim, ?_⟩
  rintro _ C i ⟨l, p, t, m, rfl, hb⟩
  exact xz_here (xz_call (eai4 (ta := tNil) rfl rfl rfl rfl hb) ⟨_, _, _, _, rfl, hb⟩)

abbrev s_cuts : Stmt := topS 55
theorem f_cuts (a : At K mg "cuts" s_cuts) (c_check_room_at : Fx P w K mg base "check_room_at" ["level", "presses", "tick", "room"] 10 (SpX K R_check_room_at (X4 A))) : Fx P w K mg base "cuts" ["level", "presses", "tick", "room"] 11 (SpX K R_none (X4 A)) := by
  have S : FnScope ["level", "presses", "tick", "room"] ["level", "presses", "tick", "room"] (defScope s_cuts) := ⟨rfl, rfl, rfl, by decide +kernel, rfl, by decide +kernel, by decide +kernel⟩
  refine fx_mk a S (fun _ _ _ _ _ _ us hl => match us, hl with | [_, _, _, _], _ => rfl) (fun _ _ h => h.elim) (by rintro _ _ _ ⟨l, p, t, m, rfl, _⟩; rfl) fun f cdv A' outer s H E gu hr tk => ?_
  refine ⟨_, (pss_cons (ps_expr (pe_fx c_check_room_at gu (hr.mono (by decide)) (by rfl) (fun σ => passAt tk σ) (pa_cons (pv 0) (pa_cons (pv 1) (pa_cons (pv 2) (pa_cons (pv 3) pa_nil))))))
  (pss_one ps_no)), fun _ _ h => h.elim, ?_⟩
  rintro _ C i ⟨l, p, t, m, rfl, hb⟩
  exact xz_here (xz_call (eai4 (ta := tNil) rfl rfl rfl rfl hb) ⟨_, _, _, _, rfl, hb⟩)

abbrev s_sure_presses : Stmt := topS 63
theorem f_sure_presses (a : At K mg "sure_presses" s_sure_presses) (c_check_room_at : Fx P w K mg base "check_room_at" ["level", "presses", "tick", "room"] 10 (SpX K R_check_room_at (X4 A))) : Fx P w K mg base "sure_presses" ["level", "presses", "tick", "room"] 11 (SpX K R_none (X4 A)) := by
  have S : FnScope ["level", "presses", "tick", "room", "masks", "at", "press", "mask"] ["level", "presses", "tick", "room"] (defScope s_sure_presses) := ⟨rfl, rfl, rfl, by decide +kernel, rfl, by decide +kernel, by decide +kernel⟩
  refine fx_mk a S (fun _ _ _ _ _ _ us hl => match us, hl with | [_, _, _, _], _ => rfl) (fun _ _ h => h.elim) (by rintro _ _ _ ⟨l, p, t, m, rfl, _⟩; rfl) fun f cdv A' outer s H E gu hr tk => ?_
  refine ⟨_, (pss_cons (ps_expr (pe_fx c_check_room_at gu (hr.mono (by decide)) (by rfl) (fun σ => passAt tk σ) (pa_cons (pv 0) (pa_cons (pv 1) (pa_cons (pv 2) (pa_cons (pv 3) pa_nil))))))
  (pss_cons ps_no (pss_cons ps_no (pss_one ps_no)))), fun _ _ h => h.elim, ?_⟩
  rintro _ C i ⟨l, p, t, m, rfl, hb⟩
  exact xz_here (xz_call (eai4 (ta := tNil) rfl rfl rfl rfl hb) ⟨_, _, _, _, rfl, hb⟩)

abbrev s_idle_presses : Stmt := topS 64
theorem f_idle_presses (a : At K mg "idle_presses" s_idle_presses) (c_check_room_at : Fx P w K mg base "check_room_at" ["level", "presses", "tick", "room"] 10 (SpX K R_check_room_at (X4 A))) : Fx P w K mg base "idle_presses" ["level", "presses", "tick", "room"] 11 (SpX K R_none (X4 A)) := by
  have S : FnScope ["level", "presses", "tick", "room", "masks", "at", "press", "mask"] ["level", "presses", "tick", "room"] (defScope s_idle_presses) := ⟨rfl, rfl, rfl, by decide +kernel, rfl, by decide +kernel, by decide +kernel⟩
  refine fx_mk a S (fun _ _ _ _ _ _ us hl => match us, hl with | [_, _, _, _], _ => rfl) (fun _ _ h => h.elim) (by rintro _ _ _ ⟨l, p, t, m, rfl, _⟩; rfl) fun f cdv A' outer s H E gu hr tk => ?_
  refine ⟨_, (pss_cons (ps_expr (pe_fx c_check_room_at gu (hr.mono (by decide)) (by rfl) (fun σ => passAt tk σ) (pa_cons (pv 0) (pa_cons (pv 1) (pa_cons (pv 2) (pa_cons (pv 3) pa_nil))))))
  (pss_cons ps_no (pss_one ps_no))), fun _ _ h => h.elim, ?_⟩
  rintro _ C i ⟨l, p, t, m, rfl, hb⟩
  exact xz_here (xz_call (eai4 (ta := tNil) rfl rfl rfl rfl hb) ⟨_, _, _, _, rfl, hb⟩)

abbrev s_how_many_light : Stmt := topS 65
theorem f_how_many_light (a : At K mg "how_many_light" s_how_many_light) (c_check_room_at : Fx P w K mg base "check_room_at" ["level", "presses", "tick", "room"] 10 (SpX K R_check_room_at (X4 A))) : Fx P w K mg base "how_many_light" ["level", "presses", "tick", "room"] 11 (SpX K R_none (X4 A)) := by
  have S : FnScope ["level", "presses", "tick", "room"] ["level", "presses", "tick", "room"] (defScope s_how_many_light) := ⟨rfl, rfl, rfl, by decide +kernel, rfl, by decide +kernel, by decide +kernel⟩
  refine fx_mk a S (fun _ _ _ _ _ _ us hl => match us, hl with | [_, _, _, _], _ => rfl) (fun _ _ h => h.elim) (by rintro _ _ _ ⟨l, p, t, m, rfl, _⟩; rfl) fun f cdv A' outer s H E gu hr tk => ?_
  refine ⟨_, (pss_cons (ps_expr (pe_fx c_check_room_at gu (hr.mono (by decide)) (by rfl) (fun σ => passAt tk σ) (pa_cons (pv 0) (pa_cons (pv 1) (pa_cons (pv 2) (pa_cons (pv 3) pa_nil))))))
  (pss_one ps_no)), fun _ _ h => h.elim, ?_⟩
  rintro _ C i ⟨l, p, t, m, rfl, hb⟩
  exact xz_here (xz_call (eai4 (ta := tNil) rfl rfl rfl rfl hb) ⟨_, _, _, _, rfl, hb⟩)

abbrev s_first_of_fewest : Stmt := topS 62
theorem f_first_of_fewest (a : At K mg "first_of_fewest" s_first_of_fewest) : Fc P w K mg base "first_of_fewest" ["lots"] 1 (SpR K R_none) := by
  have S : FnScope ["lots"] ["lots"] (defScope s_first_of_fewest) := ⟨rfl, rfl, rfl, by decide +kernel, rfl, by decide +kernel, by decide +kernel⟩
  refine fc_mk a S (fun _ _ _ _ _ _ us hl => match us, hl with | [_], _ => rfl) (fun _ _ h => h.elim) fun f cdv A' outer s H E gu hr => ?_
  exact ⟨_, (pss_one ps_no), fun _ _ h => h.elim⟩

abbrev s_fewest_reason : Stmt := topS 60
theorem f_fewest_reason (a : At K mg "fewest_reason" s_fewest_reason) (c_reasons : Fx P w K mg base "reasons" ["level", "presses", "tick", "room"] 11 (SpX K R_none (X4 A))) (c_first_of_fewest : Fc P w K mg base "first_of_fewest" ["lots"] 1 (SpR K R_none)) : Fx P w K mg base "fewest_reason" ["level", "presses", "tick", "room"] 12 (SpX K R_none (X4 A)) := by
  have S : FnScope ["level", "presses", "tick", "room"] ["level", "presses", "tick", "room"] (defScope s_fewest_reason) := ⟨rfl, rfl, rfl, by decide +kernel, rfl, by decide +kernel, by decide +kernel⟩
  refine fx_mk a S (fun _ _ _ _ _ _ us hl => match us, hl with | [_, _, _, _], _ => rfl) (fun _ _ h => h.elim) (by rintro _ _ _ ⟨l, p, t, m, rfl, _⟩; rfl) fun f cdv A' outer s H E gu hr tk => ?_
  refine ⟨_, (pss_one (ps_ret (pe_f c_first_of_fewest gu (hr.mono (by decide)) (by rfl) (pa_cons (pe_fx c_reasons gu (hr.mono (by decide)) (by rfl) (fun σ => passAt tk σ) (pa_cons (pv 0) (pa_cons (pv 1) (pa_cons (pv 2) (pa_cons (pv 3) pa_nil))))) pa_nil)))), fun _ _ h => h.elim, ?_⟩
  rintro _ C i ⟨l, p, t, m, rfl, hb⟩
  exact xz_retA (eai4 (ta := tNil) rfl rfl rfl rfl hb) ⟨_, _, _, _, rfl, hb⟩

abbrev s_fewest_cut : Stmt := topS 61
theorem f_fewest_cut (a : At K mg "fewest_cut" s_fewest_cut) (c_cuts : Fx P w K mg base "cuts" ["level", "presses", "tick", "room"] 11 (SpX K R_none (X4 A))) (c_first_of_fewest : Fc P w K mg base "first_of_fewest" ["lots"] 1 (SpR K R_none)) : Fx P w K mg base "fewest_cut" ["level", "presses", "tick", "room"] 12 (SpX K R_none (X4 A)) := by
  have S : FnScope ["level", "presses", "tick", "room"] ["level", "presses", "tick", "room"] (defScope s_fewest_cut) := ⟨rfl, rfl, rfl, by decide +kernel, rfl, by decide +kernel, by decide +kernel⟩
  refine fx_mk a S (fun _ _ _ _ _ _ us hl => match us, hl with | [_, _, _, _], _ => rfl) (fun _ _ h => h.elim) (by rintro _ _ _ ⟨l, p, t, m, rfl, _⟩; rfl) fun f cdv A' outer s H E gu hr tk => ?_
  refine ⟨_, (pss_one (ps_ret (pe_f c_first_of_fewest gu (hr.mono (by decide)) (by rfl) (pa_cons (pe_fx c_cuts gu (hr.mono (by decide)) (by rfl) (fun σ => passAt tk σ) (pa_cons (pv 0) (pa_cons (pv 1) (pa_cons (pv 2) (pa_cons (pv 3) pa_nil))))) pa_nil)))), fun _ _ h => h.elim, ?_⟩
  rintro _ C i ⟨l, p, t, m, rfl, hb⟩
  exact xz_retA (eai4 (ta := tNil) rfl rfl rfl rfl hb) ⟨_, _, _, _, rfl, hb⟩

def X_alone (A : Ad4) : List PyData → Addr → Nat → Prop := fun ds C i => ∃ l n t m, ds = [l, n, t, m] ∧ ((NL l ∧ C = A.Level ∧ i = 0) ∨ (∃ r, Lv l r ∧ (isWhole n = false ∨ ∃ k : Int, n = .int k ∧ (decide (1 ≤ k) && decide (k ≤ 30)) = false) ∧ C = A.Number ∧ i = 1) ∨
  (∃ r k, Lv l r ∧ n = .int k ∧ (1 ≤ k ∧ k ≤ 30) ∧ fitsRoom k t = false ∧ C = A.Number ∧ i = 2) ∨ ∃ r k, Lv l r ∧ n = .int k ∧ (1 ≤ k ∧ k ≤ 30) ∧ fitsRoom k t = true ∧ fitsRoom r m = false ∧ C = A.Room ∧ i = 3)
theorem ed_most {ρ : En} {z : V} (h : z = .int 30) : ED K (tC z) ρ (.int 30) := by
  subst h
  exact ed_int

abbrev s_alone : Stmt := topS 66
theorem f_alone (M : Ck4 P w K mg base A) (T : BM mg t1) (a : At K mg "alone" s_alone) (c_check_level : Fx P w K mg base "check_level" ["level"] 9 (SpX K R_check_level (X_check_level A))) (c_check_tick : Fx P w K mg base "check_tick" ["ticks", "tick"] 3 (SpX K R_check_tick (X_check_tick A))) (c_check_room : Fx P w K mg base "check_room" ["level", "room"] 4 (SpX K R_check_room (X_check_room A))) (c_is_whole : Fc P w K mg base "is_whole" ["value"] 1 (SpR K R_is_whole)) : Fx P w K mg base "alone" ["level", "ticks", "tick", "room"] 10 (SpX K R_none (X_alone A)) := by
  have S : FnScope ["level", "ticks", "tick", "room", "mask"] ["level", "ticks", "tick", "room"] (defScope s_alone) := ⟨rfl, rfl, rfl, by decide +kernel, rfl, by decide +kernel, by decide +kernel⟩
  refine fx_mk a S (fun _ _ _ _ _ _ us hl => match us, hl with | [_, _, _, _], _ => rfl) (fun _ _ h => h.elim) (by rintro _ _ _ ⟨l, n, t, m, rfl, _⟩; rfl) fun f cdv A' outer s H E gu hr tk => ?_
  refine ⟨_, (pss_cons (ps_expr (pe_fx c_check_level gu (hr.mono (by decide)) (by rfl) (fun σ => passAt tk σ) (pa_cons (pv 0) pa_nil)))
  (pss_cons (ps_if (PW.pt (pw_or (pt_not (pt_val (pe_f c_is_whole gu (hr.mono (by decide)) (by rfl) (pa_cons (pv 1) pa_nil)))) (pw_or1 (pt_not (pt_chain op_le op_le pe_int (pv 1) (pe_glob (v := .int 30) (by rfl) T.MOST_TICKS ⟨_, rfl⟩)))))) (pss_one (ps_rz M.InvalidNumber rfl tk (hr.mono (by decide)) (by rfl) (pa_cons (pv 1) pa_nil))) pss_nil)
  (pss_cons (ps_expr (pe_fx c_check_tick gu (hr.mono (by decide)) (by rfl) (fun σ => passAt tk σ) (pa_cons (pv 1) (pa_cons (pv 2) pa_nil))))
  (pss_cons (ps_expr (pe_fx c_check_room gu (hr.mono (by decide)) (by rfl) (fun σ => passAt tk σ) (pa_cons (pv 0) (pa_cons (pv 3) pa_nil))))
  (pss_one ps_no))))), fun _ _ h => h.elim, ?_⟩
  rintro _ _ _ ⟨l, n, t, m, rfl, ⟨hf, rfl, rfl⟩ | ⟨r, hL, hn, rfl, rfl⟩ | ⟨r, k, hL, rfl, hk, ht, rfl, rfl⟩ | ⟨r, k, hL, rfl, hk, ht, hm, rfl, rfl⟩⟩
  · exact xz_here (xz_call (eai_here rfl ea_nil) ⟨_, rfl, hf, rfl, rfl⟩)
  · refine xz_then (xi_drop (ed_callS (ea_cons (ed_var (i := 0) rfl) ea_nil) ⟨_, _, rfl, hL, rfl⟩)) (xz_here (xz_if1 ?_ (xz_raise rfl)))
    rcases hn with hn | ⟨k, rfl, hk⟩
    · exact et_or (a := true) (b := true) (et_not (a := false) (et_B (ed_call (ea_cons (ed_var rfl) ea_nil) ⟨_, rfl, by rw [hn]⟩))) fun z => nomatch z
    · exact et_is (et_or (et_not (a := true) (et_B (ed_call (ea_cons (ed_var rfl) ea_nil) ⟨_, rfl, rfl⟩))) fun _ => et_not (et_test (ed_chain ed_int (ed_var (i := 1) rfl) r_Ib (fun _ => ed_int) (fun _ => r_Ib)))) (by rw [hk]; rfl)
  all_goals
    refine xz_then (xi_drop (ed_callS (ea_cons (ed_var (i := 0) rfl) ea_nil) ⟨_, _, rfl, hL, rfl⟩)) (xz_then (xi_skip (et_is (b := false) (et_or (et_not (a := true) (et_B (ed_call (ea_cons (ed_var rfl) ea_nil) ⟨_, rfl, rfl⟩))) fun _ => et_not (et_test (ed_chain ed_int (ed_var (i := 1) rfl) r_Ib (fun _ => ed_int) (fun _ => r_Ib)))) (by rw [decide_eq_true hk.1, decide_eq_true hk.2]; rfl))) ?_)
  · exact xz_here (xz_call (eai_next (ed_var (i := 1) rfl) (eai_here rfl ea_nil)) ⟨_, _, rfl, ht, rfl, rfl⟩)
  · exact xz_then (xi_drop (ed_callS (ea_cons (ed_var (i := 1) rfl) (ea_cons (ed_var (i := 2) rfl) ea_nil)) ⟨_, _, rfl, ht, rfl⟩)) (xz_here (xz_call (eai_next (ed_var (i := 0) rfl) (eai_here rfl ea_nil)) ⟨_, _, _, rfl, hL, hm, rfl, rfl⟩))

end
end TD

set_option maxHeartbeats 4000000
namespace TD
open PySem PySem.Spec PyProof.Rows L2
open Evl (Ex)
open PySem.W (alike alikeAll dataLt)
/-! # lots -/
theorem lenK {X : Cx} {K : Fg} (hK : X.K = K) : CallR X (.builtin "len") (rLen K) := hK ▸ call_len_seq
theorem inK {X : Cx} {K : Fg} (hK : X.K = K) : OpR X (compareOp .In) (rIn K false) := hK ▸ op_in_seq
def tNoE : TE := fun _ _ _ => False
theorem pe_no {X : Cx} {e : Expr} : PE X e tNoE := ⟨fun _ _ _ _ _ _ h => h.elim⟩
theorem pg_tupK {X : Cx} {K : Fg} {es : List Expr} {k : Nat} {t : TGs} {n : Nat} {pos : Pos} (hK : X.K = K) (hc : X.calm = true) (h : PGs X es t)
    (hn : (assignEach es X.env).length = n := by rfl) (hst : (assignEach es X.env).findIdx? (·.1) = none := by rfl) : PG X (.Tuple es k pos) (gTup K n t) := hK ▸ pg_tup hc h hn hst
structure BL3 (mg : Str → Option Value) : Prop where
  isinstance : mg "isinstance" = none
  list : mg "list" = none
  len : mg "len" = none
  all : mg "all" = none
  range : mg "range" = none
def isPress : PyData → Bool
  | .tuple [a, b] => isCount a && isCount b
  | _ => false
def fitsLot : PyData → Bool
  | .list ds => ds.all isPress && ups ds
  | _ => false
theorem press_no {x : PyData} (h : isTup 2 x = false) : isPress x = false := by
  cases x with
  | tuple ds => match ds, h with
    | [], _ => rfl
    | [_], _ => rfl
    | [n, m], h => exact nomatch (show true = false from h)
    | _ :: _ :: _ :: _, _ => rfl
  | _ => rfl
theorem press_tup {x : PyData} (h : isTup 2 x = true) : ∃ n m, x = .tuple [n, m] := by
  cases x with
  | tuple ds => match ds, h with
    | [n, m], _ => exact ⟨n, m, rfl⟩
    | [], h => exact nomatch (show false = true from h)
    | [_], h => exact nomatch (show false = true from h)
    | _ :: _ :: _ :: _, h =>
      simp [isTup] at h
      omega
  | _ => exact nomatch (show false = true from h)
theorem press_is {x : PyData} (h : isPress x = true) : ∃ i j : Int, x = .tuple [.int i, .int j] := by
  cases h2 : isTup 2 x with
  | false => rw [press_no h2] at h; exact nomatch h
  | true =>
    obtain ⟨n, m, rfl⟩ := press_tup h2
    have h' : (isCount n && isCount m) = true := h
    rw [Bool.and_eq_true] at h'
    cases n with
    | int i => cases m with
      | int j => exact ⟨i, j, rfl⟩
      | _ => exact nomatch (show false = true from h'.2)
    | _ => exact nomatch (show false = true from h'.1)
theorem press_alike {x y : PyData} (h1 : isPress x = true) (h2 : isPress y = true) : alike x y = true ∧ x ≠ .none ∧ min x.depth y.depth ≤ 60 := by
  obtain ⟨i, j, rfl⟩ := press_is h1
  obtain ⟨k, l, rfl⟩ := press_is h2
  refine ⟨by simp [alike, alikeAll], (fun z => nomatch z), by simp [PyData.depth, PyData.depthAll]⟩
abbrev preG : PyData := .list [.list [.int 0], .list [.int 0, .int 1]]
abbrev levG : PyData := .tuple [.int 2, .list [.tuple [.list [.int 0], .int 1, .int (-1)]]]
theorem lv_G : Lv levG 2 := ⟨_, rfl, by decide, by decide +kernel⟩
theorem gp_G : GP 2 preG := ⟨by decide +kernel, by decide +kernel⟩
/-- no lot of the presses: no lot at all, or one press that there is not -/
def BadLot (x : PyData) : Prop := Sm x ∧ (fitsLot x = false ∨ ∃ t r : Int, x = .list [.tuple [.int t, .int r]] ∧ 0 ≤ t ∧ 0 ≤ r ∧ (t = 0 ∧ 0 < r ∨ 2 ≤ t))
section
variable {P : Program} {w : World} {K : Fg} {mg : Str → Option Value} {base : Heap} {A : Ad4} {t1 : Tok}
abbrev s_is_press : Stmt := topS 18
def R_is_press : List PyData → PyData → Prop := fun ds d => ∃ x, ds = [x] ∧ d = .bool (isPress x)
theorem f_is_press (a : At K mg "is_press" s_is_press) (c_is_tuple_of : Fc P w K mg base "is_tuple_of" ["many", "value"] 1 (SpR K R_is_tuple_of)) (c_is_count : Fc P w K mg base "is_count" ["value"] 2 (SpR K R_is_count)) : Fc P w K mg base "is_press" ["value"] 3 (SpR K R_is_press) := by
  have S : FnScope ["value"] ["value"] (defScope s_is_press) := ⟨rfl, rfl, rfl, by decide +kernel, rfl, by decide +kernel, by decide +kernel⟩
  refine fc_mk a S (fun _ _ _ _ _ _ us hl => match us, hl with | [_], _ => rfl) (by rintro _ _ ⟨x, rfl, _⟩; rfl) fun f cdv A outer s H E gu hr => ⟨_, (pss_one (ps_ret (pe_and (pe_f c_is_tuple_of gu (hr.mono (by decide)) (by rfl) (pa_cons pe_int (pa_cons (pv 0) pa_nil))) (pe_and (pe_f c_is_count gu (hr.mono (by decide)) (by rfl) (pa_cons (pe_ix ix_tup (pv 0) pe_int (fun _ _ => rfl)) pa_nil)) (pe_one (pe_f c_is_count gu (hr.mono (by decide)) (by rfl) (pa_cons (pe_ix ix_tup (pv 0) pe_int (fun _ _ => rfl)) pa_nil))))))), ?_⟩
  rintro _ _ ⟨x, rfl, rfl⟩
  cases h2 : isTup 2 x with
  | false =>
    rw [press_no h2]
    exact xr_ret (xs_ret (ed_is (ed_and (a := false) (b := false) (ed_call (ea_cons ed_int (ea_cons (ed_var rfl) ea_nil)) ⟨_, _, rfl, by rw [h2]⟩) (fun z => nomatch z)) rfl))
  | true =>
    obtain ⟨n, m, rfl⟩ := press_tup h2
    exact xr_ret (xs_ret (ed_is (ed_and (a := true) (ed_call (ea_cons ed_int (ea_cons (ed_var rfl) ea_nil)) ⟨_, _, rfl, rfl⟩) fun _ => ed_and (ed_call (ea_cons (ed_op (ed_var rfl) ed_int r_ixT0) ea_nil) ⟨_, rfl, rfl⟩) fun _ => ed_call (ea_cons (ed_op (ed_var rfl) ed_int r_ixT1) ea_nil) ⟨_, rfl, rfl⟩) rfl))
abbrev s_fits_lot : Stmt := topS 19
def R_fits_lot : List PyData → PyData → Prop := fun ds d => ∃ x, ds = [x] ∧ Sm x ∧ d = .bool (fitsLot x)
theorem f_fits_lot (T : BL3 mg) (sm : ∃ mm, base.Ns sysModules mm) (a : At K mg "fits_lot" s_fits_lot) (c_is_press : Fc P w K mg base "is_press" ["value"] 3 (SpR K R_is_press)) : Fc P w K mg base "fits_lot" ["value"] 4 (SpR K R_fits_lot) := by
  have S : FnScope ["value", "press", "at"] ["value"] (defScope s_fits_lot) := ⟨rfl, rfl, rfl, by decide +kernel, rfl, by decide +kernel, by decide +kernel⟩
  refine fc_mk a S (fun _ _ _ _ _ _ us hl => match us, hl with | [_], _ => rfl) (by rintro _ _ ⟨x, rfl, _⟩; rfl) fun f cdv A outer s H E gu hr => ?_
  have hc : (cxOf CX0 P w K mg base ["value", "press", "at"] "fits_lot" (defScope s_fits_lot) f cdv A outer s H E).nox.calm = true := rfl
  have hu64 : (cxOf CX0 P w K mg base ["value", "press", "at"] "fits_lot" (defScope s_fits_lot) f cdv A outer s H E).nox.A.units + 64 < cLine := hr.units
  refine ⟨_, (pss_cons (ps_if (PW.pt (pw_or (pt_not (pt_val (pe_callB call_isi (by rfl) T.isinstance (by decide +kernel) (pa_cons (pv 0) (pa_cons (pe_bltn (v := .ty "list") (by rfl) T.list boot_list rfl) pa_nil))))) (pw_or1 (pt_not (pt_val (pe_callB (cr_all hc) (by rfl) T.all (by decide +kernel) (pa_cons (pe_lc (own := [("press", 1)]) hc S.nd (pi_list (pv 0)) (blkOk_by (N := ["value", "press", "at"]) (sc := defScope s_fits_lot) (by decide +kernel)) (fun _ _ _ _ _ => (pg_name (i := 1) S.nd rfl (by first | exact Or.inl rfl | exact Or.inr rfl))) (fun _ _ _ _ _ => pts_nil) (fun _ _ _ _ _ => (pe_f c_is_press gu (hr.mono (by decide)) (by rfl) (pa_cons (pv 1) pa_nil)))) pa_nil))))))) (pss_one (ps_ret pe_bl)) pss_nil)
  (pss_one (ps_ret (pe_callB (cr_all hc) (by rfl) T.all (by decide +kernel) (pa_cons (pe_lc (own := [("at", 2)]) hc S.nd (pi_range1 (by rfl) T.range (pa_cons (pe_op op_sub (pe_callB call_len_seq (by rfl) T.len (by decide +kernel) (pa_cons (pv 0) pa_nil)) pe_int) pa_nil)) (blkOk_by (N := ["value", "press", "at"]) (sc := defScope s_fits_lot) (by decide +kernel)) (fun _ _ _ _ _ => (pg_name (i := 2) S.nd rfl (by first | exact Or.inl rfl | exact Or.inr rfl))) (fun _ _ _ _ _ => pts_nil) (fun _ _ _ _ _ => (pe_cmpR (op_ltAK (K := K) rfl (by exact sm) (by exact hu64)) (pe_ix (ix_listK (K := K) rfl) (pv 0) (pv 2) (fun _ _ => rfl)) (pe_ix (ix_listK (K := K) rfl) (pv 0) (pe_op op_add (pv 2) pe_int) (fun _ _ => rfl)) (nomark _)))) pa_nil))))), ?_⟩
  rintro _ _ ⟨x, rfl, hz, rfl⟩
  cases x with
  | list es =>
    have hl : es.length ≤ 30000 := hz es (.inl rfl)
    have t0 := et_or (K := K) (ρ := [some (.list es), none, none]) (a := false) (b := !es.all isPress) (et_not (a := true) (et_B (ed_isi (T := "list") (ed_var (i := 0) (d := .list es) rfl)))) fun _ => et_not (et_B (ed_allL (j := 1) (vs := [1]) isPress (ed_var (i := 0) (d := .list es) rfl) (by decide) (Nat.le_trans hl (by decide)) fun d _ => ed_call (R := R_is_press) (E := E0) (ea_cons (ed_var (i := 1) rfl) ea_nil) ⟨_, rfl, rfl⟩))
    cases hp : es.all isPress with
    | false =>
      have e : fitsLot (.list es) = false := by
        show (es.all isPress && _) = false
        rw [hp]
        rfl
      rw [e]
      exact xr_ret (xs_leave (xs_if (et_is t0 (b := true) (by rw [hp]; rfl)) (fun _ => xs_ret ed_bl) (fun z => nomatch z)) trivial)
    | true =>
      have e : fitsLot (.list es) = ups es := by
        show (es.all isPress && _) = _
        rw [hp]
        rfl
      rw [e]
      refine xr_ret (xs_seq (xs_if (et_is t0 (b := false) (by rw [hp]; rfl)) (fun z => nomatch z) (fun _ => xs_next)) (xs_ret (ed_is (ed_allR1 (n := (es.length : Int) - 1) (fun i => dataLt (es.getD i .none) (es.getD (i + 1) .none)) (ea_cons (ed_op (ed_cb (ea_cons (ed_var rfl) ea_nil) rc_lenL) ed_int r_Ii) ea_nil) ⟨by omega, by omega⟩ (by decide) fun i hi => ?_) ?_)))
      · have hi' : i + 1 < es.length := by omega
        have g1 : es[i]? = some (es.getD i .none) := by
          rw [List.getD_eq_getElem?_getD, List.getElem?_eq_getElem (by omega)]
          rfl
        have g2 : es[i + 1]? = some (es.getD (i + 1) .none) := by
          rw [List.getD_eq_getElem?_getD, List.getElem?_eq_getElem (by omega)]
          rfl
        obtain ⟨k1, k2, k3⟩ := press_alike (List.all_eq_true.mp hp _ (List.mem_of_getElem? g1)) (List.all_eq_true.mp hp _ (List.mem_of_getElem? g2))
        exact ed_op (ed_op (ed_var rfl) (ed_var rfl) (r_ixL g1)) (ed_op (ed_var rfl) (ed_op (ed_var rfl) ed_int r_Ii) (r_ixL (i := i + 1) g2)) (r_ltA k1 k2 k3)
      · have e3 : ((es.length : Int) - 1).toNat = es.length - 1 := by omega
        rw [e3]
        rfl
  | _ => exact xr_ret (xs_leave (xs_if (et_or (a := true) (b := true) (et_is (et_not (et_B (ed_isi (ed_var (i := 0) rfl)))) rfl) (fun z => nomatch z)) (fun _ => xs_is (xs_ret ed_bl) rfl) (fun z => nomatch z)) trivial)
abbrev s_is_lot_of : Stmt := topS 44
def R_is_lot_of : List PyData → PyData → Prop := fun ds d => ∃ x, ds = [preG, x] ∧ BadLot x ∧ d = .bool false
theorem f_is_lot_of (T : BL3 mg) (a : At K mg "is_lot_of" s_is_lot_of) (c_fits_lot : Fc P w K mg base "fits_lot" ["value"] 4 (SpR K R_fits_lot)) : Fc P w K mg base "is_lot_of" ["presses", "value"] 5 (SpR K R_is_lot_of) := by
  have S : FnScope ["presses", "value", "tick", "room"] ["presses", "value"] (defScope s_is_lot_of) := ⟨rfl, rfl, rfl, by decide +kernel, rfl, by decide +kernel, by decide +kernel⟩
  refine fc_mk a S (fun _ _ _ _ _ _ us hl => match us, hl with | [_, _], _ => rfl) (by rintro _ _ ⟨x, rfl, _⟩; rfl) fun f cdv A outer s H E gu hr => ?_
  have hc : (cxOf CX0 P w K mg base ["presses", "value", "tick", "room"] "is_lot_of" (defScope s_is_lot_of) f cdv A outer s H E).nox.calm = true := rfl
  refine ⟨_, (pss_one (ps_ret (pe_and (pe_f c_fits_lot gu (hr.mono (by decide)) (by rfl) (pa_cons (pv 1) pa_nil)) (pe_one (pe_callB (cr_all hc) (by rfl) T.all (by decide +kernel) (pa_cons (pe_lc (own := [("tick", 2), ("room", 3)]) hc S.nd (pi_list (pv 1)) (blkOk_by (N := ["presses", "value", "tick", "room"]) (sc := defScope s_is_lot_of) (by decide +kernel)) (fun _ _ _ _ _ => (pg_tupK (K := K) (n := 2) rfl (by exact rfl) (pgs_cons (pg_name (i := 2) S.nd rfl (by first | exact Or.inl rfl | exact Or.inr rfl)) (pgs_cons (pg_name (i := 3) S.nd rfl (by first | exact Or.inl rfl | exact Or.inr rfl)) pgs_nil)))) (fun _ _ _ _ _ => pts_nil) (fun _ _ _ _ _ => (pe_and (pe_cmpR op_lt (pv 2) (pe_callB (lenK (K := K) rfl) (by rfl) T.len (by decide +kernel) (pa_cons (pv 0) pa_nil)) (nomark _)) (pe_one (pe_cmpR (inK (K := K) rfl) (pv 3) (pe_ix (ix_listK (K := K) rfl) (pv 0) (pv 2) (fun _ _ => rfl)) (by with_unfolding_all rfl)))))) pa_nil)))))), ?_⟩
  rintro _ _ ⟨x, rfl, ⟨hz, hx⟩, rfl⟩
  rcases hx with hx | ⟨t, r, rfl, h0, h1, h2⟩
  · exact xr_ret (xs_ret (ed_is (ed_and (a := false) (b := false) (ed_call (ea_cons (ed_var (i := 1) rfl) ea_nil) ⟨_, rfl, hz, by rw [hx]⟩) (fun z => nomatch z)) rfl))
  · have hf : fitsLot (.list [.tuple [.int t, .int r]]) = true := by
      show (([PyData.tuple [.int t, .int r]].all isPress) && ups [PyData.tuple [.int t, .int r]]) = true
      have e : isPress (.tuple [.int t, .int r]) = true := by
        show (decide (0 ≤ t) && decide (0 ≤ r)) = true
        rw [decide_eq_true h0, decide_eq_true h1]
        rfl
      rw [List.all_cons, e]
      rfl
    have two : (([PyData.tuple [.int t, .int r]].map fun d => PyData.bool false)) = [false].map PyData.bool := rfl
    have hp : ∀ d ∈ [PyData.tuple [.int t, .int r]], ∃ x y, d = .tuple [x, y] := fun d hd => by
      rw [List.mem_singleton.mp hd]
      exact ⟨_, _, rfl⟩
    refine xr_ret (xs_ret (ed_is (ed_and (a := true) (b := [false].all id) (ed_call (ea_cons (ed_var (i := 1) rfl) ea_nil) ⟨_, rfl, hz, by rw [hf]⟩) (fun _ => ed_cb (ea_cons (ed_is (ed_lcP (tt := tYes) (fun _ => true) (fun _ => .bool false) (ed_var (i := 1) rfl) (by decide) (by decide) (Nat.le_of_ble_eq_true rfl) hp (fun _ _ _ => et_yes) (fun x y hm _ => ?_)) (by rw [picked_all]; rfl)) ea_nil) rc_all)) rfl))
    have hm := List.mem_singleton.mp hm
    injection hm with hm
    injection hm with e1 hm
    injection hm with e2 _
    subst e1
    subst e2
    rcases h2 with ⟨rfl, h2⟩ | h2
    · refine ed_is (ed_and (a := true) (b := false) (ed_is (ed_op (ed_var (i := 2) rfl) (ed_cb (ea_cons (ed_var (i := 0) rfl) ea_nil) rc_lenL) r_Ib) rfl) fun _ => ed_is (ed_op (ed_var (i := 3) rfl) (ed_op (ed_var (i := 0) rfl) (ed_var (i := 2) rfl) r_ixL0) (r_in rfl rfl)) ?_) rfl
      show PyData.bool (PyData.eqv (.int 0) (.int r) || false) = PyData.bool false
      have e : PyData.eqv (.int 0) (.int r) = false := by
        show decide ((0 : Int) = r) = false
        exact decide_eq_false (by omega)
      rw [e]
      rfl
    · exact ed_is (ed_and (a := false) (b := false) (ed_is (ed_op (ed_var (i := 2) rfl) (ed_cb (ea_cons (ed_var (i := 0) rfl) ea_nil) rc_lenL) (r_Ib (g := fun i j => decide (i < j)))) (by rw [decide_eq_false (by show ¬ t < (2 : Int); omega)])) (fun z => nomatch z)) rfl
def X3l (A : Ad4) : List PyData → Addr → Nat → Prop := fun ds C i => ∃ l p v, ds = [l, p, v] ∧ (Bad2 A l p C i ∨ (l = levG ∧ p = preG ∧ BadLot v ∧ C = A.Presses ∧ i = 2))

abbrev s_check_lot : Stmt := topS 45
theorem f_check_lot (M : Ck4 P w K mg base A) (a : At K mg "check_lot" s_check_lot) (c_check_level : Fx P w K mg base "check_level" ["level"] 9 (SpX K R_check_level (X_check_level A))) (c_check_presses : Fx P w K mg base "check_presses" ["level", "presses"] 7 (SpX K R_check_presses (X_check_presses A))) (c_is_lot_of : Fc P w K mg base "is_lot_of" ["presses", "value"] 5 (SpR K R_is_lot_of)) : Fx P w K mg base "check_lot" ["level", "presses", "lot"] 10 (SpX K R_none (X3l A)) := by
  have S : FnScope ["level", "presses", "lot"] ["level", "presses", "lot"] (defScope s_check_lot) := ⟨rfl, rfl, rfl, by decide +kernel, rfl, by decide +kernel, by decide +kernel⟩
  refine fx_mk a S (fun _ _ _ _ _ _ us hl => match us, hl with | [_, _, _], _ => rfl) (fun _ _ h => h.elim) (by rintro _ _ _ ⟨l, p, v, rfl, _⟩; rfl) fun f cdv A' outer s H E gu hr tk => ?_
  have hc : (cxOf (L2.CX P w) P w K mg base ["level", "presses", "lot"] "check_lot" (defScope s_check_lot) f cdv A' outer s H E).calm = true := rfl
  refine ⟨_, (pss_cons (ps_expr (pe_fx c_check_level gu (hr.mono (by decide)) (by rfl) (fun σ => passAt tk σ) (pa_cons (pv 0) pa_nil)))
  (pss_cons (ps_expr (pe_fx c_check_presses gu (hr.mono (by decide)) (by rfl) (fun σ => passAt tk σ) (pa_cons (pv 0) (pa_cons (pv 1) pa_nil))))
  (pss_one (ps_if (pt_not (pt_val (pe_f c_is_lot_of gu (hr.mono (by decide)) (by rfl) (pa_cons (pv 1) (pa_cons (pv 2) pa_nil))))) (pss_one (ps_rz M.InvalidPresses rfl tk (hr.mono (by decide)) (by rfl) (pa_cons (pv 2) pa_nil))) pss_nil)))), fun _ _ h => h.elim, ?_⟩
  rintro _ _ _ ⟨l, p, v, rfl, (⟨hf, rfl, rfl⟩ | ⟨r, hL, hp, rfl, rfl⟩) | ⟨rfl, rfl, hb, rfl, rfl⟩⟩
  · exact xz_here (xz_call (eai_here rfl ea_nil) ⟨_, rfl, hf, rfl, rfl⟩)
  · exact xz_then (xi_drop (ed_callS (ea_cons (ed_var (i := 0) rfl) ea_nil) ⟨_, _, rfl, hL, rfl⟩)) (xz_here (xz_call (eai_next (ed_var (i := 0) rfl) (eai_here rfl ea_nil)) ⟨_, _, _, rfl, hL, hp, rfl, rfl⟩))
  · exact xz_then (xi_drop (ed_callS (ea_cons (ed_var (i := 0) rfl) ea_nil) ⟨_, _, rfl, lv_G, rfl⟩)) (xz_then (xi_drop (ed_callS (ea_cons (ed_var (i := 0) rfl) (ea_cons (ed_var (i := 1) rfl) ea_nil)) ⟨_, _, _, rfl, lv_G, gp_G, rfl⟩)) (xz_if1 (et_not (a := false) (et_B (ed_call (ea_cons (ed_var (i := 1) rfl) (ea_cons (ed_var (i := 2) rfl) ea_nil)) ⟨_, rfl, hb, rfl⟩))) (xz_raise rfl)))

theorem eai3 {ta : TA} {ρ : En} {l p v : PyData} {C : Addr} {i : Nat} (h0 : ρ[0]? = some (some l)) (h1 : ρ[1]? = some (some p)) (h2 : ρ[2]? = some (some v)) (hb : Bad2 A l p C i ∨ (l = levG ∧ p = preG ∧ BadLot v ∧ C = A.Presses ∧ i = 2)) : EAi K (tCons (tVar 0) (tCons (tVar 1) (tCons (tVar 2) tNil))) ρ [l, p, v] i i := by
  have hi : i = 0 ∨ i = 1 ∨ i = 2 := by
    rcases hb with (⟨_, _, rfl⟩ | ⟨_, _, _, _, rfl⟩) | ⟨_, _, _, _, rfl⟩ <;> simp
  rcases hi with rfl | rfl | rfl
  · exact eai_here h0 (ea_cons (ed_var h1) (ea_cons (ed_var h2) ea_nil))
  · exact eai_next (ed_var h0) (eai_here h1 (ea_cons (ed_var h2) ea_nil))
  · exact eai_next (ed_var h0) (eai_next (ed_var h1) (eai_here h2 ea_nil))

abbrev s_with_only : Stmt := topS 46
theorem f_with_only (a : At K mg "with_only" s_with_only) (c_check_lot : Fx P w K mg base "check_lot" ["level", "presses", "lot"] 10 (SpX K R_none (X3l A))) : Fx P w K mg base "with_only" ["level", "presses", "lot"] 11 (SpX K R_none (X3l A)) := by
  have S : FnScope ["level", "presses", "lot"] ["level", "presses", "lot"] (defScope s_with_only) := ⟨rfl, rfl, rfl, by decide +kernel, rfl, by decide +kernel, by decide +kernel⟩
  refine fx_mk a S (fun _ _ _ _ _ _ us hl => match us, hl with | [_, _, _], _ => rfl) (fun _ _ h => h.elim) (by rintro _ _ _ ⟨l, p, v, rfl, _⟩; rfl) fun f cdv A' outer s H E gu hr tk => ?_
  have hc : (cxOf (L2.CX P w) P w K mg base ["level", "presses", "lot"] "with_only" (defScope s_with_only) f cdv A' outer s H E).calm = true := rfl
  refine ⟨_, (pss_cons (ps_expr (pe_fx c_check_lot gu (hr.mono (by decide)) (by rfl) (fun σ => passAt tk σ) (pa_cons (pv 0) (pa_cons (pv 1) (pa_cons (pv 2) pa_nil)))))
  (pss_one ps_no)), fun _ _ h => h.elim, ?_⟩
  rintro _ C i ⟨l, p, v, rfl, hb⟩
  exact xz_here (xz_call (eai3 (ta := tNil) rfl rfl rfl hb) ⟨_, _, _, rfl, hb⟩)

abbrev s_without : Stmt := topS 47
theorem f_without (a : At K mg "without" s_without) (c_check_lot : Fx P w K mg base "check_lot" ["level", "presses", "lot"] 10 (SpX K R_none (X3l A))) : Fx P w K mg base "without" ["level", "presses", "lot"] 11 (SpX K R_none (X3l A)) := by
  have S : FnScope ["level", "presses", "lot"] ["level", "presses", "lot"] (defScope s_without) := ⟨rfl, rfl, rfl, by decide +kernel, rfl, by decide +kernel, by decide +kernel⟩
  refine fx_mk a S (fun _ _ _ _ _ _ us hl => match us, hl with | [_, _, _], _ => rfl) (fun _ _ h => h.elim) (by rintro _ _ _ ⟨l, p, v, rfl, _⟩; rfl) fun f cdv A' outer s H E gu hr tk => ?_
  have hc : (cxOf (L2.CX P w) P w K mg base ["level", "presses", "lot"] "without" (defScope s_without) f cdv A' outer s H E).calm = true := rfl
  refine ⟨_, (pss_cons (ps_expr (pe_fx c_check_lot gu (hr.mono (by decide)) (by rfl) (fun σ => passAt tk σ) (pa_cons (pv 0) (pa_cons (pv 1) (pa_cons (pv 2) pa_nil)))))
  (pss_one ps_no)), fun _ _ h => h.elim, ?_⟩
  rintro _ C i ⟨l, p, v, rfl, hb⟩
  exact xz_here (xz_call (eai3 (ta := tNil) rfl rfl rfl hb) ⟨_, _, _, rfl, hb⟩)

def X5 (A : Ad4) : List PyData → Addr → Nat → Prop := fun ds C i => ∃ l p t m v, ds = [l, p, t, m, v] ∧ Bad4 A l p t m C i
def R_judge : List PyData → PyData → Prop := fun ds d => ∃ v, ds = [levG, preG, .int 1, .int 1, v] ∧ BadLot v ∧ d = .bool false

abbrev s_is_reason : Stmt := topS 56
theorem f_is_reason (a : At K mg "is_reason" s_is_reason) (c_check_room_at : Fx P w K mg base "check_room_at" ["level", "presses", "tick", "room"] 10 (SpX K R_check_room_at (X4 A))) (c_is_lot_of : Fc P w K mg base "is_lot_of" ["presses", "value"] 5 (SpR K R_is_lot_of)) : Fx P w K mg base "is_reason" ["level", "presses", "tick", "room", "value"] 11 (SpX K R_judge (X5 A)) := by
  have S : FnScope ["level", "presses", "tick", "room", "value", "part"] ["level", "presses", "tick", "room", "value"] (defScope s_is_reason) := ⟨rfl, rfl, rfl, by decide +kernel, rfl, by decide +kernel, by decide +kernel⟩
  refine fx_mk a S (fun _ _ _ _ _ _ us hl => match us, hl with | [_, _, _, _, _], _ => rfl) (by rintro _ _ ⟨v, rfl, _⟩; rfl) (by rintro _ _ _ ⟨l, p, t, m, v, rfl, _⟩; rfl) fun f cdv A' outer s H E gu hr tk => ?_
  have hc : (cxOf (L2.CX P w) P w K mg base ["level", "presses", "tick", "room", "value", "part"] "is_reason" (defScope s_is_reason) f cdv A' outer s H E).calm = true := rfl
  refine ⟨_, (pss_cons (ps_expr (pe_fx c_check_room_at gu (hr.mono (by decide)) (by rfl) (fun σ => passAt tk σ) (pa_cons (pv 0) (pa_cons (pv 1) (pa_cons (pv 2) (pa_cons (pv 3) pa_nil))))))
  (pss_cons (ps_if (PW.pt (pw_or (pt_not (pt_val (pe_f c_is_lot_of gu (hr.mono (by decide)) (by rfl) (pa_cons (pv 1) (pa_cons (pv 4) pa_nil))))) (pw_or1 (pt_not (pt_val pe_no))))) (pss_one (ps_ret pe_bl)) pss_nil)
  (pss_one ps_no))), ?_, ?_⟩
  · rintro _ _ ⟨v, rfl, hb, rfl⟩
    exact xr_ret (xs_seq (xs_drop (ed_callS (ea_cons (ed_var (i := 0) rfl) (ea_cons (ed_var (i := 1) rfl) (ea_cons (ed_var (i := 2) rfl) (ea_cons (ed_var (i := 3) rfl) ea_nil)))) ⟨_, _, _, _, _, rfl, lv_G, gp_G, rfl, rfl, rfl⟩)) (xs_leave (xs_if (et_or (a := true) (b := true) (et_not (a := false) (et_B (ed_call (ea_cons (ed_var (i := 1) rfl) (ea_cons (ed_var (i := 4) rfl) ea_nil)) ⟨_, rfl, hb, rfl⟩))) (fun z => nomatch z)) (fun _ => xs_ret ed_bl) (fun z => nomatch z)) trivial))
  · rintro _ C i ⟨l, p, t, m, v, rfl, hb⟩
    exact xz_here (xz_call (eai4 (ta := tNil) rfl rfl rfl rfl hb) ⟨_, _, _, _, rfl, hb⟩)

abbrev s_is_cut : Stmt := topS 57
theorem f_is_cut (a : At K mg "is_cut" s_is_cut) (c_check_room_at : Fx P w K mg base "check_room_at" ["level", "presses", "tick", "room"] 10 (SpX K R_check_room_at (X4 A))) (c_is_lot_of : Fc P w K mg base "is_lot_of" ["presses", "value"] 5 (SpR K R_is_lot_of)) : Fx P w K mg base "is_cut" ["level", "presses", "tick", "room", "value"] 11 (SpX K R_judge (X5 A)) := by
  have S : FnScope ["level", "presses", "tick", "room", "value", "part", "others", "lot"] ["level", "presses", "tick", "room", "value"] (defScope s_is_cut) := ⟨rfl, rfl, rfl, by decide +kernel, rfl, by decide +kernel, by decide +kernel⟩
  refine fx_mk a S (fun _ _ _ _ _ _ us hl => match us, hl with | [_, _, _, _, _], _ => rfl) (by rintro _ _ ⟨v, rfl, _⟩; rfl) (by rintro _ _ _ ⟨l, p, t, m, v, rfl, _⟩; rfl) fun f cdv A' outer s H E gu hr tk => ?_
  have hc : (cxOf (L2.CX P w) P w K mg base ["level", "presses", "tick", "room", "value", "part", "others", "lot"] "is_cut" (defScope s_is_cut) f cdv A' outer s H E).calm = true := rfl
  refine ⟨_, (pss_cons (ps_expr (pe_fx c_check_room_at gu (hr.mono (by decide)) (by rfl) (fun σ => passAt tk σ) (pa_cons (pv 0) (pa_cons (pv 1) (pa_cons (pv 2) (pa_cons (pv 3) pa_nil))))))
  (pss_cons (ps_if (PW.pt (pw_or (pt_not (pt_val (pe_f c_is_lot_of gu (hr.mono (by decide)) (by rfl) (pa_cons (pv 1) (pa_cons (pv 4) pa_nil))))) (pw_or1 (pt_val pe_no)))) (pss_one (ps_ret pe_bl)) pss_nil)
  (pss_cons ps_no (pss_one ps_no)))), ?_, ?_⟩
  · rintro _ _ ⟨v, rfl, hb, rfl⟩
    exact xr_ret (xs_seq (xs_drop (ed_callS (ea_cons (ed_var (i := 0) rfl) (ea_cons (ed_var (i := 1) rfl) (ea_cons (ed_var (i := 2) rfl) (ea_cons (ed_var (i := 3) rfl) ea_nil)))) ⟨_, _, _, _, _, rfl, lv_G, gp_G, rfl, rfl, rfl⟩)) (xs_leave (xs_if (et_or (a := true) (b := true) (et_not (a := false) (et_B (ed_call (ea_cons (ed_var (i := 1) rfl) (ea_cons (ed_var (i := 4) rfl) ea_nil)) ⟨_, rfl, hb, rfl⟩))) (fun z => nomatch z)) (fun _ => xs_ret ed_bl) (fun z => nomatch z)) trivial))
  · rintro _ C i ⟨l, p, t, m, v, rfl, hb⟩
    exact xz_here (xz_call (eai4 (ta := tNil) rfl rfl rfl rfl hb) ⟨_, _, _, _, rfl, hb⟩)

def BadLots (x : PyData) : Prop := isT "list" x = false ∨ ∃ es, x = .list es ∧ es.length ≤ 30000 ∧ (∀ e ∈ es, Sm e) ∧ es.all fitsLot = false
def X_crossing (A : Ad4) : List PyData → Addr → Nat → Prop := fun ds C i => ∃ x, ds = [x] ∧ BadLots x ∧ C = A.Presses ∧ i = 0

abbrev s_crossing : Stmt := topS 59
theorem f_crossing (M : Ck4 P w K mg base A) (T : BL3 mg) (a : At K mg "crossing" s_crossing) (c_fits_lot : Fc P w K mg base "fits_lot" ["value"] 4 (SpR K R_fits_lot)) : Fx P w K mg base "crossing" ["lots"] 5 (SpX K R_none (X_crossing A)) := by
  have S : FnScope ["lots", "lot", "press", "items", "masks"] ["lots"] (defScope s_crossing) := ⟨rfl, rfl, rfl, by decide +kernel, rfl, by decide +kernel, by decide +kernel⟩
  refine fx_mk a S (fun _ _ _ _ _ _ us hl => match us, hl with | [_], _ => rfl) (fun _ _ h => h.elim) (by rintro _ _ _ ⟨x, rfl, _⟩; rfl) fun f cdv A' outer s H E gu hr tk => ?_
  have hc : (cxOf (L2.CX P w) P w K mg base ["lots", "lot", "press", "items", "masks"] "crossing" (defScope s_crossing) f cdv A' outer s H E).calm = true := rfl
  refine ⟨_, (pss_cons (ps_if (PW.pt (pw_or (pt_not (pt_val (pe_callB call_isi (by rfl) T.isinstance (by decide +kernel) (pa_cons (pv 0) (pa_cons (pe_bltn (v := .ty "list") (by rfl) T.list boot_list rfl) pa_nil))))) (pw_or1 (pt_not (pt_val (pe_callB (cr_all hc) (by rfl) T.all (by decide +kernel) (pa_cons (pe_lc (own := [("lot", 1)]) hc S.nd (pi_list (pv 0)) (blkOk_by (N := ["lots", "lot", "press", "items", "masks"]) (sc := defScope s_crossing) (by decide +kernel)) (fun _ _ _ _ _ => (pg_name (i := 1) S.nd rfl (by first | exact Or.inl rfl | exact Or.inr rfl))) (fun _ _ _ _ _ => pts_nil) (fun _ _ _ _ _ => (pe_f c_fits_lot gu (hr.mono (by decide)) (by rfl) (pa_cons (pv 1) pa_nil)))) pa_nil))))))) (pss_one (ps_rz M.InvalidPresses rfl tk (hr.mono (by decide)) (by rfl) (pa_cons (pv 0) pa_nil))) pss_nil)
  (pss_cons ps_no (pss_cons ps_no (pss_one ps_no)))), fun _ _ h => h.elim, ?_⟩
  rintro _ _ _ ⟨x, rfl, hx, rfl, rfl⟩
  refine xz_here (xz_if1 ?_ (xz_raise rfl))
  rcases hx with hx | ⟨es, rfl, hl, hs, hf⟩
  · exact et_or (a := true) (b := true) (et_is (et_not (et_B (ed_isi (ed_var (i := 0) rfl)))) (by rw [hx]; rfl)) (fun z => nomatch z)
  · exact et_is (et_or (a := false) (et_is (et_not (et_B (ed_isi (ed_var (i := 0) rfl)))) rfl) fun _ => et_not (et_B (ed_allL fitsLot (ed_var (i := 0) rfl) (by decide) (Nat.le_trans hl (by decide)) fun d hd => ed_call (R := R_fits_lot) (ea_cons (ed_var rfl) ea_nil) ⟨_, rfl, hs d hd, rfl⟩))) (by rw [hf]; rfl)

end
end TD

set_option maxHeartbeats 4000000
namespace TD
open PySem PySem.Spec PyProof.Rows L2
open Evl (Ex)
open LamX (CodeO Tabs TabB ExtN)
/-! # what is refused is refused as told -/
abbrev Ad4.InvalidLevel (A : Ad4) : Addr := A.Level
abbrev Ad4.InvalidNumber (A : Ad4) : Addr := A.Number
abbrev Ad4.InvalidPresses (A : Ad4) : Addr := A.Presses
abbrev Ad4.InvalidRoom (A : Ad4) : Addr := A.Room
structure B7 (mg : Str → Option Value) : Prop where
  repr : mg "repr" = none
  isinstance : mg "isinstance" = none
  zip : mg "zip" = none
  ValueError : mg "ValueError" = none
structure Ce (K : Fg) (mg : Str → Option Value) (A : Ad4) (DE : Addr) : Prop where
  s_InvalidLevel : Std K mg "InvalidLevel" A.Level [.ref DE]
  s_InvalidNumber : Std K mg "InvalidNumber" A.Number [.ref DE]
  s_InvalidPresses : Std K mg "InvalidPresses" A.Presses [.ref DE]
  s_InvalidRoom : Std K mg "InvalidRoom" A.Room [.ref DE]
  sD : Std K mg "DoorError" DE []
  n_Level : PySem.W.findIn K (.ref A.Level) "value" = some none
  n_Number : PySem.W.findIn K (.ref A.Number) "value" = some none
  n_Presses : PySem.W.findIn K (.ref A.Presses) "value" = some none
  n_Room : PySem.W.findIn K (.ref A.Room) "value" = some none
  nd : [DE, A.Level, A.Number, A.Presses, A.Room].Nodup
theorem boot_ValueError : bootBuiltins "ValueError" = some (.type "ValueError") := by decide +kernel
def l4 (A : Ad4) : List Addr := [A.Level, A.Number, A.Presses, A.Room]
def nm4 : List Str := ["level", "number", "presses", "room"]
section
variable {K : Fg} {mg : Str → Option Value} {A : Ad4} {DE : Addr}
/-- what is known of the i-th class -/
structure Knd (K : Fg) (A : Ad4) (DE : Addr) (C : Addr) (i : Nat) : Prop where
  T : ExcC K C
  no : PySem.W.findIn K (.ref C) "value" = some none
  ex : PySem.W.exmOne K (.ref C) (.ref DE) = some true
  ve : PySem.W.kitOne K (.ref C) (.type "ValueError") = some true
  kd : ∀ (j : Nat) (D : Addr), (l4 A)[j]? = some D → PySem.W.kitOne K (.ref C) (.ref D) = some (decide (j = i))
theorem exm_up {x y : Str} {C D : Addr} (h : Std K mg x C [.ref D]) (k : Std K mg y D []) : PySem.W.exmOne K (.ref C) (.ref D) = some true :=
  PySem.W.exm_ref (k.sub (List.mem_append_right _ (by decide))) k.has k.tyC (h.sub (List.mem_append_left _ (List.mem_singleton.mpr rfl)))
theorem Ce.std (Z : Ce K mg A DE) {i : Nat} {C : Addr} (h : (l4 A)[i]? = some C) : ∃ x, Std K mg x C [.ref DE] ∧ PySem.W.findIn K (.ref C) "value" = some none := by
  match i, h with
  | 0, h => cases h; exact ⟨_, Z.s_InvalidLevel, Z.n_Level⟩
  | 1, h => cases h; exact ⟨_, Z.s_InvalidNumber, Z.n_Number⟩
  | 2, h => cases h; exact ⟨_, Z.s_InvalidPresses, Z.n_Presses⟩
  | 3, h => cases h; exact ⟨_, Z.s_InvalidRoom, Z.n_Room⟩
theorem Ce.knd (Z : Ce K mg A DE) {i : Nat} {C : Addr} (h : (l4 A)[i]? = some C) : Knd K A DE C i := by
  obtain ⟨x, hx, no⟩ := Z.std h
  have nd6 := (List.nodup_cons.mp Z.nd).2
  have nDE := (List.nodup_cons.mp Z.nd).1
  refine ⟨hx.exc, no, exm_up hx Z.sD, hx.kitT (List.mem_append_right _ (by decide)) (by decide +kernel), fun j D hj => ?_⟩
  obtain ⟨y, hy, _⟩ := Z.std hj
  have e := hx.kit hy (not_bm (by
    intro z
    have z' := List.mem_singleton.mp z
    injection z' with z'
    exact nDE (z' ▸ List.mem_of_getElem? hj)))
  rw [e]
  congr 1
  rw [decide_eq_decide]
  constructor
  · intro q
    subst q
    obtain ⟨h1, e1⟩ := List.getElem?_eq_some_iff.mp h
    obtain ⟨h2, e2⟩ := List.getElem?_eq_some_iff.mp hj
    exact (List.getElem_inj nd6).mp (e2.trans e1.symm)
  · intro q
    subst q
    rw [h] at hj
    exact Option.some.inj hj
def RK (A : Ad4) : Str → PyData → Addr → Prop := fun nm fld C => ∃ i : Nat, (l4 A)[i]? = some C ∧ nm4[i]? = some nm ∧ Fine fld
def kindsD (i : Nat) : List PyData := ((List.range 4).map fun j => PyData.bool (decide (j = i))) ++ [.bool true]
def namesD : List PyData := [.str "level", .str "number", .str "presses", .str "room", .str "value"]
def tolD (i : Nat) : List PyData := picked ((namesD.zip (kindsD i)).map fun p => .tuple [p.1, p.2]) (fun d => match d with | .tuple [_, .bool b] => b | _ => false) (fun d => match d with | .tuple [x, _] => x | _ => .none)
theorem tol_is {i : Nat} {nm : Str} (h : nm4[i]? = some nm) : tolD i = [.str nm, .str "value"] := by
  match i, h with
  | 0, h => cases h; rfl
  | 1, h => cases h; rfl
  | 2, h => cases h; rfl
  | 3, h => cases h; rfl
theorem tol_sh {i : Nat} {nm : Str} (h : nm4[i]? = some nm) : SeqAt.shaped (.list [.str nm, .str "value"]) = true ∧ PyData.eqv (.list [.str nm, .str "value"]) (.list [.str nm, .str "value"]) = true := by
  match i, h with
  | 0, h => cases h; exact ⟨by decide +kernel, by decide +kernel⟩
  | 1, h => cases h; exact ⟨by decide +kernel, by decide +kernel⟩
  | 2, h => cases h; exact ⟨by decide +kernel, by decide +kernel⟩
  | 3, h => cases h; exact ⟨by decide +kernel, by decide +kernel⟩
end
abbrev s__law_refused : Stmt := topS 75
theorem S_refused : FnScope ["_law_call_here", "_law_name", "_law_value", "_law_error", "_law_before", "e", "_law_kinds", "_law_names", "_law_word", "_law_kind"] ["_law_call_here", "_law_name", "_law_value"] (defScope s__law_refused) := ⟨rfl, rfl, rfl, by decide +kernel, rfl, by decide +kernel, by decide +kernel⟩
theorem g__law_refused {X : Cx} {A : Ad4} {DE : Addr} {k : Nat} (T : B7 X.mg) (sm : ∃ mm, X.base.Ns sysModules mm) (M : Ce X.K X.mg A DE) : Gives X ["_law_call_here", "_law_name", "_law_value", "_law_error", "_law_before", "e", "_law_kinds", "_law_names", "_law_word", "_law_kind"] "_law_refused" s__law_refused k "_law_call_here" (TTr X.K (RK A)) := by
  intro g cdg f cc s H Q tl vs gu hr act hcc ⟨B, nm, v, v', fld, C, hvs, sB, dv, dv', ⟨i, hC, hn, hF⟩, htl, hQ⟩
  subst hvs
  have S := S_refused
  have kn := M.knd hC
  have hc : (cxOf CX0 X.prog X.w X.K X.mg X.base ["_law_call_here", "_law_name", "_law_value", "_law_error", "_law_before", "e", "_law_kinds", "_law_names", "_law_word", "_law_kind"] "_law_refused" (defScope s__law_refused) g cdg X.A X.stack s H E0).nox.calm = true := rfl
  have hu : (cxOf CX0 X.prog X.w X.K X.mg X.base ["_law_call_here", "_law_name", "_law_value", "_law_error", "_law_before", "e", "_law_kinds", "_law_names", "_law_word", "_law_kind"] "_law_refused" (defScope s__law_refused) g cdg X.A X.stack s H E0).nox.A.units + 200 < cLine := Nat.lt_of_le_of_lt (Nat.add_le_add_right (Nat.le_add_right _ _) _) hr.un
  have hu64 : (cxOf CX0 X.prog X.w X.K X.mg X.base ["_law_call_here", "_law_name", "_law_value", "_law_error", "_law_before", "e", "_law_kinds", "_law_names", "_law_word", "_law_kind"] "_law_refused" (defScope s__law_refused) g cdg X.A X.stack s H E0).nox.A.units + 64 < cLine := hr.units
  refine ⟨_, (pss_cons (ps_par (i := 3) (j := 4) hc S.nd rfl rfl (by decide) rfl rfl (pa_cons pe_non (pa_cons (pe_callB (call_reprA sm gu hu) (by rfl) T.repr (by decide +kernel) (pa_cons (pv 2) pa_nil)) pa_nil)) (by rfl))
  (pss_cons (ps_keep (i := 5) (tb := (fun W => tAct f cc (X.env.qual ++ "<lambda>") tl W)) rfl rfl rfl S.nd rfl rfl ⟨rfl, by decide, Or.inl M.sD.gC⟩ (fun W pn xe tk _ => (pss_one (ps_act (fun E => act W pn xe E _ _ tk)))) (fun a oe cls d pn hz hf => (pss_one (ps_set (i := 3) S.nd rfl (by first | exact Or.inl rfl | exact Or.inr rfl) (pv 5)))))
  (pss_cons (ps_set (i := 6) S.nd rfl (by first | exact Or.inl rfl | exact Or.inr rfl) (pe_lst (pa_cons (pe_callB call_isK (by rfl) T.isinstance (by decide +kernel) (pa_cons (pv 3) (pa_cons (pe_glob (v := .ref A.InvalidLevel) (by rfl) M.s_InvalidLevel.gC rfl) pa_nil))) (pa_cons (pe_callB call_isK (by rfl) T.isinstance (by decide +kernel) (pa_cons (pv 3) (pa_cons (pe_glob (v := .ref A.InvalidNumber) (by rfl) M.s_InvalidNumber.gC rfl) pa_nil))) (pa_cons (pe_callB call_isK (by rfl) T.isinstance (by decide +kernel) (pa_cons (pv 3) (pa_cons (pe_glob (v := .ref A.InvalidPresses) (by rfl) M.s_InvalidPresses.gC rfl) pa_nil))) pa_nil)))))
  (pss_cons (ps_set (i := 6) S.nd rfl (by first | exact Or.inl rfl | exact Or.inr rfl) (pe_op op_cat (pv 6) (pe_lst (pa_cons (pe_callB call_isK (by rfl) T.isinstance (by decide +kernel) (pa_cons (pv 3) (pa_cons (pe_glob (v := .ref A.InvalidRoom) (by rfl) M.s_InvalidRoom.gC rfl) pa_nil))) (pa_cons (pe_callB call_isK (by rfl) T.isinstance (by decide +kernel) (pa_cons (pv 3) (pa_cons (pe_bltn (v := .ty "ValueError") (by rfl) T.ValueError boot_ValueError rfl) pa_nil))) pa_nil)))))
  (pss_cons (ps_set (i := 7) S.nd rfl (by first | exact Or.inl rfl | exact Or.inr rfl) (pe_lst (pa_cons pe_str (pa_cons pe_str (pa_cons pe_str (pa_cons pe_str (pa_cons pe_str pa_nil)))))))
  (pss_cons (ps_if (pt_cmpR (op_neA sm hu64) (pe_lc (own := [("_law_word", 8), ("_law_kind", 9)]) hc S.nd (pi_zip (by rfl) T.zip (pa_cons (pv 7) (pa_cons (pv 6) pa_nil))) (blkOk_by (N := ["_law_call_here", "_law_name", "_law_value", "_law_error", "_law_before", "e", "_law_kinds", "_law_names", "_law_word", "_law_kind"]) (sc := defScope s__law_refused) (by decide +kernel)) (fun _ _ _ _ _ => (pg_tupK (K := X.K) (n := 2) rfl (by exact rfl) (pgs_cons (pg_name (i := 8) S.nd rfl (by first | exact Or.inl rfl | exact Or.inr rfl)) (pgs_cons (pg_name (i := 9) S.nd rfl (by first | exact Or.inl rfl | exact Or.inr rfl)) pgs_nil)))) (fun _ _ _ _ _ => (pts_one (pt_val (pv 9)))) (fun _ _ _ _ _ => (pv 8))) (pe_lst (pa_cons (pv 1) (pa_cons pe_str pa_nil))) (nomark _)) (pss_one (ps_ret pe_bl)) pss_nil)
  (pss_one (ps_ret (pe_cmpR op_eq (pe_callB (call_reprA sm gu hu) (by rfl) T.repr (by decide +kernel) (pa_cons (pe_valueK (pv 3)) pa_nil)) (pv 4) (nomark _)))))))))), ?_⟩
  have sd : SD X.K B (L2.start ["_law_call_here", "_law_name", "_law_value", "_law_error", "_law_before", "e", "_law_kinds", "_law_names", "_law_word", "_law_kind"] [.ref f, .str nm, v]) [none, some (.str nm), some fld, none, none, none, none, none, none, none] := ⟨rfl, fun i d h => by
    match i, h with
    | 1, h => cases h; exact ⟨_, rfl, .str nm⟩
    | 2, h => cases h; exact ⟨_, rfl, dv⟩
    | i + 10, h => cases h⟩
  have e0 : (L2.start ["_law_call_here", "_law_name", "_law_value", "_law_error", "_law_before", "e", "_law_kinds", "_law_names", "_law_word", "_law_kind"] [.ref f, .str nm, v])[0]? = some (some (.ref f)) := rfl
  generalize L2.start ["_law_call_here", "_law_name", "_law_value", "_law_error", "_law_before", "e", "_law_kinds", "_law_names", "_law_word", "_law_kind"] [.ref f, .str nm, v] = σ at *
  -- error, before
  refine q_par (ea_cons ed_non (ea_cons (ed_cb (ea_cons (ed_var (i := 2) rfl) ea_nil) (rc_repr hF)) ea_nil) σ B H sB sd _ fun vs B1 H1 l1 d1 => ?_)
  obtain ⟨v3, r3, rfl, d3, d1⟩ := d1.inv1
  obtain ⟨v4, r4, rfl, d4, d1⟩ := d1.inv1
  cases d1
  refine ⟨v3, v4, rfl, ?_⟩
  have sd1 := ((sd.up l1.ek).put 3 d3).put 4 d4
  have len1 := sd1.1
  have g0 : ((σ.set 3 (some v3)).set 4 (some v4))[0]? = some (some (.ref f)) := by
    rw [List.getElem?_set_ne (by decide), List.getElem?_set_ne (by decide)]
    exact e0
  generalize (σ.set 3 (some v3)).set 4 (some v4) = σ1 at *
  -- the call
  refine ⟨fun c d J => wKeep _ _ _ _ _ c d σ1 J, g0, l1.ex _ _ hcc, fun _ _ _ h => h, htl _ B1 H1 _ l1 fun x B2 H2 l2 hx => ⟨C, x, rfl, rfl, kn.ex, fun ax hax => ?_⟩⟩
  -- it is kept
  refine ⟨.ref ax, by rw [List.getElem?_set_self (by rw [len1]; exact Nat.le_of_ble_eq_true rfl)], ?_⟩
  have nx : x ≠ ax := fun z => by
    rw [z, hax] at hx
    cases hx
  have l3 : Le B2 H2 B2 (upd H2 ax (exk ax C x)) := ⟨Ex.new hax, Ex.refl B2, l2.sub.trans (Ex.new hax), fun _ h _ => h⟩
  have sd3 := (((sd1.up l2.ek).drop 5 (some (.ref ax))).drop 3 (some (.ref ax))).drop 5 none
  have j3 : JC 3 ax C v' (((σ1.set 5 (some (.ref ax))).set 3 (some (.ref ax))).set 5 none) (upd H2 ax (exk ax C x)) := by
    refine ⟨?_, x, upd_same, ?_⟩
    · rw [List.getElem?_set_ne (by decide), List.getElem?_set_self (by rw [List.length_set, len1]; exact Nat.le_of_ble_eq_true rfl)]
    · rw [upd_ne nx]
      exact hx
  have lq : Le B H B2 (upd H2 ax (exk ax C x)) := (l1.tr l2).tr l3
  have s3 := l3.sub
  have dv3 := dv'.ex lq.ek
  try dsimp only [gName]
  generalize ((σ1.set 5 (some (.ref ax))).set 3 (some (.ref ax))).set 5 none = σ3 at *
  generalize upd H2 ax (exk ax C x) = H3 at *
  -- kinds
  refine q_asg ((edj_lst (eaj_cons jc_stab (edj_isK kn.T (.own _) (kn.kd 0 _ rfl)) (eaj_cons jc_stab (edj_isK kn.T (.own _) (kn.kd 1 _ rfl)) (eaj_cons jc_stab (edj_isK kn.T (.own _) (kn.kd 2 _ rfl)) eaj_nil)))) σ3 B2 H3 s3 sd3 j3 _ fun v8 B5 H5 l5 d5 => ?_)
  have sd5 := (sd3.up l5.ek).put 6 d5
  have j5 : JC 3 ax C v' (σ3.set 6 (some v8)) H5 := ⟨by rw [List.getElem?_set_ne (by decide)]; exact j3.1, j3.2.ex l5.ex⟩
  try dsimp only [gName]
  generalize σ3.set 6 (some v8) = σ5 at *
  refine q_asg ((edj_op jc_stab (edj_of (ed_var (i := 6) rfl)) (edj_lst (eaj_cons jc_stab (edj_isK kn.T (.own _) (kn.kd 3 _ rfl)) (eaj_cons jc_stab (edj_isK kn.T (.ty _) kn.ve) eaj_nil))) (r_cat (Nat.le_of_ble_eq_true rfl))) σ5 B5 H5 l5.sub sd5 j5 _ fun v9 B6 H6 l6 d6 => ?_)
  have sd6 := (sd5.up l6.ek).put 6 d6
  have j6 : JC 3 ax C v' (σ5.set 6 (some v9)) H6 := ⟨by rw [List.getElem?_set_ne (by decide)]; exact j5.1, j5.2.ex l6.ex⟩
  try dsimp only [gName]
  generalize σ5.set 6 (some v9) = σ6 at *
  -- names
  refine q_asg ((edj_of (J := JC 3 ax C v') (ed_lst (ea_cons ed_str (ea_cons ed_str (ea_cons ed_str (ea_cons ed_str (ea_cons ed_str ea_nil))))) (Nat.le_of_ble_eq_true rfl))) σ6 B6 H6 l6.sub sd6 j6 _ fun v10 B7 H7 l7 d7 => ?_)
  have sd7 := (sd6.up l7.ek).put 7 d7
  have j7 : JC 3 ax C v' (σ6.set 7 (some v10)) H7 := ⟨by rw [List.getElem?_set_ne (by decide)]; exact j6.1, j6.2.ex l7.ex⟩
  try dsimp only [gName]
  generalize σ6.set 7 (some v10) = σ7 at *
  -- just these
  refine q_if ((etj_of (J := JC 3 ax C v') (et_is (b := false) (et_test (ed_op (ed_lcZ (ds := namesD) (es := kindsD i) (fun d => match d with | .tuple [_, .bool b] => b | _ => false) (fun d => match d with | .tuple [x, _] => x | _ => .none) (ea_cons (ed_var (i := 7) rfl) (ea_cons (ed_var (i := 6) rfl) ea_nil)) rfl (by decide) (by decide) (Nat.le_of_ble_eq_true rfl) (fun k x y hx hy => ?_) (fun k x y hx hy _ => ed_var rfl)) (ed_lst (ea_cons (ed_var (i := 1) rfl) (ea_cons ed_str ea_nil)) (Nat.le_of_ble_eq_true rfl)) (r_neA ?_ (tol_sh hn).1))) ?_)) σ7 B7 H7 l7.sub sd7 j7 _ fun B8 H8 l8 => ?_)
  · obtain ⟨b, rfl⟩ : ∃ b, y = .bool b := by
      have hy' := List.mem_of_getElem? hy
      unfold kindsD at hy'
      rcases List.mem_append.mp hy' with z | z
      · obtain ⟨_, _, e⟩ := List.mem_map.mp z
        exact ⟨_, e.symm⟩
      · rw [List.mem_singleton.mp z]
        exact ⟨_, rfl⟩
    exact et_B (ed_var rfl)
  · show SeqAt.shaped (.list (tolD i)) = true
    rw [tol_is hn]
    exact (tol_sh hn).1
  · show (!PyData.eqv (.list (tolD i)) (.list [.str nm, .str "value"])) = false
    rw [tol_is hn, (tol_sh hn).2]
    rfl
  rw [if_neg (by decide)]
  have sd8 := sd7.up l8.ek
  have j8 := jc_stab.ex _ _ _ l8.ex j7
  -- the field
  have dv8 : Da X.K B8 v' fld := dv3.ex (l5.ek.trans (l6.ek.trans (l7.ek.trans l8.ek)))
  have lq8 := lq.tr (l5.tr (l6.tr (l7.tr l8)))
  refine ⟨.ref ax, j8.1, ax, C, v', rfl, j8.2, kn.T, kn.no, v', fld, rfl, dv8.ex l8.sub, hF, ?_⟩
  obtain ⟨w4, e4, da4⟩ := sd8.2 4 (.str fld.shown) rfl
  cases da4
  refine ⟨.str fld.shown, e4, rfl, ?_⟩
  rw [decide_eq_true rfl]
  exact hQ B8 H8 lq8
end TD

set_option maxHeartbeats 4000000
namespace TD
open PySem PySem.Spec PyProof.Rows L2
open Evl (Ex)
/-! # the law's way to call them -/
section
variable {P : Program} {w : World} {K : Fg} {mg : Str → Option Value} {base : Heap} {A : Ad4}
structure Cd (P : Program) (w : World) (K : Fg) (mg : Str → Option Value) (base : Heap) (A : Ad4) : Prop where
  presses_in : Fx P w K mg base "presses_in" ["level", "presses"] 12 (SpX K R_none (X2 A))
  is_added : Fx P w K mg base "is_added" ["level", "presses"] 12 (SpX K R_none (X2 A))
  together : Fx P w K mg base "together" ["level", "presses"] 12 (SpX K R_none (X2 A))
  with_only : Fx P w K mg base "with_only" ["level", "presses", "lot"] 12 (SpX K R_none (X3l A))
  without : Fx P w K mg base "without" ["level", "presses", "lot"] 12 (SpX K R_none (X3l A))
  is_reason : Fx P w K mg base "is_reason" ["level", "presses", "tick", "room", "value"] 12 (SpX K R_judge (X5 A))
  is_cut : Fx P w K mg base "is_cut" ["level", "presses", "tick", "room", "value"] 12 (SpX K R_judge (X5 A))
  reasons : Fx P w K mg base "reasons" ["level", "presses", "tick", "room"] 12 (SpX K R_none (X4 A))
  cuts : Fx P w K mg base "cuts" ["level", "presses", "tick", "room"] 12 (SpX K R_none (X4 A))
  fewest_reason : Fx P w K mg base "fewest_reason" ["level", "presses", "tick", "room"] 12 (SpX K R_none (X4 A))
  fewest_cut : Fx P w K mg base "fewest_cut" ["level", "presses", "tick", "room"] 12 (SpX K R_none (X4 A))
  sure_presses : Fx P w K mg base "sure_presses" ["level", "presses", "tick", "room"] 12 (SpX K R_none (X4 A))
  idle_presses : Fx P w K mg base "idle_presses" ["level", "presses", "tick", "room"] 12 (SpX K R_none (X4 A))
  how_many_light : Fx P w K mg base "how_many_light" ["level", "presses", "tick", "room"] 12 (SpX K R_none (X4 A))
theorem bad2_i {l p : PyData} {C : Addr} {i : Nat} (h : Bad2 A l p C i) : i = 0 ∨ i = 1 := by
  rcases h with ⟨_, _, rfl⟩ | ⟨_, _, _, _, rfl⟩ <;> simp
theorem bad4_i {l p t m : PyData} {C : Addr} {i : Nat} (h : Bad4 A l p t m C i) : i = 0 ∨ i = 1 ∨ i = 2 ∨ i = 3 := by
  rcases h with (⟨_, _, rfl⟩ | ⟨_, _, _, _, rfl⟩) | ⟨_, _, _, _, _, _, _, rfl⟩ | ⟨_, _, _, _, _, _, _, _, rfl⟩ <;> simp
theorem es_2 {tr : TA} {ρ : En} {l p : PyData} {ds : List PyData} {i : Nat} (hi : i = 0 ∨ i = 1) (h1 : ρ[1]? = some (some l)) (h2 : ρ[2]? = some (some p)) (hr : EA K tr ρ ds) : EAi K (tCons (tVar 1) (tCons (tVar 2) tr)) ρ (l :: p :: ds) i (i + 1) := by
  rcases hi with rfl | rfl
  · exact eai_here h1 (ea_cons (ed_var h2) hr)
  · exact eai_next (ed_var h1) (eai_here h2 hr)
theorem es_4 {tr : TA} {ρ : En} {l p t m : PyData} {ds : List PyData} {i : Nat} (hi : i = 0 ∨ i = 1 ∨ i = 2 ∨ i = 3) (h1 : ρ[1]? = some (some l)) (h2 : ρ[2]? = some (some p)) (h3 : ρ[3]? = some (some t)) (h4 : ρ[4]? = some (some m)) (hr : EA K tr ρ ds) : EAi K (tCons (tVar 1) (tCons (tVar 2) (tCons (tVar 3) (tCons (tVar 4) tr)))) ρ (l :: p :: t :: m :: ds) i (i + 1) := by
  rcases hi with rfl | rfl | rfl | rfl
  · exact eai_here h1 (ea_cons (ed_var h2) (ea_cons (ed_var h3) (ea_cons (ed_var h4) hr)))
  · exact eai_next (ed_var h1) (eai_here h2 (ea_cons (ed_var h3) (ea_cons (ed_var h4) hr)))
  · exact eai_next (ed_var h1) (eai_next (ed_var h2) (eai_here h3 (ea_cons (ed_var h4) hr)))
  · exact eai_next (ed_var h1) (eai_next (ed_var h2) (eai_next (ed_var h3) (eai_here h4 hr)))
def X_call (A : Ad4) : List PyData → Addr → Nat → Prop := fun ds C j => ∃ (k : Nat) (l p t m : PyData) (i : Nat), ds = [.int (k : Int), l, p, t, m] ∧ k < 14 ∧ j = i + 1 ∧ (Bad2 A l p C i ∨ (5 ≤ k ∧ Bad4 A l p t m C i))
theorem way_lt {ρ : En} {k n : Nat} (h0 : ρ[0]? = some (some (.int (k : Int)))) (h : k < n) : ET K (tTest (tOp (rI0 fun i j => .bl (decide (i < j))) (tVar 0) (tC (.int (n : Int))))) ρ true :=
  et_is (et_test (ed_op (ed_var h0) ed_int (r_Ib (g := fun i j => decide (i < j))))) (decide_eq_true (by omega))
theorem way_ge {ρ : En} {k n : Nat} (h0 : ρ[0]? = some (some (.int (k : Int)))) (h : n ≤ k) : ET K (tTest (tOp (rI0 fun i j => .bl (decide (i < j))) (tVar 0) (tC (.int (n : Int))))) ρ false :=
  et_is (et_test (ed_op (ed_var h0) ed_int (r_Ib (g := fun i j => decide (i < j))))) (decide_eq_false (by omega))
theorem way_sub {ρ : En} {k n j : Nat} (h0 : ρ[0]? = some (some (.int (k : Int)))) (h : k = j + n) : ED K (tOp (rI0 fun i j => .int (i - j)) (tVar 0) (tC (.int (n : Int)))) ρ (.int (j : Int)) :=
  ed_is (ed_op (ed_var h0) ed_int (r_Ii (g := fun i j => i - j))) (by rw [h]; congr 1; omega)
abbrev s__law_call : Stmt := topS 76
theorem f__law_call (c : Cd P w K mg base A) (a : At K mg "_law_call" s__law_call) : Fx P w K mg base "_law_call" ["_law_way", "_law_level", "_law_presses", "_law_tick", "_law_room"] 13 (SpX K R_none (X_call A)) := by
  have S : FnScope ["_law_way", "_law_level", "_law_presses", "_law_tick", "_law_room", "_law_calls"] ["_law_way", "_law_level", "_law_presses", "_law_tick", "_law_room"] (defScope s__law_call) := ⟨rfl, rfl, rfl, by decide +kernel, rfl, by decide +kernel, by decide +kernel⟩
  obtain ⟨a_presses_in, m_presses_in⟩ := c.presses_in.at
  obtain ⟨a_is_added, m_is_added⟩ := c.is_added.at
  obtain ⟨a_together, m_together⟩ := c.together.at
  obtain ⟨a_with_only, m_with_only⟩ := c.with_only.at
  obtain ⟨a_without, m_without⟩ := c.without.at
  obtain ⟨a_is_reason, m_is_reason⟩ := c.is_reason.at
  obtain ⟨a_is_cut, m_is_cut⟩ := c.is_cut.at
  obtain ⟨a_reasons, m_reasons⟩ := c.reasons.at
  obtain ⟨a_cuts, m_cuts⟩ := c.cuts.at
  obtain ⟨a_fewest_reason, m_fewest_reason⟩ := c.fewest_reason.at
  obtain ⟨a_fewest_cut, m_fewest_cut⟩ := c.fewest_cut.at
  obtain ⟨a_sure_presses, m_sure_presses⟩ := c.sure_presses.at
  obtain ⟨a_idle_presses, m_idle_presses⟩ := c.idle_presses.at
  obtain ⟨a_how_many_light, m_how_many_light⟩ := c.how_many_light.at
  refine fx_mk a S (fun _ _ _ _ _ _ us hl => match us, hl with | [_, _, _, _, _], _ => rfl) (fun _ _ h => h.elim) (by rintro _ _ _ ⟨k, l, p, t, m, i, rfl, _⟩; rfl) fun f cdv A' outer s H E gu hr tk => ?_
  refine ⟨_, (pss_cons (ps_if (pt_cmpR op_lt (pv 0) pe_int (nomark _)) (pss_one (ps_ret (pe_callF gu (fun σ => passAt tk σ) (pe_ix ix_list (pe_lst (pa_cons (pe_glob (v := .ref a_presses_in) (by rfl) m_presses_in rfl) (pa_cons (pe_glob (v := .ref a_is_added) (by rfl) m_is_added rfl) (pa_cons (pe_glob (v := .ref a_together) (by rfl) m_together rfl) pa_nil)))) (pv 0) (fun _ _ => rfl)) (pa_cons (pv 1) (pa_cons (pv 2) pa_nil))))) pss_nil)
  (pss_cons (ps_if (pt_cmpR op_lt (pv 0) pe_int (nomark _)) (pss_one (ps_ret (pe_callF gu (fun σ => passAt tk σ) (pe_ix ix_list (pe_lst (pa_cons (pe_glob (v := .ref a_with_only) (by rfl) m_with_only rfl) (pa_cons (pe_glob (v := .ref a_without) (by rfl) m_without rfl) pa_nil))) (pe_op op_sub (pv 0) pe_int) (fun _ _ => rfl)) (pa_cons (pv 1) (pa_cons (pv 2) (pa_cons pe_non pa_nil)))))) pss_nil)
  (pss_cons (ps_if (pt_cmpR op_lt (pv 0) pe_int (nomark _)) (pss_one (ps_ret (pe_callF gu (fun σ => passAt tk σ) (pe_ix ix_list (pe_lst (pa_cons (pe_glob (v := .ref a_is_reason) (by rfl) m_is_reason rfl) (pa_cons (pe_glob (v := .ref a_is_cut) (by rfl) m_is_cut rfl) pa_nil))) (pe_op op_sub (pv 0) pe_int) (fun _ _ => rfl)) (pa_cons (pv 1) (pa_cons (pv 2) (pa_cons (pv 3) (pa_cons (pv 4) (pa_cons pe_non pa_nil)))))))) pss_nil)
  (pss_cons (ps_set (i := 5) S.nd rfl (by first | exact Or.inl rfl | exact Or.inr rfl) (pe_lst (pa_cons (pe_glob (v := .ref a_reasons) (by rfl) m_reasons rfl) (pa_cons (pe_glob (v := .ref a_cuts) (by rfl) m_cuts rfl) (pa_cons (pe_glob (v := .ref a_fewest_reason) (by rfl) m_fewest_reason rfl) (pa_cons (pe_glob (v := .ref a_fewest_cut) (by rfl) m_fewest_cut rfl) (pa_cons (pe_glob (v := .ref a_sure_presses) (by rfl) m_sure_presses rfl) (pa_cons (pe_glob (v := .ref a_idle_presses) (by rfl) m_idle_presses rfl) (pa_cons (pe_glob (v := .ref a_how_many_light) (by rfl) m_how_many_light rfl) pa_nil)))))))))
  (pss_one (ps_ret (pe_callF gu (fun σ => passAt tk σ) (pe_ix ix_list (pv 5) (pe_op op_sub (pv 0) pe_int) (fun _ _ => rfl)) (pa_cons (pv 1) (pa_cons (pv 2) (pa_cons (pv 3) (pa_cons (pv 4) pa_nil))))))))))), fun _ _ h => h.elim, ?_⟩
  rintro _ C _ ⟨k, l, p, t, m, i, rfl, hk, rfl, hb⟩
  have b4 : Bad4 A l p t m C i ∨ (k < 5 ∧ Bad2 A l p C i) := by
    rcases hb with hb | ⟨_, hb⟩
    · exact .inl (.inl hb)
    · exact .inl hb
  by_cases h3 : k < 3
  · have hb2 : Bad2 A l p C i := hb.elim id fun ⟨z, _⟩ => absurd z (by omega)
    refine xz_in (way_lt rfl h3) ?_
    have hR : X2 A [l, p] C i := ⟨_, _, rfl, hb2⟩
    have ar := es_2 (K := K) (ρ := enOf ["_law_way", "_law_level", "_law_presses", "_law_tick", "_law_room", "_law_calls"] [.int (k : Int), l, p, t, m]) (bad2_i hb2) rfl rfl ea_nil
    obtain ⟨j, hj, hjn⟩ : ∃ j, k = j + 0 ∧ j < 3 := ⟨k - 0, by omega, by omega⟩
    match j, hj, hjn with
    | 0, hj, _ => exact xz_retF (ef_ix (fs := [a_presses_in, a_is_added, a_together]) (evs_cons (evs_cons (evs_cons evs_nil))) (ed_is (ed_var (i := 0) rfl) (by rw [hj])) (i := 0) rfl (Nat.le_of_ble_eq_true rfl)) (c.presses_in.callee (hr.mono (by decide)) m_presses_in) ar hR
    | 1, hj, _ => exact xz_retF (ef_ix (fs := [a_presses_in, a_is_added, a_together]) (evs_cons (evs_cons (evs_cons evs_nil))) (ed_is (ed_var (i := 0) rfl) (by rw [hj])) (i := 1) rfl (Nat.le_of_ble_eq_true rfl)) (c.is_added.callee (hr.mono (by decide)) m_is_added) ar hR
    | 2, hj, _ => exact xz_retF (ef_ix (fs := [a_presses_in, a_is_added, a_together]) (evs_cons (evs_cons (evs_cons evs_nil))) (ed_is (ed_var (i := 0) rfl) (by rw [hj])) (i := 2) rfl (Nat.le_of_ble_eq_true rfl)) (c.together.callee (hr.mono (by decide)) m_together) ar hR
  refine xz_skip (way_ge (n := 3) rfl (by omega)) ?_
  by_cases h5 : k < 5
  · have hb2 : Bad2 A l p C i := hb.elim id fun ⟨z, _⟩ => absurd z (by omega)
    refine xz_in (way_lt rfl h5) ?_
    have hR : X3l A [l, p, .none] C i := ⟨_, _, _, rfl, .inl hb2⟩
    have ar := es_2 (K := K) (ρ := enOf ["_law_way", "_law_level", "_law_presses", "_law_tick", "_law_room", "_law_calls"] [.int (k : Int), l, p, t, m]) (bad2_i hb2) rfl rfl (ea_cons ed_non ea_nil)
    obtain ⟨j, hj, hjn⟩ : ∃ j, k = j + 3 ∧ j < 2 := ⟨k - 3, by omega, by omega⟩
    match j, hj, hjn with
    | 0, hj, _ => exact xz_retF (ef_ix (fs := [a_with_only, a_without]) (evs_cons (evs_cons evs_nil)) (way_sub rfl hj) (i := 0) rfl (Nat.le_of_ble_eq_true rfl)) (c.with_only.callee (hr.mono (by decide)) m_with_only) ar hR
    | 1, hj, _ => exact xz_retF (ef_ix (fs := [a_with_only, a_without]) (evs_cons (evs_cons evs_nil)) (way_sub rfl hj) (i := 1) rfl (Nat.le_of_ble_eq_true rfl)) (c.without.callee (hr.mono (by decide)) m_without) ar hR
  have hb4 : Bad4 A l p t m C i := hb.elim .inl fun ⟨_, z⟩ => z
  refine xz_skip (way_ge (n := 5) rfl (by omega)) ?_
  by_cases h7 : k < 7
  · refine xz_in (way_lt rfl h7) ?_
    have hR : X5 A [l, p, t, m, .none] C i := ⟨_, _, _, _, _, rfl, hb4⟩
    have ar := es_4 (K := K) (ρ := enOf ["_law_way", "_law_level", "_law_presses", "_law_tick", "_law_room", "_law_calls"] [.int (k : Int), l, p, t, m]) (bad4_i hb4) rfl rfl rfl rfl (ea_cons ed_non ea_nil)
    obtain ⟨j, hj, hjn⟩ : ∃ j, k = j + 5 ∧ j < 2 := ⟨k - 5, by omega, by omega⟩
    match j, hj, hjn with
    | 0, hj, _ => exact xz_retF (ef_ix (fs := [a_is_reason, a_is_cut]) (evs_cons (evs_cons evs_nil)) (way_sub rfl hj) (i := 0) rfl (Nat.le_of_ble_eq_true rfl)) (c.is_reason.callee (hr.mono (by decide)) m_is_reason) ar hR
    | 1, hj, _ => exact xz_retF (ef_ix (fs := [a_is_reason, a_is_cut]) (evs_cons (evs_cons evs_nil)) (way_sub rfl hj) (i := 1) rfl (Nat.le_of_ble_eq_true rfl)) (c.is_cut.callee (hr.mono (by decide)) m_is_cut) ar hR
  refine xz_skip (way_ge (n := 7) rfl (by omega)) ?_
  · have hR : X4 A [l, p, t, m] C i := ⟨_, _, _, _, rfl, hb4⟩
    have ar := es_4 (K := K) (ρ := enOf ["_law_way", "_law_level", "_law_presses", "_law_tick", "_law_room", "_law_calls"] [.int (k : Int), l, p, t, m]) (bad4_i hb4) rfl rfl rfl rfl ea_nil
    have hi5 : 5 ≠ i + 1 := by
      rcases bad4_i hb4 with rfl | rfl | rfl | rfl <;> decide
    obtain ⟨j, hj, hjn⟩ : ∃ j, k = j + 7 ∧ j < 7 := ⟨k - 7, by omega, by omega⟩
    match j, hj, hjn with
    | 0, hj, _ => exact xz_asgF (fs := [a_reasons, a_cuts, a_fewest_reason, a_fewest_cut, a_sure_presses, a_idle_presses, a_how_many_light]) (k := 0) (evs_cons (evs_cons (evs_cons (evs_cons (evs_cons (evs_cons (evs_cons evs_nil))))))) (Nat.le_of_ble_eq_true rfl) hi5 rfl (way_sub rfl hj) rfl (c.reasons.callee (hr.mono (by decide)) m_reasons) ar hR
    | 1, hj, _ => exact xz_asgF (fs := [a_reasons, a_cuts, a_fewest_reason, a_fewest_cut, a_sure_presses, a_idle_presses, a_how_many_light]) (k := 1) (evs_cons (evs_cons (evs_cons (evs_cons (evs_cons (evs_cons (evs_cons evs_nil))))))) (Nat.le_of_ble_eq_true rfl) hi5 rfl (way_sub rfl hj) rfl (c.cuts.callee (hr.mono (by decide)) m_cuts) ar hR
    | 2, hj, _ => exact xz_asgF (fs := [a_reasons, a_cuts, a_fewest_reason, a_fewest_cut, a_sure_presses, a_idle_presses, a_how_many_light]) (k := 2) (evs_cons (evs_cons (evs_cons (evs_cons (evs_cons (evs_cons (evs_cons evs_nil))))))) (Nat.le_of_ble_eq_true rfl) hi5 rfl (way_sub rfl hj) rfl (c.fewest_reason.callee (hr.mono (by decide)) m_fewest_reason) ar hR
    | 3, hj, _ => exact xz_asgF (fs := [a_reasons, a_cuts, a_fewest_reason, a_fewest_cut, a_sure_presses, a_idle_presses, a_how_many_light]) (k := 3) (evs_cons (evs_cons (evs_cons (evs_cons (evs_cons (evs_cons (evs_cons evs_nil))))))) (Nat.le_of_ble_eq_true rfl) hi5 rfl (way_sub rfl hj) rfl (c.fewest_cut.callee (hr.mono (by decide)) m_fewest_cut) ar hR
    | 4, hj, _ => exact xz_asgF (fs := [a_reasons, a_cuts, a_fewest_reason, a_fewest_cut, a_sure_presses, a_idle_presses, a_how_many_light]) (k := 4) (evs_cons (evs_cons (evs_cons (evs_cons (evs_cons (evs_cons (evs_cons evs_nil))))))) (Nat.le_of_ble_eq_true rfl) hi5 rfl (way_sub rfl hj) rfl (c.sure_presses.callee (hr.mono (by decide)) m_sure_presses) ar hR
    | 5, hj, _ => exact xz_asgF (fs := [a_reasons, a_cuts, a_fewest_reason, a_fewest_cut, a_sure_presses, a_idle_presses, a_how_many_light]) (k := 5) (evs_cons (evs_cons (evs_cons (evs_cons (evs_cons (evs_cons (evs_cons evs_nil))))))) (Nat.le_of_ble_eq_true rfl) hi5 rfl (way_sub rfl hj) rfl (c.idle_presses.callee (hr.mono (by decide)) m_idle_presses) ar hR
    | 6, hj, _ => exact xz_asgF (fs := [a_reasons, a_cuts, a_fewest_reason, a_fewest_cut, a_sure_presses, a_idle_presses, a_how_many_light]) (k := 6) (evs_cons (evs_cons (evs_cons (evs_cons (evs_cons (evs_cons (evs_cons evs_nil))))))) (Nat.le_of_ble_eq_true rfl) hi5 rfl (way_sub rfl hj) rfl (c.how_many_light.callee (hr.mono (by decide)) m_how_many_light) ar hR
end
end TD

set_option maxHeartbeats 4000000
namespace TD
open PySem PySem.Spec PyProof.Rows L2
open Evl (Ex)
/-! # the law's data -/
theorem ed_dnew {K : Fg} {ρ : En} : ED K tDNewK ρ (.dict []) := fun σ B H s _ Q q => fun p hp => q _ _ _ (Le.new s hp) (.dic (kvs := []) upd_same .nil)
abbrev gdo (b : PyData) : Bool := gdB 8 1000000 b
abbrev GB (x : PyData) : Prop := Gd 8 1000000 x
theorem fine0 {x : PyData} (h : GB x) : Fine x := h.fine (by decide) (by decide)
theorem gd_big {i : Int} (h : 0 ≤ i ∧ i ≤ 10 ^ 30) : Gd 0 2000 (.int i) := by
  refine ⟨rfl, decide_eq_true ?_, Nat.zero_le _, Nat.le_of_ble_eq_true rfl⟩
  have h1 : i.natAbs < 2 ^ 100 := Nat.lt_of_le_of_lt (show i.natAbs ≤ 10 ^ 30 by omega) (by decide)
  exact Nat.lt_of_lt_of_le (PySem.Flt.log2_lt_of (by decide) h1) (by decide)
theorem gb_big {i : Int} (h : 0 ≤ i ∧ i ≤ 10 ^ 30) : GB (.int i) := (gd_big h).up' (by decide) (by decide)
theorem gl1 {k w : Nat} {d : PyData} (h : Gd k w d) : Gd (k + 1) (1 * (w + 2) + 5) (.list [d]) := gd_list (fun x hx => by rw [List.mem_singleton.mp hx]; exact h) (Nat.le_refl _) (by decide)
def okLev (b : PyData) : Bool := szOk b && !fitsLevel b && gdo b
theorem lev_ok {b : PyData} (h : okLev b = true) : NL b ∧ Fine b := by
  unfold okLev at h
  simp only [Bool.and_eq_true, Bool.not_eq_true'] at h
  exact ⟨⟨h.1.1, h.1.2⟩, fine0 (gd_of h.2)⟩
def okPre (b : PyData) : Bool := szOk b && !fitsPresses 2 b && gdo b
theorem pre_ok {b : PyData} (h : okPre b = true) : BP 2 b ∧ Fine b := by
  unfold okPre at h
  simp only [Bool.and_eq_true, Bool.not_eq_true'] at h
  exact ⟨⟨h.1.1, h.1.2⟩, fine0 (gd_of h.2)⟩
def okTick (b : PyData) : Bool := !fitsRoom 2 b && gdo b
theorem tick_ok {b : PyData} (h : okTick b = true) : fitsRoom 2 b = false ∧ Fine b := by
  unfold okTick at h
  simp only [Bool.and_eq_true, Bool.not_eq_true'] at h
  exact ⟨h.1, fine0 (gd_of h.2)⟩
def outTicks : PyData → Bool
  | .int k => !(decide (1 ≤ k) && decide (k ≤ 30))
  | _ => false
def BadTicks (b : PyData) : Prop := isWhole b = false ∨ ∃ k : Int, b = .int k ∧ (decide (1 ≤ k) && decide (k ≤ 30)) = false
def okAln (b : PyData) : Bool := (!isWhole b || outTicks b) && gdo b
theorem aln_ok {b : PyData} (h : okAln b = true) : BadTicks b ∧ Fine b := by
  unfold okAln at h
  simp only [Bool.and_eq_true, Bool.or_eq_true, Bool.not_eq_true'] at h
  refine ⟨?_, fine0 (gd_of h.2)⟩
  rcases h.1 with h | h
  · exact .inl h
  · cases b with
    | int n =>
      have h' : (!(decide (1 ≤ n) && decide (n ≤ 30))) = true := h
      rw [Bool.not_eq_true'] at h'
      exact .inr ⟨n, rfl, h'⟩
    | _ => exact nomatch (show false = true from h)
def strayB : PyData → Bool
  | .list [.tuple [.int t, .int r]] => decide (0 ≤ t) && decide (0 ≤ r) && (decide (t = 0) && decide (0 < r) || decide (2 ≤ t))
  | _ => false
def okLot (b : PyData) : Bool := szOk b && (!fitsLot b || strayB b) && gdo b
theorem lot_ok {b : PyData} (h : okLot b = true) : BadLot b ∧ Fine b := by
  unfold okLot at h
  simp only [Bool.and_eq_true, Bool.or_eq_true, Bool.not_eq_true'] at h
  refine ⟨⟨sz_Sm h.1.1, ?_⟩, fine0 (gd_of h.2)⟩
  rcases h.1.2 with h | h
  · exact .inl h
  · unfold strayB at h
    split at h
    · rename_i t r _
      simp only [Bool.and_eq_true, Bool.or_eq_true, decide_eq_true_eq] at h
      exact .inr ⟨t, r, rfl, h.1.1, h.1.2, h.2⟩
    · exact nomatch h
def okLots (b : PyData) : Bool := szOk b && (!isT "list" b || (match b with | .list es => !es.all fitsLot | _ => false)) && gdo b
theorem lots_ok {b : PyData} (h : okLots b = true) : BadLots b ∧ Fine b := by
  unfold okLots at h
  simp only [Bool.and_eq_true, Bool.or_eq_true, Bool.not_eq_true'] at h
  refine ⟨?_, fine0 (gd_of h.2)⟩
  rcases h.1.2 with h2 | h2
  · exact .inl h2
  · cases b with
    | list es =>
      have h' : (!es.all fitsLot) = true := h2
      rw [Bool.not_eq_true'] at h'
      obtain ⟨h3, h4⟩ := sz_list h.1.1
      exact .inr ⟨es, rfl, Nat.le_trans h3 (by decide), fun e he => sz_Sm (h4 e he), h'⟩
    | _ => exact nomatch (show false = true from h2)

def levB0 : List PyData := [.none, .int 5, .tuple [], .list [], .tuple [.int 1], .tuple [.int 0, .list []], .tuple [.bool true, .list []], .tuple [.int 2, .list [.tuple [.list [.int 0], .int 1]]], .tuple [.int 2, .list [.tuple [.list [.int 0], .int 2, .int 0]]], .tuple [.int 2, .list [.tuple [.list [.int 2], .int 1, .int 0]]]]
def levB1 : List PyData := [.tuple [.int 2, .list [.tuple [.list [.int 0], .int 1, .int 2]]], .tuple [.int 2, .list [.tuple [.list [.int 0], .int 1, .bool true]]], .tuple [.int 2, .list [.tuple [.list [.int 1, .int 0], .int 1, .int 0]]], .tuple [.int 2, .tuple [.tuple [.list [.int 0], .int 1, .int 0]]], .list [.int 2, .list []]]
def levB2 : List PyData := [.tuple [.int 2, .list [.list [.list [.int 0], .int 1, .int 0]]], .tuple [.str "2", .list []], .tuple [.int 2, .none]]
def preB0 : List PyData := [.none, .int 0, .tuple [], .dict [], .str "0", .list [.int 0], .list [.list [.int 2]], .list [.list [.int (-1)]], .list [.list [.int 1, .int 0]], .list [.list [.int 0, .int 0]], .list [.list [.bool true]], .list [.list [.str "0"]], .list [.tuple [.int 0]], .tuple [.list [.int 0]]]
def preB1 (n : Int) : List PyData := [.list [.list [.int 0], .none], .list [.list [.int 0], .list [.int 2]], .list [.list [.int (n + 2)]]]
def lotB0 : List PyData := [.none, .int 0, .tuple [], .dict [], .list [.int 0], .list [.tuple [.int 0, .int 1]], .list [.tuple [.int 2, .int 0]], .list [.tuple [.int 1, .int 1], .tuple [.int 1, .int 0]], .list [.tuple [.int 0, .int 0], .tuple [.int 0, .int 0]], .list [.list [.int 0, .int 0]], .list [.tuple [.int 0]]]
def lotB1 : List PyData := [.list [.tuple [.int 0, .int 0, .int 0]], .list [.tuple [.int 0, .bool false]], .list [.tuple [.int 1, .bool true]], .list [.tuple [.str "0", .int 0]], .tuple [.tuple [.int 0, .int 0]], .list [.tuple [.int 0, .int 0], .none], .list [.tuple [.int (-1), .int 0]]]
def lotB2 (n : Int) : List PyData := [.list [.tuple [.int 0, .int (n + 1)]]]
def lotsB0 : List PyData := [.none, .int 0, .tuple [], .dict [], .list [.int 0], .list [.tuple [.int 0, .int 1]], .list [.list [.tuple [.int 0, .int 1]], .none], .list [.list [.tuple [.int 1, .int 1], .tuple [.int 1, .int 0]]], .list [.list [.tuple [.int 0, .int 0], .tuple [.int 0, .int 0]]], .list [.list [.list [.int 0, .int 0]]]]
def lotsB1 : List PyData := [.list [.list [.tuple [.int 0]]], .list [.list [.tuple [.int 0, .int 0, .int 0]]], .list [.list [.tuple [.int 0, .bool false]]], .list [.list [.tuple [.str "0", .int 0]]], .tuple [.list [.tuple [.int 0, .int 0]]], .list [.tuple [.tuple [.int 0, .int 0]]]]
def lotsB2 : List PyData := [.list [.list [.tuple [.int 0, .int 0]], .list [.tuple [.int (-1), .int 0]]]]
def tickB0 (n : Int) : List PyData := [.none, .int (-1), .int 2, .bool true, .str "0", .list [.int 0], .tuple [.int 0], .int (n + 2)]
def alnB0 (n : Int) : List PyData := [.none, .int 0, .int (-1), .int 31, .bool true, .str "2", .list [.int 2], .int (n + 31)]
theorem levB0_ok : ∀ b ∈ levB0, NL b ∧ Fine b := fun b hb => lev_ok (List.all_eq_true.mp (show levB0.all okLev = true by decide +kernel) b hb)
theorem levB1_ok : ∀ b ∈ levB1, NL b ∧ Fine b := fun b hb => lev_ok (List.all_eq_true.mp (show levB1.all okLev = true by decide +kernel) b hb)
theorem levB2_ok : ∀ b ∈ levB2, NL b ∧ Fine b := fun b hb => lev_ok (List.all_eq_true.mp (show levB2.all okLev = true by decide +kernel) b hb)
theorem preB0_ok : ∀ b ∈ preB0, BP 2 b ∧ Fine b := fun b hb => pre_ok (List.all_eq_true.mp (show preB0.all okPre = true by decide +kernel) b hb)
theorem lotB0_ok : ∀ b ∈ lotB0, BadLot b ∧ Fine b := fun b hb => lot_ok (List.all_eq_true.mp (show lotB0.all okLot = true by decide +kernel) b hb)
theorem lotB1_ok : ∀ b ∈ lotB1, BadLot b ∧ Fine b := fun b hb => lot_ok (List.all_eq_true.mp (show lotB1.all okLot = true by decide +kernel) b hb)
theorem lotsB0_ok : ∀ b ∈ lotsB0, BadLots b ∧ Fine b := fun b hb => lots_ok (List.all_eq_true.mp (show lotsB0.all okLots = true by decide +kernel) b hb)
theorem lotsB1_ok : ∀ b ∈ lotsB1, BadLots b ∧ Fine b := fun b hb => lots_ok (List.all_eq_true.mp (show lotsB1.all okLots = true by decide +kernel) b hb)
theorem lotsB2_ok : ∀ b ∈ lotsB2, BadLots b ∧ Fine b := fun b hb => lots_ok (List.all_eq_true.mp (show lotsB2.all okLots = true by decide +kernel) b hb)
theorem pre_far {n : Int} (hn : 0 ≤ n ∧ n < 10 ^ 29) : BP 2 (.list [.list [.int (n + 2)]]) ∧ Fine (.list [.list [.int (n + 2)]]) := by
  have g := gl1 (gl1 (gd_big (i := n + 2) (by omega)))
  refine ⟨⟨g.sz, ?_⟩, g.fine (by decide) (by decide)⟩
  show ((((decide (0 ≤ n + 2) && decide (n + 2 < 2)) && _)) && _) = false
  rw [decide_eq_false (show ¬ n + 2 < 2 by omega), Bool.and_false, Bool.false_and, Bool.false_and]
theorem tick_far {n : Int} (hn : 0 ≤ n ∧ n < 10 ^ 29) : fitsRoom 2 (.int (n + 2)) = false ∧ Fine (.int (n + 2)) := by
  refine ⟨?_, fine0 (gb_big (by omega))⟩
  show (decide (0 ≤ n + 2) && decide (n + 2 < 2)) = false
  rw [decide_eq_false (show ¬ n + 2 < 2 by omega), Bool.and_false]
theorem aln_far {n : Int} (hn : 0 ≤ n ∧ n < 10 ^ 29) : BadTicks (.int (n + 31)) ∧ Fine (.int (n + 31)) := by
  refine ⟨.inr ⟨_, rfl, ?_⟩, fine0 (gb_big (by omega))⟩
  rw [decide_eq_false (show ¬ n + 31 ≤ 30 by omega), Bool.and_false]
theorem lot_far {n : Int} (hn : 0 ≤ n ∧ n < 10 ^ 29) : BadLot (.list [.tuple [.int 0, .int (n + 1)]]) ∧ Fine (.list [.tuple [.int 0, .int (n + 1)]]) := by
  have g := gl1 (gd_tup (k := 0) (w := 2000) (n := 2) (ds := [.int 0, .int (n + 1)]) (List.forall_mem_cons.mpr ⟨gd_big (by omega), List.forall_mem_cons.mpr ⟨gd_big (by omega), fun _ h => nomatch h⟩⟩) (Nat.le_refl _) (by decide))
  exact ⟨⟨sz_Sm g.sz, .inr ⟨0, n + 1, rfl, by omega, by omega, .inl ⟨rfl, by omega⟩⟩⟩, g.fine (by decide) (by decide)⟩

theorem preB1_ok {n : Int} (hn : 0 ≤ n ∧ n < 10 ^ 29) : ∀ b ∈ preB1 n, BP 2 b ∧ Fine b := List.forall_mem_cons.mpr ⟨(pre_ok (by decide +kernel)), List.forall_mem_cons.mpr ⟨(pre_ok (by decide +kernel)), List.forall_mem_cons.mpr ⟨(pre_far hn), fun _ h => nomatch h⟩⟩⟩
theorem lotB2_ok {n : Int} (hn : 0 ≤ n ∧ n < 10 ^ 29) : ∀ b ∈ lotB2 n, BadLot b ∧ Fine b := List.forall_mem_cons.mpr ⟨(lot_far hn), fun _ h => nomatch h⟩
theorem tickB0_ok {n : Int} (hn : 0 ≤ n ∧ n < 10 ^ 29) : ∀ b ∈ tickB0 n, fitsRoom 2 b = false ∧ Fine b := List.forall_mem_cons.mpr ⟨(tick_ok (by decide +kernel)), List.forall_mem_cons.mpr ⟨(tick_ok (by decide +kernel)), List.forall_mem_cons.mpr ⟨(tick_ok (by decide +kernel)), List.forall_mem_cons.mpr ⟨(tick_ok (by decide +kernel)), List.forall_mem_cons.mpr ⟨(tick_ok (by decide +kernel)), List.forall_mem_cons.mpr ⟨(tick_ok (by decide +kernel)), List.forall_mem_cons.mpr ⟨(tick_ok (by decide +kernel)), List.forall_mem_cons.mpr ⟨(tick_far hn), fun _ h => nomatch h⟩⟩⟩⟩⟩⟩⟩⟩
theorem alnB0_ok {n : Int} (hn : 0 ≤ n ∧ n < 10 ^ 29) : ∀ b ∈ alnB0 n, BadTicks b ∧ Fine b := List.forall_mem_cons.mpr ⟨(aln_ok (by decide +kernel)), List.forall_mem_cons.mpr ⟨(aln_ok (by decide +kernel)), List.forall_mem_cons.mpr ⟨(aln_ok (by decide +kernel)), List.forall_mem_cons.mpr ⟨(aln_ok (by decide +kernel)), List.forall_mem_cons.mpr ⟨(aln_ok (by decide +kernel)), List.forall_mem_cons.mpr ⟨(aln_ok (by decide +kernel)), List.forall_mem_cons.mpr ⟨(aln_ok (by decide +kernel)), List.forall_mem_cons.mpr ⟨(aln_far hn), fun _ h => nomatch h⟩⟩⟩⟩⟩⟩⟩⟩
abbrev levB : List PyData := ((levB0 ++ levB1) ++ levB2)
theorem levB_ok : ∀ b ∈ levB, NL b ∧ Fine b := fun b hb => (List.mem_append.mp hb).elim (fun h2 => (List.mem_append.mp h2).elim (fun h1 => levB0_ok b h1) (fun h1 => levB1_ok b h1)) (fun h2 => levB2_ok b h2)
abbrev preB (n : Int) : List PyData := (preB0 ++ preB1 n)
theorem preB_ok {n : Int} (hn : 0 ≤ n ∧ n < 10 ^ 29) : ∀ b ∈ preB n, BP 2 b ∧ Fine b := fun b hb => (List.mem_append.mp hb).elim (fun h1 => preB0_ok b h1) (fun h1 => preB1_ok hn b h1)
abbrev lotB (n : Int) : List PyData := ((lotB0 ++ lotB1) ++ lotB2 n)
theorem lotB_ok {n : Int} (hn : 0 ≤ n ∧ n < 10 ^ 29) : ∀ b ∈ lotB n, BadLot b ∧ Fine b := fun b hb => (List.mem_append.mp hb).elim (fun h2 => (List.mem_append.mp h2).elim (fun h1 => lotB0_ok b h1) (fun h1 => lotB1_ok b h1)) (fun h2 => lotB2_ok hn b h2)
abbrev lotsB : List PyData := ((lotsB0 ++ lotsB1) ++ lotsB2)
theorem lotsB_ok : ∀ b ∈ lotsB, BadLots b ∧ Fine b := fun b hb => (List.mem_append.mp hb).elim (fun h2 => (List.mem_append.mp h2).elim (fun h1 => lotsB0_ok b h1) (fun h1 => lotsB1_ok b h1)) (fun h2 => lotsB2_ok b h2)
end TD

set_option maxHeartbeats 8000000
namespace TD
open PySem PySem.Spec PyProof.Rows L2
open Evl (Ex)
open LamX (CodeO Tabs TabS TabB ExtN)
/-! # the law's first part -/
structure BR (mg : Str → Option Value) : Prop where
  range : mg "range" = none
def qL (x : Str) : Str := (x ++ ".<locals>.") ++ "<lambda>"
def spTab (K : Fg) (Ts : List (Addr × Str)) : Sp := fun vs H Q _ => ∃ n : Int, vs = [.int n] ∧ (0 ≤ n ∧ n < 10 ^ 29) ∧ Tabs Ts H ∧ ∀ H', Tabs Ts H' → Q (.bl true) H'
section
variable {P : Program} {w : World} {K : Fg} {mg : Str → Option Value} {base : Heap} {A : Ad4} {DE : Addr} {Ts : List (Addr × Str)} {cd Pt : Addr}
theorem call_bad {lo x : Nat} {l p t m : PyData} {C : Addr} {i : Nat} (hx : lo + x < 14) (h : Bad2 A l p C i ∨ (5 ≤ lo + x ∧ Bad4 A l p t m C i)) : X_call A [.int ((lo : Int) + (x : Int)), l, p, t, m] C (i + 1) := ⟨lo + x, l, p, t, m, i, by rw [Int.natCast_add], hx, rfl, h⟩
def B0 : Hp := fun _ => none
theorem ex_B0 {H : Hp} : Ex B0 H := fun _ _ z => nomatch z
theorem nt_B0 : NT B0 := fun _ _ z => nomatch z
abbrev s__law_levels_refused : Stmt := topS 77
theorem f__law_levels_refused (T : BR mg) (T7 : B7 mg) (sm : ∃ mm, base.Ns sysModules mm) (Z : Ce K mg A DE) (kIn : K.In base) (hns : base.Ns mainGlobals mg) (htab : PySem.W.tabIn K "_law_levels_refused" = some (cd, Pt)) (TB : TabB base mg cd Pt) (hmT : (Pt, qL "_law_levels_refused") ∈ Ts) (huT : ∀ p ∈ Ts, p.1 = Pt → p.2 = qL "_law_levels_refused")
    (c_ref : At K mg "_law_refused" s__law_refused) (c__law_call : Fx P w K mg base "_law_call" ["_law_way", "_law_level", "_law_presses", "_law_tick", "_law_room"] 13 (SpX K R_none (X_call A))) (c_alone : Fx P w K mg base "alone" ["level", "ticks", "tick", "room"] 10 (SpX K R_none (X_alone A))) (a : At K mg "_law_levels_refused" s__law_levels_refused) : Fc P w K mg base "_law_levels_refused" ["_law_far"] 16 (spTab K Ts) := by
  have S : FnScope ["_law_far", "_law_due", "_law_bads", "_law_bad", "_law_way", "_law_other", "_law_level"] ["_law_far"] (defScope s__law_levels_refused) := ⟨rfl, rfl, rfl, by decide +kernel, rfl, by decide +kernel, by decide +kernel⟩
  obtain ⟨f, fd, F, hm⟩ := a
  refine ⟨f, fd, hm, F.kp, F.binds (fun _ _ _ _ _ _ us hl => match us, hl with | [_], _ => rfl), fnGT F hm kIn hns htab S (by rintro vs H Q E ⟨n, rfl, _⟩; rfl) ?_⟩
  rintro A' outer s H vs Q E gu hr ⟨n, rfl, hn, tb, hq⟩
  have hc : (cxOf CX0 P w K mg base ["_law_far", "_law_due", "_law_bads", "_law_bad", "_law_way", "_law_other", "_law_level"] "_law_levels_refused" (defScope s__law_levels_refused) f (.ref cd) A' outer s H E).nox.calm = true := rfl
  have hps : ∃ t, PSs (cxOf CX0 P w K mg base ["_law_far", "_law_due", "_law_bads", "_law_bad", "_law_way", "_law_other", "_law_level"] "_law_levels_refused" (defScope s__law_levels_refused) f (.ref cd) A' outer s H E).nox (defBody s__law_levels_refused) t ∧ t { nx := fun _ H' => Q .non H', rt := Q } (L2.start ["_law_far", "_law_due", "_law_bads", "_law_bad", "_law_way", "_law_other", "_law_level"] [.int n]) H := by
    refine ⟨_, (pss_cons (ps_set (i := 1) S.nd rfl (by first | exact Or.inl rfl | exact Or.inr rfl) (pe_lst pa_nil))
  (pss_cons (ps_set (i := 2) S.nd rfl (by first | exact Or.inl rfl | exact Or.inr rfl) (pe_lst (pa_cons pe_non (pa_cons pe_int (pa_cons (pe_tup pa_nil) (pa_cons (pe_lst pa_nil) (pa_cons (pe_tup (pa_cons pe_int pa_nil)) (pa_cons (pe_tup (pa_cons pe_int (pa_cons (pe_lst pa_nil) pa_nil))) (pa_cons (pe_tup (pa_cons pe_bl (pa_cons (pe_lst pa_nil) pa_nil))) (pa_cons (pe_tup (pa_cons pe_int (pa_cons (pe_lst (pa_cons (pe_tup (pa_cons (pe_lst (pa_cons pe_int pa_nil)) (pa_cons pe_int pa_nil))) pa_nil)) pa_nil))) (pa_cons (pe_tup (pa_cons pe_int (pa_cons (pe_lst (pa_cons (pe_tup (pa_cons (pe_lst (pa_cons pe_int pa_nil)) (pa_cons pe_int (pa_cons pe_int pa_nil)))) pa_nil)) pa_nil))) (pa_cons (pe_tup (pa_cons pe_int (pa_cons (pe_lst (pa_cons (pe_tup (pa_cons (pe_lst (pa_cons pe_int pa_nil)) (pa_cons pe_int (pa_cons pe_int pa_nil)))) pa_nil)) pa_nil))) pa_nil))))))))))))
  (pss_cons (ps_set (i := 2) S.nd rfl (by first | exact Or.inl rfl | exact Or.inr rfl) (pe_op op_cat (pv 2) (pe_lst (pa_cons (pe_tup (pa_cons pe_int (pa_cons (pe_lst (pa_cons (pe_tup (pa_cons (pe_lst (pa_cons pe_int pa_nil)) (pa_cons pe_int (pa_cons pe_int pa_nil)))) pa_nil)) pa_nil))) (pa_cons (pe_tup (pa_cons pe_int (pa_cons (pe_lst (pa_cons (pe_tup (pa_cons (pe_lst (pa_cons pe_int pa_nil)) (pa_cons pe_int (pa_cons pe_bl pa_nil)))) pa_nil)) pa_nil))) (pa_cons (pe_tup (pa_cons pe_int (pa_cons (pe_lst (pa_cons (pe_tup (pa_cons (pe_lst (pa_cons pe_int (pa_cons pe_int pa_nil))) (pa_cons pe_int (pa_cons pe_int pa_nil)))) pa_nil)) pa_nil))) (pa_cons (pe_tup (pa_cons pe_int (pa_cons (pe_tup (pa_cons (pe_tup (pa_cons (pe_lst (pa_cons pe_int pa_nil)) (pa_cons pe_int (pa_cons pe_int pa_nil)))) pa_nil)) pa_nil))) (pa_cons (pe_lst (pa_cons pe_int (pa_cons (pe_lst pa_nil) pa_nil))) pa_nil))))))))
  (pss_cons (ps_set (i := 2) S.nd rfl (by first | exact Or.inl rfl | exact Or.inr rfl) (pe_op op_cat (pv 2) (pe_lst (pa_cons (pe_tup (pa_cons pe_int (pa_cons (pe_lst (pa_cons (pe_lst (pa_cons (pe_lst (pa_cons pe_int pa_nil)) (pa_cons pe_int (pa_cons pe_int pa_nil)))) pa_nil)) pa_nil))) (pa_cons (pe_tup (pa_cons pe_str (pa_cons (pe_lst pa_nil) pa_nil))) (pa_cons (pe_tup (pa_cons pe_int (pa_cons pe_non pa_nil))) pa_nil))))))
  (pss_cons (ps_for PassesOwn.never hc (pi_list (pv 2)) (pg_name (i := 3) S.nd rfl (by first | exact Or.inl rfl | exact Or.inr rfl))
    (pss_cons (ps_for PassesOwn.never hc (pi_range1 (by rfl) T.range (pa_cons pe_int pa_nil)) (pg_name (i := 4) S.nd rfl (by first | exact Or.inl rfl | exact Or.inr rfl))
    (pss_one (ps_for PassesOwn.never hc (pi_list (pe_lst (pa_cons pe_non (pa_cons (pe_lst (pa_cons (pe_lst (pa_cons pe_int pa_nil)) pa_nil)) pa_nil)))) (pg_name (i := 5) S.nd rfl (by first | exact Or.inl rfl | exact Or.inr rfl))
    (pss_one (ps_expr (pe_bm PySem.F.plainAttrs_list PySem.F.slot_list_append PySem.F.type_list_append mt_append (pv 1) (pa_cons (pe_lam3 (T := Ts) (k := 13) c_ref S_refused rfl (fun _ _ _ _ _ _ us hl => match us, hl with | [_, _, _], _ => rfl) (g__law_refused T7 sm Z) (by rfl) gu (hr.mono (by decide)) rfl rfl TB rfl hmT huT (LamX.lamS_by (sc := defScope s__law_levels_refused) (by decide +kernel)) rfl (fun _ _ _ _ _ => rfl) (fun A2 outer2 s2 H2 E2 f2 cc2 gu2 hr2 => (pe_fx c__law_call gu2 (hr2.mono (by decide)) (by rfl) (fun σ => passAt (takes_of rfl rfl rfl rfl) σ) (pa_cons (pv 4) (pa_cons (pv 3) (pa_cons (pv 5) (pa_cons pe_non (pa_cons pe_non pa_nil))))))) (pa_cons pe_str (pa_cons (pv 3) pa_nil))) pa_nil)))))))
  (pss_one (ps_expr (pe_bm PySem.F.plainAttrs_list PySem.F.slot_list_append PySem.F.type_list_append mt_append (pv 1) (pa_cons (pe_lam3 (T := Ts) (k := 13) c_ref S_refused rfl (fun _ _ _ _ _ _ us hl => match us, hl with | [_, _, _], _ => rfl) (g__law_refused T7 sm Z) (by rfl) gu (hr.mono (by decide)) rfl rfl TB rfl hmT huT (LamX.lamS_by (sc := defScope s__law_levels_refused) (by decide +kernel)) rfl (fun _ _ _ _ _ => rfl) (fun A2 outer2 s2 H2 E2 f2 cc2 gu2 hr2 => (pe_fx c_alone gu2 (hr2.mono (by decide)) (by rfl) (fun σ => passAt (takes_of rfl rfl rfl rfl) σ) (pa_cons (pv 3) (pa_cons pe_non (pa_cons pe_non (pa_cons pe_non pa_nil)))))) (pa_cons pe_str (pa_cons (pv 3) pa_nil))) pa_nil))))))
  (pss_cons (ps_set (i := 6) S.nd rfl (by first | exact Or.inl rfl | exact Or.inr rfl) (pe_tup (pa_cons pe_int (pa_cons (pe_lst (pa_cons (pe_tup (pa_cons (pe_lst (pa_cons pe_int pa_nil)) (pa_cons pe_int (pa_cons (pe_un un_neg pe_int) pa_nil)))) pa_nil)) pa_nil))))
  (pss_cons (ps_set (i := 2) S.nd rfl (by first | exact Or.inl rfl | exact Or.inr rfl) (pe_lst (pa_cons pe_non (pa_cons pe_int (pa_cons (pe_tup pa_nil) (pa_cons pe_dnewK (pa_cons pe_str (pa_cons (pe_lst (pa_cons pe_int pa_nil)) (pa_cons (pe_lst (pa_cons (pe_lst (pa_cons pe_int pa_nil)) pa_nil)) (pa_cons (pe_lst (pa_cons (pe_lst (pa_cons (pe_un un_neg pe_int) pa_nil)) pa_nil)) (pa_cons (pe_lst (pa_cons (pe_lst (pa_cons pe_int (pa_cons pe_int pa_nil))) pa_nil)) (pa_cons (pe_lst (pa_cons (pe_lst (pa_cons pe_int (pa_cons pe_int pa_nil))) pa_nil)) (pa_cons (pe_lst (pa_cons (pe_lst (pa_cons pe_bl pa_nil)) pa_nil)) (pa_cons (pe_lst (pa_cons (pe_lst (pa_cons pe_str pa_nil)) pa_nil)) (pa_cons (pe_lst (pa_cons (pe_tup (pa_cons pe_int pa_nil)) pa_nil)) (pa_cons (pe_tup (pa_cons (pe_lst (pa_cons pe_int pa_nil)) pa_nil)) pa_nil))))))))))))))))
  (pss_cons (ps_set (i := 2) S.nd rfl (by first | exact Or.inl rfl | exact Or.inr rfl) (pe_op op_cat (pv 2) (pe_lst (pa_cons (pe_lst (pa_cons (pe_lst (pa_cons pe_int pa_nil)) (pa_cons pe_non pa_nil))) (pa_cons (pe_lst (pa_cons (pe_lst (pa_cons pe_int pa_nil)) (pa_cons (pe_lst (pa_cons pe_int pa_nil)) pa_nil))) (pa_cons (pe_lst (pa_cons (pe_lst (pa_cons (pe_op op_add (pv 0) pe_int) pa_nil)) pa_nil)) pa_nil))))))
  (pss_cons (ps_for PassesOwn.never hc (pi_list (pv 2)) (pg_name (i := 3) S.nd rfl (by first | exact Or.inl rfl | exact Or.inr rfl))
    (pss_one (ps_for PassesOwn.never hc (pi_range1 (by rfl) T.range (pa_cons pe_int pa_nil)) (pg_name (i := 4) S.nd rfl (by first | exact Or.inl rfl | exact Or.inr rfl))
    (pss_one (ps_for PassesOwn.never hc (pi_list (pe_lst (pa_cons pe_non (pa_cons pe_int pa_nil)))) (pg_name (i := 5) S.nd rfl (by first | exact Or.inl rfl | exact Or.inr rfl))
    (pss_one (ps_expr (pe_bm PySem.F.plainAttrs_list PySem.F.slot_list_append PySem.F.type_list_append mt_append (pv 1) (pa_cons (pe_lam3 (T := Ts) (k := 13) c_ref S_refused rfl (fun _ _ _ _ _ _ us hl => match us, hl with | [_, _, _], _ => rfl) (g__law_refused T7 sm Z) (by rfl) gu (hr.mono (by decide)) rfl rfl TB rfl hmT huT (LamX.lamS_by (sc := defScope s__law_levels_refused) (by decide +kernel)) rfl (fun _ _ _ _ _ => rfl) (fun A2 outer2 s2 H2 E2 f2 cc2 gu2 hr2 => (pe_fx c__law_call gu2 (hr2.mono (by decide)) (by rfl) (fun σ => passAt (takes_of rfl rfl rfl rfl) σ) (pa_cons (pv 4) (pa_cons (pv 6) (pa_cons (pv 3) (pa_cons (pv 5) (pa_cons pe_non pa_nil))))))) (pa_cons pe_str (pa_cons (pv 3) pa_nil))) pa_nil)))))))))
  (pss_one (ps_ret (pe_cmpR op_notIn_seq pe_bl (pv 1) (by with_unfolding_all rfl))))))))))))), ?_⟩
    refine xt_new (K := K) (ρ := [some (.int n), none, none, none, none, none, none]) (Nat.le_of_ble_eq_true rfl) (fun σ B H s sd a => ?_) ex_B0 nt_B0 (sd_start (N := ["_law_far", "_law_due", "_law_bads", "_law_bad", "_law_way", "_law_other", "_law_level"]) (.cons (.int n) .nil)) tb

    refine xt_step (xt_asg (d := .list levB0) (j := 2) (by decide) (ed_lst (ea_cons ed_non (ea_cons ed_int (ea_cons (ed_tup ea_nil (Nat.le_of_ble_eq_true rfl)) (ea_cons (ed_lst ea_nil (Nat.le_of_ble_eq_true rfl)) (ea_cons (ed_tup (ea_cons ed_int ea_nil) (Nat.le_of_ble_eq_true rfl)) (ea_cons (ed_tup (ea_cons ed_int (ea_cons (ed_lst ea_nil (Nat.le_of_ble_eq_true rfl)) ea_nil)) (Nat.le_of_ble_eq_true rfl)) (ea_cons (ed_tup (ea_cons ed_bl (ea_cons (ed_lst ea_nil (Nat.le_of_ble_eq_true rfl)) ea_nil)) (Nat.le_of_ble_eq_true rfl)) (ea_cons (ed_tup (ea_cons ed_int (ea_cons (ed_lst (ea_cons (ed_tup (ea_cons (ed_lst (ea_cons ed_int ea_nil) (Nat.le_of_ble_eq_true rfl)) (ea_cons ed_int ea_nil)) (Nat.le_of_ble_eq_true rfl)) ea_nil) (Nat.le_of_ble_eq_true rfl)) ea_nil)) (Nat.le_of_ble_eq_true rfl)) (ea_cons (ed_tup (ea_cons ed_int (ea_cons (ed_lst (ea_cons (ed_tup (ea_cons (ed_lst (ea_cons ed_int ea_nil) (Nat.le_of_ble_eq_true rfl)) (ea_cons ed_int (ea_cons ed_int ea_nil))) (Nat.le_of_ble_eq_true rfl)) ea_nil) (Nat.le_of_ble_eq_true rfl)) ea_nil)) (Nat.le_of_ble_eq_true rfl)) (ea_cons (ed_tup (ea_cons ed_int (ea_cons (ed_lst (ea_cons (ed_tup (ea_cons (ed_lst (ea_cons ed_int ea_nil) (Nat.le_of_ble_eq_true rfl)) (ea_cons ed_int (ea_cons ed_int ea_nil))) (Nat.le_of_ble_eq_true rfl)) ea_nil) (Nat.le_of_ble_eq_true rfl)) ea_nil)) (Nat.le_of_ble_eq_true rfl)) ea_nil)))))))))) (Nat.le_of_ble_eq_true rfl))) (fun σ B H s sd a => ?_) s sd a
    refine xt_step (xt_asg (d := .list (levB0 ++ levB1)) (j := 2) (by decide) (ed_op (y := .list levB1) (ed_var (i := 2) rfl) (ed_lst (ea_cons (ed_tup (ea_cons ed_int (ea_cons (ed_lst (ea_cons (ed_tup (ea_cons (ed_lst (ea_cons ed_int ea_nil) (Nat.le_of_ble_eq_true rfl)) (ea_cons ed_int (ea_cons ed_int ea_nil))) (Nat.le_of_ble_eq_true rfl)) ea_nil) (Nat.le_of_ble_eq_true rfl)) ea_nil)) (Nat.le_of_ble_eq_true rfl)) (ea_cons (ed_tup (ea_cons ed_int (ea_cons (ed_lst (ea_cons (ed_tup (ea_cons (ed_lst (ea_cons ed_int ea_nil) (Nat.le_of_ble_eq_true rfl)) (ea_cons ed_int (ea_cons ed_bl ea_nil))) (Nat.le_of_ble_eq_true rfl)) ea_nil) (Nat.le_of_ble_eq_true rfl)) ea_nil)) (Nat.le_of_ble_eq_true rfl)) (ea_cons (ed_tup (ea_cons ed_int (ea_cons (ed_lst (ea_cons (ed_tup (ea_cons (ed_lst (ea_cons ed_int (ea_cons ed_int ea_nil)) (Nat.le_of_ble_eq_true rfl)) (ea_cons ed_int (ea_cons ed_int ea_nil))) (Nat.le_of_ble_eq_true rfl)) ea_nil) (Nat.le_of_ble_eq_true rfl)) ea_nil)) (Nat.le_of_ble_eq_true rfl)) (ea_cons (ed_tup (ea_cons ed_int (ea_cons (ed_tup (ea_cons (ed_tup (ea_cons (ed_lst (ea_cons ed_int ea_nil) (Nat.le_of_ble_eq_true rfl)) (ea_cons ed_int (ea_cons ed_int ea_nil))) (Nat.le_of_ble_eq_true rfl)) ea_nil) (Nat.le_of_ble_eq_true rfl)) ea_nil)) (Nat.le_of_ble_eq_true rfl)) (ea_cons (ed_lst (ea_cons ed_int (ea_cons (ed_lst ea_nil (Nat.le_of_ble_eq_true rfl)) ea_nil)) (Nat.le_of_ble_eq_true rfl)) ea_nil))))) (Nat.le_of_ble_eq_true rfl)) (r_cat (Nat.le_of_ble_eq_true rfl)))) (fun σ B H s sd a => ?_) s sd a
    refine xt_step (xt_asg (d := .list levB) (j := 2) (by decide) (ed_op (y := .list levB2) (ed_var (i := 2) rfl) (ed_lst (ea_cons (ed_tup (ea_cons ed_int (ea_cons (ed_lst (ea_cons (ed_lst (ea_cons (ed_lst (ea_cons ed_int ea_nil) (Nat.le_of_ble_eq_true rfl)) (ea_cons ed_int (ea_cons ed_int ea_nil))) (Nat.le_of_ble_eq_true rfl)) ea_nil) (Nat.le_of_ble_eq_true rfl)) ea_nil)) (Nat.le_of_ble_eq_true rfl)) (ea_cons (ed_tup (ea_cons ed_str (ea_cons (ed_lst ea_nil (Nat.le_of_ble_eq_true rfl)) ea_nil)) (Nat.le_of_ble_eq_true rfl)) (ea_cons (ed_tup (ea_cons ed_int (ea_cons ed_non ea_nil)) (Nat.le_of_ble_eq_true rfl)) ea_nil))) (Nat.le_of_ble_eq_true rfl)) (r_cat (Nat.le_of_ble_eq_true rfl)))) (fun σ B H s sd a => ?_) s sd a
    have len1 : levB.length = 18 := rfl
    refine xt_step (xt_for (j := 3) (n := 0) (k := 29) (ds := levB) (by decide) (ed_var (i := 2) rfl) fun b hb n1 h1 => ?_) (fun σ B H s sd a => ?_) s sd a
    · obtain ⟨nl, fb⟩ := levB_ok b hb
      refine xt_less [3] (xt_up (xt_seq (xt_forR1 (j := 4) (c := 14) (k := 2) (by decide) (ea_cons ed_int ea_nil) (Nat.le_of_ble_eq_true rfl) fun x hx n2 h2 => ?_) (xt_lam (nm := "level") (fld := b) (C := A.Level) (lam_call (m := 3) (i := 3) (j := 0) (ds := [b, .none, .none, .none]) (eai_here (i := 3) rfl (ea_cons ed_non (ea_cons ed_non (ea_cons ed_non ea_nil)))) ⟨_, _, _, _, rfl, .inl ⟨nl, rfl, rfl⟩⟩ rfl rfl) ⟨0, rfl, rfl, fb⟩ (by omega))) (by omega)) rfl
      refine xt_less [4] (xt_up (xt_for (j := 5) (k := 1) (ds := [.none, .list [.list [.int 0]]]) (by decide) (ed_lst (ea_cons ed_non (ea_cons (ed_lst (ea_cons (ed_lst (ea_cons ed_int ea_nil) (Nat.le_of_ble_eq_true rfl)) ea_nil) (Nat.le_of_ble_eq_true rfl)) ea_nil)) (Nat.le_of_ble_eq_true rfl)) fun z hz n3 h3 => ?_) (by simp only [List.length_cons, List.length_nil]; omega)) rfl
      have h3' : n3 ≤ n2 + 2 * 1 := h3
      exact xt_less [5] (xt_lam (nm := "level") (fld := b) (C := A.Level) (lam_call (m := 3) (i := 3) (j := 1) (ds := [.int ((0 : Nat) + (x : Int)), b, z, .none, .none]) (eai_next (ed_var (i := 4) rfl) (eai_here (i := 3) rfl (ea_cons (ed_var (i := 5) rfl) (ea_cons ed_non (ea_cons ed_non ea_nil))))) (call_bad (i := 0) (by omega) (.inl (.inl ⟨nl, rfl, rfl⟩))) rfl rfl) ⟨0, rfl, rfl, fb⟩ (by omega)) rfl
    refine xt_step (xt_asg (d := levG) (j := 6) (by decide) (ed_tup (ea_cons ed_int (ea_cons (ed_lst (ea_cons (ed_tup (ea_cons (ed_lst (ea_cons ed_int ea_nil) (Nat.le_of_ble_eq_true rfl)) (ea_cons ed_int (ea_cons ed_neg1 ea_nil))) (Nat.le_of_ble_eq_true rfl)) ea_nil) (Nat.le_of_ble_eq_true rfl)) ea_nil)) (Nat.le_of_ble_eq_true rfl))) (fun σ B H s sd a => ?_) s sd a
    refine xt_step (xt_asg (d := .list preB0) (j := 2) (by decide) (ed_lst (ea_cons ed_non (ea_cons ed_int (ea_cons (ed_tup ea_nil (Nat.le_of_ble_eq_true rfl)) (ea_cons ed_dnew (ea_cons ed_str (ea_cons (ed_lst (ea_cons ed_int ea_nil) (Nat.le_of_ble_eq_true rfl)) (ea_cons (ed_lst (ea_cons (ed_lst (ea_cons ed_int ea_nil) (Nat.le_of_ble_eq_true rfl)) ea_nil) (Nat.le_of_ble_eq_true rfl)) (ea_cons (ed_lst (ea_cons (ed_lst (ea_cons ed_neg1 ea_nil) (Nat.le_of_ble_eq_true rfl)) ea_nil) (Nat.le_of_ble_eq_true rfl)) (ea_cons (ed_lst (ea_cons (ed_lst (ea_cons ed_int (ea_cons ed_int ea_nil)) (Nat.le_of_ble_eq_true rfl)) ea_nil) (Nat.le_of_ble_eq_true rfl)) (ea_cons (ed_lst (ea_cons (ed_lst (ea_cons ed_int (ea_cons ed_int ea_nil)) (Nat.le_of_ble_eq_true rfl)) ea_nil) (Nat.le_of_ble_eq_true rfl)) (ea_cons (ed_lst (ea_cons (ed_lst (ea_cons ed_bl ea_nil) (Nat.le_of_ble_eq_true rfl)) ea_nil) (Nat.le_of_ble_eq_true rfl)) (ea_cons (ed_lst (ea_cons (ed_lst (ea_cons ed_str ea_nil) (Nat.le_of_ble_eq_true rfl)) ea_nil) (Nat.le_of_ble_eq_true rfl)) (ea_cons (ed_lst (ea_cons (ed_tup (ea_cons ed_int ea_nil) (Nat.le_of_ble_eq_true rfl)) ea_nil) (Nat.le_of_ble_eq_true rfl)) (ea_cons (ed_tup (ea_cons (ed_lst (ea_cons ed_int ea_nil) (Nat.le_of_ble_eq_true rfl)) ea_nil) (Nat.le_of_ble_eq_true rfl)) ea_nil)))))))))))))) (Nat.le_of_ble_eq_true rfl))) (fun σ B H s sd a => ?_) s sd a
    refine xt_step (xt_asg (d := .list (preB n)) (j := 2) (by decide) (ed_op (y := .list (preB1 n)) (ed_var (i := 2) rfl) (ed_lst (ea_cons (ed_lst (ea_cons (ed_lst (ea_cons ed_int ea_nil) (Nat.le_of_ble_eq_true rfl)) (ea_cons ed_non ea_nil)) (Nat.le_of_ble_eq_true rfl)) (ea_cons (ed_lst (ea_cons (ed_lst (ea_cons ed_int ea_nil) (Nat.le_of_ble_eq_true rfl)) (ea_cons (ed_lst (ea_cons ed_int ea_nil) (Nat.le_of_ble_eq_true rfl)) ea_nil)) (Nat.le_of_ble_eq_true rfl)) (ea_cons (ed_lst (ea_cons (ed_lst (ea_cons (ed_op (ed_var (i := 0) rfl) ed_int r_Ii) ea_nil) (Nat.le_of_ble_eq_true rfl)) ea_nil) (Nat.le_of_ble_eq_true rfl)) ea_nil))) (Nat.le_of_ble_eq_true rfl)) (r_cat (Nat.le_of_ble_eq_true rfl)))) (fun σ B H s sd a => ?_) s sd a
    have len2 : (preB n).length = 17 := rfl
    refine xt_step (xt_for (j := 3) (k := 28) (ds := preB n) (by decide) (ed_var (i := 2) rfl) fun b hb n1 h1 => ?_) (fun σ B H s sd a => ?_) s sd a
    · obtain ⟨bp, fb⟩ := preB_ok hn b hb
      refine xt_less [3] (xt_up (xt_forR1 (j := 4) (c := 14) (k := 2) (by decide) (ea_cons ed_int ea_nil) (Nat.le_of_ble_eq_true rfl) fun x hx n2 h2 => ?_) (by omega)) rfl
      refine xt_less [4] (xt_up (xt_for (j := 5) (k := 1) (ds := [.none, .int 0]) (by decide) (ed_lst (ea_cons ed_non (ea_cons ed_int ea_nil)) (Nat.le_of_ble_eq_true rfl)) fun z hz n3 h3 => ?_) (by simp only [List.length_cons, List.length_nil]; omega)) rfl
      have h3' : n3 ≤ n2 + 2 * 1 := h3
      exact xt_less [5] (xt_lam (nm := "presses") (fld := b) (C := A.Presses) (lam_call (m := 3) (i := 3) (j := 2) (ds := [.int ((0 : Nat) + (x : Int)), levG, b, z, .none]) (eai_next (ed_var (i := 4) rfl) (eai_next (ed_var (i := 6) rfl) (eai_here (i := 3) rfl (ea_cons (ed_var (i := 5) rfl) (ea_cons ed_non ea_nil))))) (call_bad (i := 1) (by omega) (.inl (.inr ⟨2, lv_G, bp, rfl, rfl⟩))) rfl rfl) ⟨2, rfl, rfl, fb⟩ (by omega)) rfl
    exact xt_end (fun ds hT hl => xs_notin hT rfl) s sd a fun v B' H' dv tb => by
      cases dv
      exact hq H' tb
  obtain ⟨t, h1, h2⟩ := hps
  exact ⟨t, h1.nox, h2⟩
end
end TD

set_option maxHeartbeats 8000000
namespace TD
open PySem PySem.Spec PyProof.Rows L2
open Evl (Ex)
open LamX (CodeO Tabs TabS TabB ExtN)
/-! # the law's second and third parts -/
section
variable {P : Program} {w : World} {K : Fg} {mg : Str → Option Value} {base : Heap} {A : Ad4} {DE : Addr} {Ts : List (Addr × Str)} {cd Pt : Addr}
theorem gp_nil : GP 2 (.list []) := ⟨rfl, rfl⟩
theorem bad_tick {b m : PyData} (h : fitsRoom 2 b = false) : Bad4 A levG preG b m A.Number 2 := .inr (.inl ⟨2, _, lv_G, rfl, gp_G, h, rfl, rfl⟩)
theorem bad_room {b : PyData} (h : fitsRoom 2 b = false) : Bad4 A levG preG (.int 1) b A.Room 3 := .inr (.inr ⟨2, _, lv_G, rfl, gp_G, rfl, h, rfl, rfl⟩)
theorem bad_nil : Bad4 A levG (.list []) (.int 0) (.int 0) A.Number 2 := .inr (.inl ⟨2, [], lv_G, rfl, gp_nil, rfl, rfl, rfl⟩)

abbrev s__law_targets_refused : Stmt := topS 78
theorem f__law_targets_refused (T : BR mg) (T7 : B7 mg) (sm : ∃ mm, base.Ns sysModules mm) (Z : Ce K mg A DE) (kIn : K.In base) (hns : base.Ns mainGlobals mg) (htab : PySem.W.tabIn K "_law_targets_refused" = some (cd, Pt)) (TB : TabB base mg cd Pt) (hmT : (Pt, qL "_law_targets_refused") ∈ Ts) (huT : ∀ p ∈ Ts, p.1 = Pt → p.2 = qL "_law_targets_refused")
    (c_ref : At K mg "_law_refused" s__law_refused) (c__law_call : Fx P w K mg base "_law_call" ["_law_way", "_law_level", "_law_presses", "_law_tick", "_law_room"] 13 (SpX K R_none (X_call A))) (c_alone : Fx P w K mg base "alone" ["level", "ticks", "tick", "room"] 10 (SpX K R_none (X_alone A))) (a : At K mg "_law_targets_refused" s__law_targets_refused) : Fc P w K mg base "_law_targets_refused" ["_law_far"] 16 (spTab K Ts) := by
  have S : FnScope ["_law_far", "_law_due", "_law_level", "_law_presses", "_law_bad", "_law_way", "_law_other"] ["_law_far"] (defScope s__law_targets_refused) := ⟨rfl, rfl, rfl, by decide +kernel, rfl, by decide +kernel, by decide +kernel⟩

  obtain ⟨f, fd, F, hm⟩ := a
  refine ⟨f, fd, hm, F.kp, F.binds (fun _ _ _ _ _ _ us hl => match us, hl with | [_], _ => rfl), fnGT F hm kIn hns htab S (by rintro vs H Q E ⟨n, rfl, _⟩; rfl) ?_⟩
  rintro A' outer s H vs Q E gu hr ⟨n, rfl, hn, tb, hq⟩
  have hc : (cxOf CX0 P w K mg base ["_law_far", "_law_due", "_law_level", "_law_presses", "_law_bad", "_law_way", "_law_other"] "_law_targets_refused" (defScope s__law_targets_refused) f (.ref cd) A' outer s H E).nox.calm = true := rfl
  have hps : ∃ t, PSs (cxOf CX0 P w K mg base ["_law_far", "_law_due", "_law_level", "_law_presses", "_law_bad", "_law_way", "_law_other"] "_law_targets_refused" (defScope s__law_targets_refused) f (.ref cd) A' outer s H E).nox (defBody s__law_targets_refused) t ∧ t { nx := fun _ H' => Q .non H', rt := Q } (L2.start ["_law_far", "_law_due", "_law_level", "_law_presses", "_law_bad", "_law_way", "_law_other"] [.int n]) H := by
    refine ⟨_, (pss_cons (ps_asg (pe_tup (pa_cons (pe_lst pa_nil) (pa_cons (pe_tup (pa_cons pe_int (pa_cons (pe_lst (pa_cons (pe_tup (pa_cons (pe_lst (pa_cons pe_int pa_nil)) (pa_cons pe_int (pa_cons (pe_un un_neg pe_int) pa_nil)))) pa_nil)) pa_nil))) (pa_cons (pe_lst (pa_cons (pe_lst (pa_cons pe_int pa_nil)) (pa_cons (pe_lst (pa_cons pe_int (pa_cons pe_int pa_nil))) pa_nil))) pa_nil)))) (pg_tup hc (pgs_cons (pg_name (i := 1) S.nd rfl (by first | exact Or.inl rfl | exact Or.inr rfl)) (pgs_cons (pg_name (i := 2) S.nd rfl (by first | exact Or.inl rfl | exact Or.inr rfl)) (pgs_cons (pg_name (i := 3) S.nd rfl (by first | exact Or.inl rfl | exact Or.inr rfl)) pgs_nil)))))
  (pss_cons (ps_for PassesOwn.never hc (pi_list (pe_lst (pa_cons pe_non (pa_cons (pe_un un_neg pe_int) (pa_cons pe_int (pa_cons pe_bl (pa_cons pe_str (pa_cons (pe_lst (pa_cons pe_int pa_nil)) (pa_cons (pe_tup (pa_cons pe_int pa_nil)) (pa_cons (pe_op op_add (pv 0) pe_int) pa_nil)))))))))) (pg_name (i := 4) S.nd rfl (by first | exact Or.inl rfl | exact Or.inr rfl))
    (pss_cons (ps_for PassesOwn.never hc (pi_range2 (by rfl) T.range (pa_cons pe_int (pa_cons pe_int pa_nil))) (pg_name (i := 5) S.nd rfl (by first | exact Or.inl rfl | exact Or.inr rfl))
    (pss_cons (ps_for PassesOwn.never hc (pi_list (pe_lst (pa_cons pe_non (pa_cons pe_int pa_nil)))) (pg_name (i := 6) S.nd rfl (by first | exact Or.inl rfl | exact Or.inr rfl))
    (pss_one (ps_expr (pe_bm PySem.F.plainAttrs_list PySem.F.slot_list_append PySem.F.type_list_append mt_append (pv 1) (pa_cons (pe_lam3 (T := Ts) (k := 13) c_ref S_refused rfl (fun _ _ _ _ _ _ us hl => match us, hl with | [_, _, _], _ => rfl) (g__law_refused T7 sm Z) (by rfl) gu (hr.mono (by decide)) rfl rfl TB rfl hmT huT (LamX.lamS_by (sc := defScope s__law_targets_refused) (by decide +kernel)) rfl (fun _ _ _ _ _ => rfl) (fun A2 outer2 s2 H2 E2 f2 cc2 gu2 hr2 => (pe_fx c__law_call gu2 (hr2.mono (by decide)) (by rfl) (fun σ => passAt (takes_of rfl rfl rfl rfl) σ) (pa_cons (pv 5) (pa_cons (pv 2) (pa_cons (pv 3) (pa_cons (pv 4) (pa_cons (pv 6) pa_nil))))))) (pa_cons pe_str (pa_cons (pv 4) pa_nil))) pa_nil)))))
  (pss_one (ps_expr (pe_bm PySem.F.plainAttrs_list PySem.F.slot_list_append PySem.F.type_list_append mt_append (pv 1) (pa_cons (pe_lam3 (T := Ts) (k := 13) c_ref S_refused rfl (fun _ _ _ _ _ _ us hl => match us, hl with | [_, _, _], _ => rfl) (g__law_refused T7 sm Z) (by rfl) gu (hr.mono (by decide)) rfl rfl TB rfl hmT huT (LamX.lamS_by (sc := defScope s__law_targets_refused) (by decide +kernel)) rfl (fun _ _ _ _ _ => rfl) (fun A2 outer2 s2 H2 E2 f2 cc2 gu2 hr2 => (pe_fx c__law_call gu2 (hr2.mono (by decide)) (by rfl) (fun σ => passAt (takes_of rfl rfl rfl rfl) σ) (pa_cons (pv 5) (pa_cons (pv 2) (pa_cons (pv 3) (pa_cons pe_int (pa_cons (pv 4) pa_nil))))))) (pa_cons pe_str (pa_cons (pv 4) pa_nil))) pa_nil))))))
  (pss_cons (ps_expr (pe_bm PySem.F.plainAttrs_list PySem.F.slot_list_append PySem.F.type_list_append mt_append (pv 1) (pa_cons (pe_lam3 (T := Ts) (k := 13) c_ref S_refused rfl (fun _ _ _ _ _ _ us hl => match us, hl with | [_, _, _], _ => rfl) (g__law_refused T7 sm Z) (by rfl) gu (hr.mono (by decide)) rfl rfl TB rfl hmT huT (LamX.lamS_by (sc := defScope s__law_targets_refused) (by decide +kernel)) rfl (fun _ _ _ _ _ => rfl) (fun A2 outer2 s2 H2 E2 f2 cc2 gu2 hr2 => (pe_fx c_alone gu2 (hr2.mono (by decide)) (by rfl) (fun σ => passAt (takes_of rfl rfl rfl rfl) σ) (pa_cons (pv 2) (pa_cons pe_int (pa_cons (pv 4) (pa_cons pe_non pa_nil)))))) (pa_cons pe_str (pa_cons (pv 4) pa_nil))) pa_nil)))
  (pss_one (ps_expr (pe_bm PySem.F.plainAttrs_list PySem.F.slot_list_append PySem.F.type_list_append mt_append (pv 1) (pa_cons (pe_lam3 (T := Ts) (k := 13) c_ref S_refused rfl (fun _ _ _ _ _ _ us hl => match us, hl with | [_, _, _], _ => rfl) (g__law_refused T7 sm Z) (by rfl) gu (hr.mono (by decide)) rfl rfl TB rfl hmT huT (LamX.lamS_by (sc := defScope s__law_targets_refused) (by decide +kernel)) rfl (fun _ _ _ _ _ => rfl) (fun A2 outer2 s2 H2 E2 f2 cc2 gu2 hr2 => (pe_fx c_alone gu2 (hr2.mono (by decide)) (by rfl) (fun σ => passAt (takes_of rfl rfl rfl rfl) σ) (pa_cons (pv 2) (pa_cons pe_int (pa_cons pe_int (pa_cons (pv 4) pa_nil)))))) (pa_cons pe_str (pa_cons (pv 4) pa_nil))) pa_nil)))))))
  (pss_cons (ps_for PassesOwn.never hc (pi_range2 (by rfl) T.range (pa_cons pe_int (pa_cons pe_int pa_nil))) (pg_name (i := 5) S.nd rfl (by first | exact Or.inl rfl | exact Or.inr rfl))
    (pss_one (ps_expr (pe_bm PySem.F.plainAttrs_list PySem.F.slot_list_append PySem.F.type_list_append mt_append (pv 1) (pa_cons (pe_lam3 (T := Ts) (k := 13) c_ref S_refused rfl (fun _ _ _ _ _ _ us hl => match us, hl with | [_, _, _], _ => rfl) (g__law_refused T7 sm Z) (by rfl) gu (hr.mono (by decide)) rfl rfl TB rfl hmT huT (LamX.lamS_by (sc := defScope s__law_targets_refused) (by decide +kernel)) rfl (fun _ _ _ _ _ => rfl) (fun A2 outer2 s2 H2 E2 f2 cc2 gu2 hr2 => (pe_fx c__law_call gu2 (hr2.mono (by decide)) (by rfl) (fun σ => passAt (takes_of rfl rfl rfl rfl) σ) (pa_cons (pv 5) (pa_cons (pv 2) (pa_cons (pe_lst pa_nil) (pa_cons pe_int (pa_cons pe_int pa_nil))))))) (pa_cons pe_str (pa_cons pe_int pa_nil))) pa_nil)))))
  (pss_cons (ps_for PassesOwn.never hc (pi_list (pe_lst (pa_cons pe_non (pa_cons pe_int (pa_cons (pe_un un_neg pe_int) (pa_cons pe_int (pa_cons pe_bl (pa_cons pe_str (pa_cons (pe_lst (pa_cons pe_int pa_nil)) (pa_cons (pe_op op_add (pv 0) pe_int) pa_nil)))))))))) (pg_name (i := 4) S.nd rfl (by first | exact Or.inl rfl | exact Or.inr rfl))
    (pss_one (ps_for PassesOwn.never hc (pi_list (pe_lst (pa_cons pe_non (pa_cons pe_int pa_nil)))) (pg_name (i := 6) S.nd rfl (by first | exact Or.inl rfl | exact Or.inr rfl))
    (pss_one (ps_expr (pe_bm PySem.F.plainAttrs_list PySem.F.slot_list_append PySem.F.type_list_append mt_append (pv 1) (pa_cons (pe_lam3 (T := Ts) (k := 13) c_ref S_refused rfl (fun _ _ _ _ _ _ us hl => match us, hl with | [_, _, _], _ => rfl) (g__law_refused T7 sm Z) (by rfl) gu (hr.mono (by decide)) rfl rfl TB rfl hmT huT (LamX.lamS_by (sc := defScope s__law_targets_refused) (by decide +kernel)) rfl (fun _ _ _ _ _ => rfl) (fun A2 outer2 s2 H2 E2 f2 cc2 gu2 hr2 => (pe_fx c_alone gu2 (hr2.mono (by decide)) (by rfl) (fun σ => passAt (takes_of rfl rfl rfl rfl) σ) (pa_cons (pv 2) (pa_cons (pv 4) (pa_cons (pv 6) (pa_cons pe_non pa_nil)))))) (pa_cons pe_str (pa_cons (pv 4) pa_nil))) pa_nil)))))))
  (pss_one (ps_ret (pe_cmpR op_notIn_seq pe_bl (pv 1) (by with_unfolding_all rfl)))))))), ?_⟩
    refine xt_asg3 (K := K) (ρ := [some (.int n), none, none, none, none, none, none]) (d1 := levG) (d2 := preG) (ea_cons (ed_tup (ea_cons ed_int (ea_cons (ed_lst (ea_cons (ed_tup (ea_cons (ed_lst (ea_cons ed_int ea_nil) (Nat.le_of_ble_eq_true rfl)) (ea_cons ed_int (ea_cons ed_neg1 ea_nil))) (Nat.le_of_ble_eq_true rfl)) ea_nil) (Nat.le_of_ble_eq_true rfl)) ea_nil)) (Nat.le_of_ble_eq_true rfl)) (ea_cons (ed_lst (ea_cons (ed_lst (ea_cons ed_int ea_nil) (Nat.le_of_ble_eq_true rfl)) (ea_cons (ed_lst (ea_cons ed_int (ea_cons ed_int ea_nil)) (Nat.le_of_ble_eq_true rfl)) ea_nil)) (Nat.le_of_ble_eq_true rfl)) ea_nil)) (Nat.le_of_ble_eq_true rfl) (by decide) (by decide) (fun σ B H s sd a => ?_) ex_B0 nt_B0 (sd_start (N := ["_law_far", "_law_due", "_law_level", "_law_presses", "_law_bad", "_law_way", "_law_other"]) (.cons (.int n) .nil)) tb
    have len1 : (tickB0 n).length = 8 := rfl
    refine xt_step (xt_for (j := 4) (n := 0) (k := 29) (ds := tickB0 n) (by decide) (ed_lst (ea_cons ed_non (ea_cons ed_neg1 (ea_cons ed_int (ea_cons ed_bl (ea_cons ed_str (ea_cons (ed_lst (ea_cons ed_int ea_nil) (Nat.le_of_ble_eq_true rfl)) (ea_cons (ed_tup (ea_cons ed_int ea_nil) (Nat.le_of_ble_eq_true rfl)) (ea_cons (ed_op (ed_var (i := 0) rfl) ed_int r_Ii) ea_nil)))))))) (Nat.le_of_ble_eq_true rfl)) fun b hb n1 h1 => ?_) (fun σ B H s sd a => ?_) s sd a
    · obtain ⟨ft, fb⟩ := tickB0_ok hn b hb
      refine xt_less [4] (xt_up (xt_seq (xt_forR2 (j := 5) (lo := 5) (c := 9) (k := 3) (by decide) (ea_cons ed_int (ea_cons ed_int ea_nil)) (Nat.le_of_ble_eq_true rfl) fun x hx n2 h2 => ?_) (xt_seq (xt_lam (nm := "number") (fld := b) (C := A.Number) (lam_call (m := 4) (i := 4) (j := 2) (ds := [levG, .int 2, b, .none]) (eai_next (ed_var (i := 2) rfl) (eai_next ed_int (eai_here (i := 4) rfl (ea_cons ed_non ea_nil)))) ⟨_, _, _, _, rfl, .inr (.inr (.inl ⟨2, 2, lv_G, rfl, ⟨by decide, by decide⟩, ft, rfl, rfl⟩))⟩ rfl rfl) ⟨1, rfl, rfl, fb⟩ (by omega))
        (xt_lam (nm := "room") (fld := b) (C := A.Room) (lam_call (m := 4) (i := 4) (j := 3) (ds := [levG, .int 2, .int 1, b]) (eai_next (ed_var (i := 2) rfl) (eai_next ed_int (eai_next ed_int (eai_here (i := 4) rfl ea_nil)))) ⟨_, _, _, _, rfl, .inr (.inr (.inr ⟨2, 2, lv_G, rfl, ⟨by decide, by decide⟩, rfl, ft, rfl, rfl⟩))⟩ rfl rfl) ⟨3, rfl, rfl, fb⟩ (by omega)))) (by omega)) rfl
      refine xt_less [5] (xt_seq (xt_up (m' := n2 + 2) (xt_for (j := 6) (k := 1) (ds := [.none, .int 0]) (by decide) (ed_lst (ea_cons ed_non (ea_cons ed_int ea_nil)) (Nat.le_of_ble_eq_true rfl)) fun z hz n3 h3 => ?_) (by simp only [List.length_cons, List.length_nil]; omega))
        (xt_lam (nm := "room") (fld := b) (C := A.Room) (lam_call (m := 4) (i := 4) (j := 4) (ds := [.int ((5 : Nat) + (x : Int)), levG, preG, .int 1, b]) (eai_next (ed_var (i := 5) rfl) (eai_next (ed_var (i := 2) rfl) (eai_next (ed_var (i := 3) rfl) (eai_next ed_int (eai_here (i := 4) rfl ea_nil))))) (call_bad (i := 3) (by omega) (.inr ⟨by omega, bad_room ft⟩)) rfl rfl) ⟨3, rfl, rfl, fb⟩ (by omega))) rfl
      have h3' : n3 ≤ n2 + 2 * 1 := h3
      exact xt_less [6] (xt_lam (nm := "number") (fld := b) (C := A.Number) (lam_call (m := 4) (i := 4) (j := 3) (ds := [.int ((5 : Nat) + (x : Int)), levG, preG, b, z]) (eai_next (ed_var (i := 5) rfl) (eai_next (ed_var (i := 2) rfl) (eai_next (ed_var (i := 3) rfl) (eai_here (i := 4) rfl (ea_cons (ed_var (i := 6) rfl) ea_nil))))) (call_bad (i := 2) (by omega) (.inr ⟨by omega, bad_tick ft⟩)) rfl rfl) ⟨1, rfl, rfl, fb⟩ (by omega)) rfl
    refine xt_step (xt_forR2 (j := 5) (lo := 5) (c := 9) (k := 1) (by decide) (ea_cons ed_int (ea_cons ed_int ea_nil)) (Nat.le_of_ble_eq_true rfl) fun x hx n2 h2 => ?_) (fun σ B H s sd a => ?_) s sd a
    · refine xt_less [5] (xt_lam (nm := "number") (fld := .int 0) (C := A.Number) (lam_callI (n := 0) (j := 3) (ds := [.int ((5 : Nat) + (x : Int)), levG, .list [], .int 0, .int 0]) (fun σ B H s sd Q q => (ea_cons (ed_var (i := 5) rfl) (ea_cons (ed_var (i := 2) rfl) (ea_cons (ed_lst ea_nil (Nat.le_of_ble_eq_true rfl)) (ea_cons ed_int (ea_cons ed_int ea_nil))))) σ B H s sd Q fun vs B' H' l dd => q vs B' H' l dd (by
        obtain ⟨v, hv, dv⟩ := dd.getD (i := 3) rfl
        cases dv
        exact hv)) (call_bad (i := 2) (by omega) (.inr ⟨by omega, bad_nil⟩))) ⟨1, rfl, rfl, fine0 (gb_big ⟨by decide, by decide⟩)⟩ (by omega)) rfl
    have len2 : (alnB0 n).length = 8 := rfl
    refine xt_step (xt_for (j := 4) (k := 2) (ds := alnB0 n) (by decide) (ed_lst (ea_cons ed_non (ea_cons ed_int (ea_cons ed_neg1 (ea_cons ed_int (ea_cons ed_bl (ea_cons ed_str (ea_cons (ed_lst (ea_cons ed_int ea_nil) (Nat.le_of_ble_eq_true rfl)) (ea_cons (ed_op (ed_var (i := 0) rfl) ed_int r_Ii) ea_nil)))))))) (Nat.le_of_ble_eq_true rfl)) fun b hb n1 h1 => ?_) (fun σ B H s sd a => ?_) s sd a
    · obtain ⟨ba, fb⟩ := alnB0_ok hn b hb
      refine xt_less [4] (xt_up (xt_for (j := 6) (k := 1) (ds := [.none, .int 0]) (by decide) (ed_lst (ea_cons ed_non (ea_cons ed_int ea_nil)) (Nat.le_of_ble_eq_true rfl)) fun z hz n3 h3 => ?_) (by simp only [List.length_cons, List.length_nil]; omega)) rfl
      have h3' : n3 ≤ n1 + 2 * 1 := h3
      exact xt_less [6] (xt_lam (nm := "number") (fld := b) (C := A.Number) (lam_call (m := 4) (i := 4) (j := 1) (ds := [levG, b, z, .none]) (eai_next (ed_var (i := 2) rfl) (eai_here (i := 4) rfl (ea_cons (ed_var (i := 6) rfl) (ea_cons ed_non ea_nil)))) ⟨_, _, _, _, rfl, .inr (.inl ⟨2, lv_G, ba, rfl, rfl⟩)⟩ rfl rfl) ⟨1, rfl, rfl, fb⟩ (by omega)) rfl
    exact xt_end (fun ds hT hl => xs_notin hT rfl) s sd a fun v B' H' dv tb => by
      cases dv
      exact hq H' tb
  obtain ⟨t, h1, h2⟩ := hps
  exact ⟨t, h1.nox, h2⟩

abbrev s__law_lots_refused : Stmt := topS 79
theorem f__law_lots_refused (T7 : B7 mg) (sm : ∃ mm, base.Ns sysModules mm) (Z : Ce K mg A DE) (kIn : K.In base) (hns : base.Ns mainGlobals mg) (htab : PySem.W.tabIn K "_law_lots_refused" = some (cd, Pt)) (TB : TabB base mg cd Pt) (hmT : (Pt, qL "_law_lots_refused") ∈ Ts) (huT : ∀ p ∈ Ts, p.1 = Pt → p.2 = qL "_law_lots_refused")
    (c_ref : At K mg "_law_refused" s__law_refused) (c : Cd P w K mg base A) (c_crossing : Fx P w K mg base "crossing" ["lots"] 5 (SpX K R_none (X_crossing A))) (a : At K mg "_law_lots_refused" s__law_lots_refused) : Fc P w K mg base "_law_lots_refused" ["_law_far"] 16 (spTab K Ts) := by
  have S : FnScope ["_law_far", "_law_due", "_law_level", "_law_presses", "_law_bads", "_law_bad", "_law_call_here"] ["_law_far"] (defScope s__law_lots_refused) := ⟨rfl, rfl, rfl, by decide +kernel, rfl, by decide +kernel, by decide +kernel⟩

  obtain ⟨a_with_only, m_with_only⟩ := c.with_only.at
  obtain ⟨a_without, m_without⟩ := c.without.at
  obtain ⟨a_is_reason, m_is_reason⟩ := c.is_reason.at
  obtain ⟨a_is_cut, m_is_cut⟩ := c.is_cut.at
  obtain ⟨f, fd, F, hm⟩ := a
  refine ⟨f, fd, hm, F.kp, F.binds (fun _ _ _ _ _ _ us hl => match us, hl with | [_], _ => rfl), fnGT F hm kIn hns htab S (by rintro vs H Q E ⟨n, rfl, _⟩; rfl) ?_⟩
  rintro A' outer s H vs Q E gu hr ⟨n, rfl, hn, tb, hq⟩
  have hc : (cxOf CX0 P w K mg base ["_law_far", "_law_due", "_law_level", "_law_presses", "_law_bads", "_law_bad", "_law_call_here"] "_law_lots_refused" (defScope s__law_lots_refused) f (.ref cd) A' outer s H E).nox.calm = true := rfl
  have hps : ∃ t, PSs (cxOf CX0 P w K mg base ["_law_far", "_law_due", "_law_level", "_law_presses", "_law_bads", "_law_bad", "_law_call_here"] "_law_lots_refused" (defScope s__law_lots_refused) f (.ref cd) A' outer s H E).nox (defBody s__law_lots_refused) t ∧ t { nx := fun _ H' => Q .non H', rt := Q } (L2.start ["_law_far", "_law_due", "_law_level", "_law_presses", "_law_bads", "_law_bad", "_law_call_here"] [.int n]) H := by
    refine ⟨_, (pss_cons (ps_asg (pe_tup (pa_cons (pe_lst pa_nil) (pa_cons (pe_tup (pa_cons pe_int (pa_cons (pe_lst (pa_cons (pe_tup (pa_cons (pe_lst (pa_cons pe_int pa_nil)) (pa_cons pe_int (pa_cons (pe_un un_neg pe_int) pa_nil)))) pa_nil)) pa_nil))) (pa_cons (pe_lst (pa_cons (pe_lst (pa_cons pe_int pa_nil)) (pa_cons (pe_lst (pa_cons pe_int (pa_cons pe_int pa_nil))) pa_nil))) pa_nil)))) (pg_tup hc (pgs_cons (pg_name (i := 1) S.nd rfl (by first | exact Or.inl rfl | exact Or.inr rfl)) (pgs_cons (pg_name (i := 2) S.nd rfl (by first | exact Or.inl rfl | exact Or.inr rfl)) (pgs_cons (pg_name (i := 3) S.nd rfl (by first | exact Or.inl rfl | exact Or.inr rfl)) pgs_nil)))))
  (pss_cons (ps_set (i := 4) S.nd rfl (by first | exact Or.inl rfl | exact Or.inr rfl) (pe_lst (pa_cons pe_non (pa_cons pe_int (pa_cons (pe_tup pa_nil) (pa_cons pe_dnewK (pa_cons (pe_lst (pa_cons pe_int pa_nil)) (pa_cons (pe_lst (pa_cons (pe_tup (pa_cons pe_int (pa_cons pe_int pa_nil))) pa_nil)) (pa_cons (pe_lst (pa_cons (pe_tup (pa_cons pe_int (pa_cons pe_int pa_nil))) pa_nil)) (pa_cons (pe_lst (pa_cons (pe_tup (pa_cons pe_int (pa_cons pe_int pa_nil))) (pa_cons (pe_tup (pa_cons pe_int (pa_cons pe_int pa_nil))) pa_nil))) (pa_cons (pe_lst (pa_cons (pe_tup (pa_cons pe_int (pa_cons pe_int pa_nil))) (pa_cons (pe_tup (pa_cons pe_int (pa_cons pe_int pa_nil))) pa_nil))) (pa_cons (pe_lst (pa_cons (pe_lst (pa_cons pe_int (pa_cons pe_int pa_nil))) pa_nil)) (pa_cons (pe_lst (pa_cons (pe_tup (pa_cons pe_int pa_nil)) pa_nil)) pa_nil)))))))))))))
  (pss_cons (ps_set (i := 4) S.nd rfl (by first | exact Or.inl rfl | exact Or.inr rfl) (pe_op op_cat (pv 4) (pe_lst (pa_cons (pe_lst (pa_cons (pe_tup (pa_cons pe_int (pa_cons pe_int (pa_cons pe_int pa_nil)))) pa_nil)) (pa_cons (pe_lst (pa_cons (pe_tup (pa_cons pe_int (pa_cons pe_bl pa_nil))) pa_nil)) (pa_cons (pe_lst (pa_cons (pe_tup (pa_cons pe_int (pa_cons pe_bl pa_nil))) pa_nil)) (pa_cons (pe_lst (pa_cons (pe_tup (pa_cons pe_str (pa_cons pe_int pa_nil))) pa_nil)) (pa_cons (pe_tup (pa_cons (pe_tup (pa_cons pe_int (pa_cons pe_int pa_nil))) pa_nil)) (pa_cons (pe_lst (pa_cons (pe_tup (pa_cons pe_int (pa_cons pe_int pa_nil))) (pa_cons pe_non pa_nil))) (pa_cons (pe_lst (pa_cons (pe_tup (pa_cons (pe_un un_neg pe_int) (pa_cons pe_int pa_nil))) pa_nil)) pa_nil))))))))))
  (pss_cons (ps_set (i := 4) S.nd rfl (by first | exact Or.inl rfl | exact Or.inr rfl) (pe_op op_cat (pv 4) (pe_lst (pa_cons (pe_lst (pa_cons (pe_tup (pa_cons pe_int (pa_cons (pe_op op_add (pv 0) pe_int) pa_nil))) pa_nil)) pa_nil))))
  (pss_cons (ps_for PassesOwn.never hc (pi_list (pv 4)) (pg_name (i := 5) S.nd rfl (by first | exact Or.inl rfl | exact Or.inr rfl))
    (pss_cons (ps_for PassesOwn.never hc (pi_list (pe_lst (pa_cons (pe_glob (v := .ref a_with_only) (by rfl) m_with_only rfl) (pa_cons (pe_glob (v := .ref a_without) (by rfl) m_without rfl) pa_nil)))) (pg_name (i := 6) S.nd rfl (by first | exact Or.inl rfl | exact Or.inr rfl))
    (pss_one (ps_expr (pe_bm PySem.F.plainAttrs_list PySem.F.slot_list_append PySem.F.type_list_append mt_append (pv 1) (pa_cons (pe_lam3 (T := Ts) (k := 13) c_ref S_refused rfl (fun _ _ _ _ _ _ us hl => match us, hl with | [_, _, _], _ => rfl) (g__law_refused T7 sm Z) (by rfl) gu (hr.mono (by decide)) rfl rfl TB rfl hmT huT (LamX.lamS_by (sc := defScope s__law_lots_refused) (by decide +kernel)) rfl (fun _ _ _ _ _ => rfl) (fun A2 outer2 s2 H2 E2 f2 cc2 gu2 hr2 => (pe_callN (k := 13) (CP := CPx P w K mg base 13) (fun _ _ h => h) gu2 hr2 (fun σ => passAt (takes_of rfl rfl rfl rfl) σ) (i := 6) rfl (by first | exact Or.inl rfl | exact Or.inr (Or.inl rfl) | exact Or.inr (Or.inr rfl)) (pa_cons (pv 2) (pa_cons (pv 3) (pa_cons (pv 5) pa_nil))))) (pa_cons pe_str (pa_cons (pv 5) pa_nil))) pa_nil)))))
  (pss_one (ps_for PassesOwn.never hc (pi_list (pe_lst (pa_cons (pe_glob (v := .ref a_is_reason) (by rfl) m_is_reason rfl) (pa_cons (pe_glob (v := .ref a_is_cut) (by rfl) m_is_cut rfl) pa_nil)))) (pg_name (i := 6) S.nd rfl (by first | exact Or.inl rfl | exact Or.inr rfl))
    (pss_one (ps_expr (pe_bm PySem.F.plainAttrs_list PySem.F.slot_list_append PySem.F.type_list_append mt_append (pv 1) (pa_cons (pe_cmpR op_isBl (pe_callN (k := 13) (CP := CPx P w K mg base 13) (fun _ _ h => h) gu (hr.mono (by decide)) (fun _ => pass_no) (i := 6) rfl (by first | exact Or.inl rfl | exact Or.inr (Or.inl rfl) | exact Or.inr (Or.inr rfl)) (pa_cons (pv 2) (pa_cons (pv 3) (pa_cons pe_int (pa_cons pe_int (pa_cons (pv 5) pa_nil)))))) pe_bl (nomark _)) pa_nil))))))))
  (pss_cons (ps_set (i := 4) S.nd rfl (by first | exact Or.inl rfl | exact Or.inr rfl) (pe_lst (pa_cons pe_non (pa_cons pe_int (pa_cons (pe_tup pa_nil) (pa_cons pe_dnewK (pa_cons (pe_lst (pa_cons pe_int pa_nil)) (pa_cons (pe_lst (pa_cons (pe_tup (pa_cons pe_int (pa_cons pe_int pa_nil))) pa_nil)) (pa_cons (pe_lst (pa_cons (pe_lst (pa_cons (pe_tup (pa_cons pe_int (pa_cons pe_int pa_nil))) pa_nil)) (pa_cons pe_non pa_nil))) (pa_cons (pe_lst (pa_cons (pe_lst (pa_cons (pe_tup (pa_cons pe_int (pa_cons pe_int pa_nil))) (pa_cons (pe_tup (pa_cons pe_int (pa_cons pe_int pa_nil))) pa_nil))) pa_nil)) (pa_cons (pe_lst (pa_cons (pe_lst (pa_cons (pe_tup (pa_cons pe_int (pa_cons pe_int pa_nil))) (pa_cons (pe_tup (pa_cons pe_int (pa_cons pe_int pa_nil))) pa_nil))) pa_nil)) (pa_cons (pe_lst (pa_cons (pe_lst (pa_cons (pe_lst (pa_cons pe_int (pa_cons pe_int pa_nil))) pa_nil)) pa_nil)) pa_nil))))))))))))
  (pss_cons (ps_set (i := 4) S.nd rfl (by first | exact Or.inl rfl | exact Or.inr rfl) (pe_op op_cat (pv 4) (pe_lst (pa_cons (pe_lst (pa_cons (pe_lst (pa_cons (pe_tup (pa_cons pe_int pa_nil)) pa_nil)) pa_nil)) (pa_cons (pe_lst (pa_cons (pe_lst (pa_cons (pe_tup (pa_cons pe_int (pa_cons pe_int (pa_cons pe_int pa_nil)))) pa_nil)) pa_nil)) (pa_cons (pe_lst (pa_cons (pe_lst (pa_cons (pe_tup (pa_cons pe_int (pa_cons pe_bl pa_nil))) pa_nil)) pa_nil)) (pa_cons (pe_lst (pa_cons (pe_lst (pa_cons (pe_tup (pa_cons pe_str (pa_cons pe_int pa_nil))) pa_nil)) pa_nil)) (pa_cons (pe_tup (pa_cons (pe_lst (pa_cons (pe_tup (pa_cons pe_int (pa_cons pe_int pa_nil))) pa_nil)) pa_nil)) (pa_cons (pe_lst (pa_cons (pe_tup (pa_cons (pe_tup (pa_cons pe_int (pa_cons pe_int pa_nil))) pa_nil)) pa_nil)) pa_nil)))))))))
  (pss_cons (ps_set (i := 4) S.nd rfl (by first | exact Or.inl rfl | exact Or.inr rfl) (pe_op op_cat (pv 4) (pe_lst (pa_cons (pe_lst (pa_cons (pe_lst (pa_cons (pe_tup (pa_cons pe_int (pa_cons pe_int pa_nil))) pa_nil)) (pa_cons (pe_lst (pa_cons (pe_tup (pa_cons (pe_un un_neg pe_int) (pa_cons pe_int pa_nil))) pa_nil)) pa_nil))) pa_nil))))
  (pss_cons (ps_for PassesOwn.never hc (pi_list (pv 4)) (pg_name (i := 5) S.nd rfl (by first | exact Or.inl rfl | exact Or.inr rfl))
    (pss_one (ps_expr (pe_bm PySem.F.plainAttrs_list PySem.F.slot_list_append PySem.F.type_list_append mt_append (pv 1) (pa_cons (pe_lam3 (T := Ts) (k := 13) c_ref S_refused rfl (fun _ _ _ _ _ _ us hl => match us, hl with | [_, _, _], _ => rfl) (g__law_refused T7 sm Z) (by rfl) gu (hr.mono (by decide)) rfl rfl TB rfl hmT huT (LamX.lamS_by (sc := defScope s__law_lots_refused) (by decide +kernel)) rfl (fun _ _ _ _ _ => rfl) (fun A2 outer2 s2 H2 E2 f2 cc2 gu2 hr2 => (pe_fx c_crossing gu2 (hr2.mono (by decide)) (by rfl) (fun σ => passAt (takes_of rfl rfl rfl rfl) σ) (pa_cons (pv 5) pa_nil))) (pa_cons pe_str (pa_cons (pv 5) pa_nil))) pa_nil)))))
  (pss_one (ps_ret (pe_cmpR op_notIn_seq pe_bl (pv 1) (by with_unfolding_all rfl))))))))))))), ?_⟩
    refine xt_asg3 (K := K) (ρ := [some (.int n), none, none, none, none, none, none]) (d1 := levG) (d2 := preG) (ea_cons (ed_tup (ea_cons ed_int (ea_cons (ed_lst (ea_cons (ed_tup (ea_cons (ed_lst (ea_cons ed_int ea_nil) (Nat.le_of_ble_eq_true rfl)) (ea_cons ed_int (ea_cons ed_neg1 ea_nil))) (Nat.le_of_ble_eq_true rfl)) ea_nil) (Nat.le_of_ble_eq_true rfl)) ea_nil)) (Nat.le_of_ble_eq_true rfl)) (ea_cons (ed_lst (ea_cons (ed_lst (ea_cons ed_int ea_nil) (Nat.le_of_ble_eq_true rfl)) (ea_cons (ed_lst (ea_cons ed_int (ea_cons ed_int ea_nil)) (Nat.le_of_ble_eq_true rfl)) ea_nil)) (Nat.le_of_ble_eq_true rfl)) ea_nil)) (Nat.le_of_ble_eq_true rfl) (by decide) (by decide) (fun σ B H s sd a => ?_) ex_B0 nt_B0 (sd_start (N := ["_law_far", "_law_due", "_law_level", "_law_presses", "_law_bads", "_law_bad", "_law_call_here"]) (.cons (.int n) .nil)) tb
    refine xt_step (xt_asg (d := .list lotB0) (j := 4) (by decide) (ed_lst (ea_cons ed_non (ea_cons ed_int (ea_cons (ed_tup ea_nil (Nat.le_of_ble_eq_true rfl)) (ea_cons ed_dnew (ea_cons (ed_lst (ea_cons ed_int ea_nil) (Nat.le_of_ble_eq_true rfl)) (ea_cons (ed_lst (ea_cons (ed_tup (ea_cons ed_int (ea_cons ed_int ea_nil)) (Nat.le_of_ble_eq_true rfl)) ea_nil) (Nat.le_of_ble_eq_true rfl)) (ea_cons (ed_lst (ea_cons (ed_tup (ea_cons ed_int (ea_cons ed_int ea_nil)) (Nat.le_of_ble_eq_true rfl)) ea_nil) (Nat.le_of_ble_eq_true rfl)) (ea_cons (ed_lst (ea_cons (ed_tup (ea_cons ed_int (ea_cons ed_int ea_nil)) (Nat.le_of_ble_eq_true rfl)) (ea_cons (ed_tup (ea_cons ed_int (ea_cons ed_int ea_nil)) (Nat.le_of_ble_eq_true rfl)) ea_nil)) (Nat.le_of_ble_eq_true rfl)) (ea_cons (ed_lst (ea_cons (ed_tup (ea_cons ed_int (ea_cons ed_int ea_nil)) (Nat.le_of_ble_eq_true rfl)) (ea_cons (ed_tup (ea_cons ed_int (ea_cons ed_int ea_nil)) (Nat.le_of_ble_eq_true rfl)) ea_nil)) (Nat.le_of_ble_eq_true rfl)) (ea_cons (ed_lst (ea_cons (ed_lst (ea_cons ed_int (ea_cons ed_int ea_nil)) (Nat.le_of_ble_eq_true rfl)) ea_nil) (Nat.le_of_ble_eq_true rfl)) (ea_cons (ed_lst (ea_cons (ed_tup (ea_cons ed_int ea_nil) (Nat.le_of_ble_eq_true rfl)) ea_nil) (Nat.le_of_ble_eq_true rfl)) ea_nil))))))))))) (Nat.le_of_ble_eq_true rfl))) (fun σ B H s sd a => ?_) s sd a
    refine xt_step (xt_asg (d := .list (lotB0 ++ lotB1)) (j := 4) (by decide) (ed_op (y := .list lotB1) (ed_var (i := 4) rfl) (ed_lst (ea_cons (ed_lst (ea_cons (ed_tup (ea_cons ed_int (ea_cons ed_int (ea_cons ed_int ea_nil))) (Nat.le_of_ble_eq_true rfl)) ea_nil) (Nat.le_of_ble_eq_true rfl)) (ea_cons (ed_lst (ea_cons (ed_tup (ea_cons ed_int (ea_cons ed_bl ea_nil)) (Nat.le_of_ble_eq_true rfl)) ea_nil) (Nat.le_of_ble_eq_true rfl)) (ea_cons (ed_lst (ea_cons (ed_tup (ea_cons ed_int (ea_cons ed_bl ea_nil)) (Nat.le_of_ble_eq_true rfl)) ea_nil) (Nat.le_of_ble_eq_true rfl)) (ea_cons (ed_lst (ea_cons (ed_tup (ea_cons ed_str (ea_cons ed_int ea_nil)) (Nat.le_of_ble_eq_true rfl)) ea_nil) (Nat.le_of_ble_eq_true rfl)) (ea_cons (ed_tup (ea_cons (ed_tup (ea_cons ed_int (ea_cons ed_int ea_nil)) (Nat.le_of_ble_eq_true rfl)) ea_nil) (Nat.le_of_ble_eq_true rfl)) (ea_cons (ed_lst (ea_cons (ed_tup (ea_cons ed_int (ea_cons ed_int ea_nil)) (Nat.le_of_ble_eq_true rfl)) (ea_cons ed_non ea_nil)) (Nat.le_of_ble_eq_true rfl)) (ea_cons (ed_lst (ea_cons (ed_tup (ea_cons ed_neg1 (ea_cons ed_int ea_nil)) (Nat.le_of_ble_eq_true rfl)) ea_nil) (Nat.le_of_ble_eq_true rfl)) ea_nil))))))) (Nat.le_of_ble_eq_true rfl)) (r_cat (Nat.le_of_ble_eq_true rfl)))) (fun σ B H s sd a => ?_) s sd a
    refine xt_step (xt_asg (d := .list (lotB n)) (j := 4) (by decide) (ed_op (y := .list (lotB2 n)) (ed_var (i := 4) rfl) (ed_lst (ea_cons (ed_lst (ea_cons (ed_tup (ea_cons ed_int (ea_cons (ed_op (ed_var (i := 0) rfl) ed_int r_Ii) ea_nil)) (Nat.le_of_ble_eq_true rfl)) ea_nil) (Nat.le_of_ble_eq_true rfl)) ea_nil) (Nat.le_of_ble_eq_true rfl)) (r_cat (Nat.le_of_ble_eq_true rfl)))) (fun σ B H s sd a => ?_) s sd a
    have len1 : (lotB n).length = 19 := rfl
    refine xt_step (xt_for (j := 5) (n := 0) (k := 4) (ds := lotB n) (by decide) (ed_var (i := 4) rfl) fun b hb n1 h1 => ?_) (fun σ B H s sd a => ?_) s sd a
    · obtain ⟨bl, fb⟩ := lotB_ok hn b hb
      refine xt_less [5] (xt_up (xt_seq (xt_forF (fs := [a_with_only, a_without]) (j := 6) (k := 1) (by decide) (Nat.le_of_ble_eq_true rfl) rfl (evs_cons (evs_cons evs_nil)) (Nat.le_of_ble_eq_true rfl) fun g hg n2 h2 => ?_) (xt_forF (fs := [a_is_reason, a_is_cut]) (j := 6) (k := 1) (by decide) (Nat.le_of_ble_eq_true rfl) rfl (evs_cons (evs_cons evs_nil)) (Nat.le_of_ble_eq_true rfl) fun g hg n2 h2 => ?_)) (by simp only [List.length_cons, List.length_nil]; omega)) rfl
      · have h2' : n2 ≤ n1 + 2 * 1 := h2
        have cp : CPx P w K mg base 13 g (SpX K R_none (X3l A)) := by
          rcases List.mem_cons.mp hg with rfl | hg
          · exact c.with_only.cpx (by decide) m_with_only
          · rw [List.mem_singleton.mp hg]
            exact c.without.cpx (by decide) m_without
        exact xt_lam (nm := "presses") (fld := b) (C := A.Presses) (lam_callF (m := 5) (i := 5) (j := 2) (ds := [levG, preG, b]) cp (eai_next (ed_var (i := 2) rfl) (eai_next (ed_var (i := 3) rfl) (eai_here (i := 5) rfl ea_nil))) ⟨_, _, _, rfl, .inr ⟨rfl, rfl, bl, rfl, rfl⟩⟩ rfl rfl) ⟨2, rfl, rfl, fb⟩ (by omega)
      · have h2' : n2 ≤ n1 + [a_with_only, a_without].length * 1 + 2 * 1 := h2
        have h2'' : n2 ≤ n1 + 2 * 1 + 2 * 1 := h2'
        have cp : CPx P w K mg base 13 g (SpX K R_judge (X5 A)) := by
          rcases List.mem_cons.mp hg with rfl | hg
          · exact c.is_reason.cpx (by decide) m_is_reason
          · rw [List.mem_singleton.mp hg]
            exact c.is_cut.cpx (by decide) m_is_cut
        exact xt_app (edj_isF cp (ea_cons (ed_var (i := 2) rfl) (ea_cons (ed_var (i := 3) rfl) (ea_cons ed_int (ea_cons ed_int (ea_cons (ed_var (i := 5) rfl) ea_nil))))) ⟨_, rfl, bl, rfl⟩) (by omega)
    refine xt_step (xt_asg (d := .list lotsB0) (j := 4) (by decide) (ed_lst (ea_cons ed_non (ea_cons ed_int (ea_cons (ed_tup ea_nil (Nat.le_of_ble_eq_true rfl)) (ea_cons ed_dnew (ea_cons (ed_lst (ea_cons ed_int ea_nil) (Nat.le_of_ble_eq_true rfl)) (ea_cons (ed_lst (ea_cons (ed_tup (ea_cons ed_int (ea_cons ed_int ea_nil)) (Nat.le_of_ble_eq_true rfl)) ea_nil) (Nat.le_of_ble_eq_true rfl)) (ea_cons (ed_lst (ea_cons (ed_lst (ea_cons (ed_tup (ea_cons ed_int (ea_cons ed_int ea_nil)) (Nat.le_of_ble_eq_true rfl)) ea_nil) (Nat.le_of_ble_eq_true rfl)) (ea_cons ed_non ea_nil)) (Nat.le_of_ble_eq_true rfl)) (ea_cons (ed_lst (ea_cons (ed_lst (ea_cons (ed_tup (ea_cons ed_int (ea_cons ed_int ea_nil)) (Nat.le_of_ble_eq_true rfl)) (ea_cons (ed_tup (ea_cons ed_int (ea_cons ed_int ea_nil)) (Nat.le_of_ble_eq_true rfl)) ea_nil)) (Nat.le_of_ble_eq_true rfl)) ea_nil) (Nat.le_of_ble_eq_true rfl)) (ea_cons (ed_lst (ea_cons (ed_lst (ea_cons (ed_tup (ea_cons ed_int (ea_cons ed_int ea_nil)) (Nat.le_of_ble_eq_true rfl)) (ea_cons (ed_tup (ea_cons ed_int (ea_cons ed_int ea_nil)) (Nat.le_of_ble_eq_true rfl)) ea_nil)) (Nat.le_of_ble_eq_true rfl)) ea_nil) (Nat.le_of_ble_eq_true rfl)) (ea_cons (ed_lst (ea_cons (ed_lst (ea_cons (ed_lst (ea_cons ed_int (ea_cons ed_int ea_nil)) (Nat.le_of_ble_eq_true rfl)) ea_nil) (Nat.le_of_ble_eq_true rfl)) ea_nil) (Nat.le_of_ble_eq_true rfl)) ea_nil)))))))))) (Nat.le_of_ble_eq_true rfl))) (fun σ B H s sd a => ?_) s sd a
    refine xt_step (xt_asg (d := .list (lotsB0 ++ lotsB1)) (j := 4) (by decide) (ed_op (y := .list lotsB1) (ed_var (i := 4) rfl) (ed_lst (ea_cons (ed_lst (ea_cons (ed_lst (ea_cons (ed_tup (ea_cons ed_int ea_nil) (Nat.le_of_ble_eq_true rfl)) ea_nil) (Nat.le_of_ble_eq_true rfl)) ea_nil) (Nat.le_of_ble_eq_true rfl)) (ea_cons (ed_lst (ea_cons (ed_lst (ea_cons (ed_tup (ea_cons ed_int (ea_cons ed_int (ea_cons ed_int ea_nil))) (Nat.le_of_ble_eq_true rfl)) ea_nil) (Nat.le_of_ble_eq_true rfl)) ea_nil) (Nat.le_of_ble_eq_true rfl)) (ea_cons (ed_lst (ea_cons (ed_lst (ea_cons (ed_tup (ea_cons ed_int (ea_cons ed_bl ea_nil)) (Nat.le_of_ble_eq_true rfl)) ea_nil) (Nat.le_of_ble_eq_true rfl)) ea_nil) (Nat.le_of_ble_eq_true rfl)) (ea_cons (ed_lst (ea_cons (ed_lst (ea_cons (ed_tup (ea_cons ed_str (ea_cons ed_int ea_nil)) (Nat.le_of_ble_eq_true rfl)) ea_nil) (Nat.le_of_ble_eq_true rfl)) ea_nil) (Nat.le_of_ble_eq_true rfl)) (ea_cons (ed_tup (ea_cons (ed_lst (ea_cons (ed_tup (ea_cons ed_int (ea_cons ed_int ea_nil)) (Nat.le_of_ble_eq_true rfl)) ea_nil) (Nat.le_of_ble_eq_true rfl)) ea_nil) (Nat.le_of_ble_eq_true rfl)) (ea_cons (ed_lst (ea_cons (ed_tup (ea_cons (ed_tup (ea_cons ed_int (ea_cons ed_int ea_nil)) (Nat.le_of_ble_eq_true rfl)) ea_nil) (Nat.le_of_ble_eq_true rfl)) ea_nil) (Nat.le_of_ble_eq_true rfl)) ea_nil)))))) (Nat.le_of_ble_eq_true rfl)) (r_cat (Nat.le_of_ble_eq_true rfl)))) (fun σ B H s sd a => ?_) s sd a
    refine xt_step (xt_asg (d := .list lotsB) (j := 4) (by decide) (ed_op (y := .list lotsB2) (ed_var (i := 4) rfl) (ed_lst (ea_cons (ed_lst (ea_cons (ed_lst (ea_cons (ed_tup (ea_cons ed_int (ea_cons ed_int ea_nil)) (Nat.le_of_ble_eq_true rfl)) ea_nil) (Nat.le_of_ble_eq_true rfl)) (ea_cons (ed_lst (ea_cons (ed_tup (ea_cons ed_neg1 (ea_cons ed_int ea_nil)) (Nat.le_of_ble_eq_true rfl)) ea_nil) (Nat.le_of_ble_eq_true rfl)) ea_nil)) (Nat.le_of_ble_eq_true rfl)) ea_nil) (Nat.le_of_ble_eq_true rfl)) (r_cat (Nat.le_of_ble_eq_true rfl)))) (fun σ B H s sd a => ?_) s sd a
    have len2 : lotsB.length = 17 := rfl
    refine xt_step (xt_for (j := 5) (k := 1) (ds := lotsB) (by decide) (ed_var (i := 4) rfl) fun b hb n1 h1 => ?_) (fun σ B H s sd a => ?_) s sd a
    · obtain ⟨bl, fb⟩ := lotsB_ok b hb
      exact xt_less [5] (xt_lam (nm := "presses") (fld := b) (C := A.Presses) (lam_call (m := 5) (i := 5) (j := 0) (ds := [b]) (eai_here (i := 5) rfl ea_nil) ⟨_, rfl, bl, rfl, rfl⟩ rfl rfl) ⟨2, rfl, rfl, fb⟩ (by omega)) rfl
    exact xt_end (fun ds hT hl => xs_notin hT rfl) s sd a fun v B' H' dv tb => by
      cases dv
      exact hq H' tb
  obtain ⟨t, h1, h2⟩ := hps
  exact ⟨t, h1.nox, h2⟩

end
end TD

set_option maxHeartbeats 8000000
namespace TD
open PySem PySem.Spec PyProof.Rows L2
open Evl (Ex)
/-! # the field holds the very argument -/
/-- a body that raises, what is wished may hang on the slots -/
def XW (K : Fg) (W : WX) (t : TS) (ρ : En) (C : Addr) (i : Nat) : Prop := ∀ σ B H D, Ex B H → SD K B σ ρ → ∀ v, σ[i]? = some (some v) →
  (∀ x B' H', Le B H B' H' → H' x = some (xdV v) → W (.ref C) (some x) σ H') → t D σ H
section
variable {K : Fg} {W : WX} {t u : TS} {ρ : En} {C : Addr} {i j : Nat} {ta : TA} {tt : TT} {ds : List PyData} {R : List PyData → PyData → Prop} {RX : List PyData → Addr → Nat → Prop}
theorem xw_call (h : EAi K ta ρ ds j i) (hR : RX ds C j) : XW K W (tDrop (tCallS (SpX K R RX) (WE W) ta)) ρ C i := fun σ B H D s sd v hv q =>
  h σ B H s sd v hv _ fun vs B1 H1 l1 d1 e => ⟨B1, ds, l1.sub, d1, .inr ⟨C, j, v, hR, e, fun x B2 H2 l2 => q x B2 H2 (l1.tr l2)⟩⟩
theorem xw_if1 (h : ET K tt ρ true) (h1 : XW K W t ρ C i) : XW K W (tIfS tt t u) ρ C i := fun σ B H D s sd v hv q =>
  h σ B H s sd _ fun B1 H1 l1 => by
    show t D σ H1
    exact h1 σ B1 H1 D l1.sub (sd.up l1.ek) v hv fun x B2 H2 l2 => q x B2 H2 (l1.tr l2)
theorem xw_if0 (h : ET K tt ρ false) (h1 : XW K W u ρ C i) : XW K W (tIfS tt t u) ρ C i := fun σ B H D s sd v hv q =>
  h σ B H s sd _ fun B1 H1 l1 => by
    show u D σ H1
    exact h1 σ B1 H1 D l1.sub (sd.up l1.ek) v hv fun x B2 H2 l2 => q x B2 H2 (l1.tr l2)
theorem way_eq {n m : Int} {b : Bool} (h0 : ρ[j]? = some (some (.int n))) (e : decide (n = m) = b) : ET K (tTest (tOp rEq (tVar j) (tC (.int m)))) ρ b := et_is (et_test (ed_op (ed_var h0) ed_int r_eqI)) e
end
/-- a loop over range(n) ahead of the rest -/
theorem seq_forR {ta : TA} {g : TG} {tb u : TS} {D : Ends} {σ : L2.St} {H : Hp} (h : ta σ H fun vs H1 => ∃ j : Int, vs = [.int j] ∧ -(2 ^ 62) ≤ j ∧ j < 2 ^ 62 ∧ tFor (fun _ _ R => R (Itr 0 j.toNat) H1) g tb { D with nx := u D } σ H1) : tSeq (tFor (iRng1 ta) g tb) u D σ H := h
def spKept : Sp := fun vs H Q _ => vs = [] ∧ ∀ H', Q (.bl true) H'
abbrev bad7 : PyData := .list [.int 7]
section
variable {P : Program} {w : World} {K : Fg} {mg : Str → Option Value} {base : Heap} {A : Ad4} {DE : Addr}
abbrev s__law_fields_kept : Stmt := topS 80
theorem f__law_fields_kept (T : BR mg) (sm : ∃ mm, base.Ns sysModules mm) (Z : Ce K mg A DE) (a : At K mg "_law_fields_kept" s__law_fields_kept)
    (c_reasons : Fx P w K mg base "reasons" ["level", "presses", "tick", "room"] 11 (SpX K R_none (X4 A))) (c_cuts : Fx P w K mg base "cuts" ["level", "presses", "tick", "room"] 11 (SpX K R_none (X4 A))) (c_how_many_light : Fx P w K mg base "how_many_light" ["level", "presses", "tick", "room"] 11 (SpX K R_none (X4 A))) (c_sure_presses : Fx P w K mg base "sure_presses" ["level", "presses", "tick", "room"] 11 (SpX K R_none (X4 A)))
    (c_with_only : Fx P w K mg base "with_only" ["level", "presses", "lot"] 11 (SpX K R_none (X3l A))) (c_crossing : Fx P w K mg base "crossing" ["lots"] 5 (SpX K R_none (X_crossing A))) : Fc P w K mg base "_law_fields_kept" [] 16 spKept := by
  have S : FnScope ["_law_level", "_law_presses", "_law_way", "_law_bad", "_law_error", "e"] [] (defScope s__law_fields_kept) := ⟨rfl, rfl, rfl, by decide +kernel, rfl, by decide +kernel, by decide +kernel⟩
  obtain ⟨f, fd, F, hm⟩ := a
  refine ⟨f, fd, hm, F.kp, F.binds (fun _ _ _ _ _ _ us hl => match us, hl with | [], _ => rfl), fnG F S (by rintro vs H Q E ⟨rfl, _⟩; rfl) ?_⟩
  rintro cdv A' outer s H vs Q E gu hr ⟨rfl, hq⟩
  have hc : (cxOf CX0 P w K mg base ["_law_level", "_law_presses", "_law_way", "_law_bad", "_law_error", "e"] "_law_fields_kept" (defScope s__law_fields_kept) f cdv A' outer s H E).nox.calm = true := rfl
  have hu64 : (cxOf CX0 P w K mg base ["_law_level", "_law_presses", "_law_way", "_law_bad", "_law_error", "e"] "_law_fields_kept" (defScope s__law_fields_kept) f cdv A' outer s H E).nox.A.units + 64 < cLine := hr.units
  have hps : ∃ t, PSs (cxOf CX0 P w K mg base ["_law_level", "_law_presses", "_law_way", "_law_bad", "_law_error", "e"] "_law_fields_kept" (defScope s__law_fields_kept) f cdv A' outer s H E).nox (defBody s__law_fields_kept) t ∧ t { nx := fun _ H' => Q .non H', rt := Q } (L2.start ["_law_level", "_law_presses", "_law_way", "_law_bad", "_law_error", "e"] []) H := by
    refine ⟨_, (pss_cons (ps_par (i := 0) (j := 1) hc S.nd rfl rfl (by decide) rfl rfl (pa_cons (pe_tup (pa_cons pe_int (pa_cons (pe_lst (pa_cons (pe_tup (pa_cons (pe_lst (pa_cons pe_int pa_nil)) (pa_cons pe_int (pa_cons (pe_un un_neg pe_int) pa_nil)))) pa_nil)) pa_nil))) (pa_cons (pe_lst (pa_cons (pe_lst (pa_cons pe_int pa_nil)) (pa_cons (pe_lst (pa_cons pe_int (pa_cons pe_int pa_nil))) pa_nil))) pa_nil)) (by rfl))
  (pss_cons (ps_for PassesOwn.never hc (pi_range1 (by rfl) T.range (pa_cons pe_int pa_nil)) (pg_name (i := 2) S.nd rfl (by first | exact Or.inl rfl | exact Or.inr rfl))
    (pss_cons (ps_par (i := 3) (j := 4) hc S.nd rfl rfl (by decide) rfl rfl (pa_cons (pe_lst (pa_cons pe_int pa_nil)) (pa_cons pe_non pa_nil)) (by rfl))
  (pss_cons (ps_keep (i := 5) (tb := _) rfl rfl rfl S.nd rfl rfl ⟨rfl, by decide, Or.inl Z.sD.gC⟩ (fun W pn xe tk _ => (pss_one (ps_if (pt_cmpR op_eq (pv 2) pe_int (nomark _)) (pss_one (ps_expr (pe_fx c_reasons gu (hr.mono (by decide)) (by rfl) (fun σ => passAt tk σ) (pa_cons (pv 3) (pa_cons pe_non (pa_cons pe_non (pa_cons pe_non pa_nil))))))) (pss_one (ps_if (pt_cmpR op_eq (pv 2) pe_int (nomark _)) (pss_one (ps_expr (pe_fx c_cuts gu (hr.mono (by decide)) (by rfl) (fun σ => passAt tk σ) (pa_cons (pv 0) (pa_cons (pv 3) (pa_cons pe_non (pa_cons pe_non pa_nil))))))) (pss_one (ps_if (pt_cmpR op_eq (pv 2) pe_int (nomark _)) (pss_one (ps_expr (pe_fx c_how_many_light gu (hr.mono (by decide)) (by rfl) (fun σ => passAt tk σ) (pa_cons (pv 0) (pa_cons (pv 1) (pa_cons (pv 3) (pa_cons pe_non pa_nil))))))) (pss_one (ps_if (pt_cmpR op_eq (pv 2) pe_int (nomark _)) (pss_one (ps_expr (pe_fx c_sure_presses gu (hr.mono (by decide)) (by rfl) (fun σ => passAt tk σ) (pa_cons (pv 0) (pa_cons (pv 1) (pa_cons pe_int (pa_cons (pv 3) pa_nil))))))) (pss_one (ps_if (pt_cmpR op_eq (pv 2) pe_int (nomark _)) (pss_one (ps_expr (pe_fx c_with_only gu (hr.mono (by decide)) (by rfl) (fun σ => passAt tk σ) (pa_cons (pv 0) (pa_cons (pv 1) (pa_cons (pv 3) pa_nil)))))) (pss_one (ps_expr (pe_fx c_crossing gu (hr.mono (by decide)) (by rfl) (fun σ => passAt tk σ) (pa_cons (pv 3) pa_nil))))))))))))))) (fun a oe cls d pn hz hf => (pss_one (ps_set (i := 4) S.nd rfl (by first | exact Or.inl rfl | exact Or.inr rfl) (pv 5)))))
  (pss_cons (ps_expr (pe_bm PySem.F.plainAttrs_list PySem.F.slot_list_append PySem.F.type_list_append mt_append (pv 3) (pa_cons pe_str pa_nil)))
  (pss_one (ps_if (PW.pt (pw_or (pt_cmpR op_isN (pv 4) pe_non (nomark _)) (pw_or1 (pt_cmpR (op_neA sm hu64) (pe_valueK (pv 4)) (pe_lst (pa_cons pe_int (pa_cons pe_str pa_nil))) (nomark _))))) (pss_one (ps_ret pe_bl)) pss_nil))))))
  (pss_one (ps_ret pe_bl)))), ?_⟩
    have sd0 : SD K B0 (L2.start ["_law_level", "_law_presses", "_law_way", "_law_bad", "_law_error", "e"] []) [none, none, none, none, none, none] := sd_start (N := ["_law_level", "_law_presses", "_law_way", "_law_bad", "_law_error", "e"]) .nil
    generalize L2.start ["_law_level", "_law_presses", "_law_way", "_law_bad", "_law_error", "e"] [] = σ at *
    have exB := ex_B0 (H := H)
    generalize B0 = B at *
    -- level, presses
    refine q_par (ea_cons (K := K) (ρ := [none, none, none, none, none, none]) (x := levG) (ed_tup (ea_cons ed_int (ea_cons (ed_lst (ea_cons (ed_tup (ea_cons (ed_lst (ea_cons ed_int ea_nil) (Nat.le_of_ble_eq_true rfl)) (ea_cons ed_int (ea_cons ed_neg1 ea_nil))) (Nat.le_of_ble_eq_true rfl)) ea_nil) (Nat.le_of_ble_eq_true rfl)) ea_nil)) (Nat.le_of_ble_eq_true rfl)) (ea_cons (x := preG) (ed_lst (ea_cons (ed_lst (ea_cons ed_int ea_nil) (Nat.le_of_ble_eq_true rfl)) (ea_cons (ed_lst (ea_cons ed_int (ea_cons ed_int ea_nil)) (Nat.le_of_ble_eq_true rfl)) ea_nil)) (Nat.le_of_ble_eq_true rfl)) ea_nil) σ B H exB sd0 _ fun vs B1 H1 l1 d1 => ?_)
    obtain ⟨v0, r0, rfl, d0, d1⟩ := d1.inv1
    obtain ⟨v1, r1, rfl, d1', d1⟩ := d1.inv1
    cases d1
    refine ⟨v0, v1, rfl, ?_⟩
    have sd1 := ((sd0.up l1.ek).put 0 d0).put 1 d1'
    have s1 := l1.sub
    generalize (σ.set 0 (some v0)).set 1 (some v1) = σ1 at *
    -- the turns
    refine seq_forR ?_
    refine ea_cons (K := K) (x := .int 6) ed_int ea_nil σ1 B1 H1 s1 sd1 _ fun vs B2 H2 l2 d2 => ?_
    obtain ⟨v, r, rfl, dv, dz⟩ := d2.inv1
    cases dv
    cases dz
    refine ⟨6, rfl, by decide, by decide, ?_⟩
    refine for_range (lo := 0) (n := 6) (fun _ σ' H' => Ex B2 H' ∧ SD K B2 σ' [some levG, some preG, none, none, none, none]) ⟨l2.sub, sd1.up l2.ek⟩ ?_ ?_
    · rintro k σ' H' hk ⟨sx, sd⟩
      have sdk : SD K B2 (σ'.set 2 (some (.int (0 + (k : Int))))) [some levG, some preG, some (.int (0 + (k : Int))), none, none, none] := sd.put 2 (.int _)
      show tSeq _ _ _ (σ'.set 2 (some (.int (0 + (k : Int))))) H'
      generalize σ'.set 2 (some (.int (0 + (k : Int)))) = σ2 at *
      -- bad, error
      refine q_par ⟨by show 1 ≤ sizeLine; decide, fun p0 hp0 => ⟨.ref p0, .non, rfl, ?_⟩⟩
      have bp : B2 p0 = none := Evl.fresh_back sx hp0
      have lb : Le B2 H' (upd B2 p0 (.lst [.int 7])) (upd H' p0 (.lst [.int 7])) := Le.new sx hp0
      have b1 : upd B2 p0 (.lst [.int 7]) p0 = some (.lst [.int 7]) := upd_same
      have sd3 : SD K (upd B2 p0 (.lst [.int 7])) ((σ2.set 3 (some (.ref p0))).set 4 (some .non)) [some levG, some preG, some (.int (0 + (k : Int))), some bad7, some .none, none] := ((sdk.up lb.ek).put 3 (.lst b1 (.cons (.int 7) .nil))).put 4 .non
      have sd4 : SD K B2 ((σ2.set 3 (some (.ref p0))).set 4 (some .non)) [some levG, some preG, none, none, none, none] := (((sdk.drop 3 _).drop 4 _).less rfl fun i d h => by
        match i, h with
        | 0, h => exact h
        | 1, h => exact h
        | i + 6, h => cases h)
      have g3 : ((σ2.set 3 (some (.ref p0))).set 4 (some .non))[3]? = some (some (.ref p0)) := by
        rw [List.getElem?_set_ne (by decide), List.getElem?_set_self (by rw [sdk.1]; exact Nat.le_of_ble_eq_true rfl)]
      have hlen : ((σ2.set 3 (some (.ref p0))).set 4 (some .non)).length = 6 := sd4.1
      generalize (σ2.set 3 (some (.ref p0))).set 4 (some .non) = σ3 at *
      have hH : upd H' p0 (.lst [.int 7]) p0 = some (.lst [.int 7]) := upd_same
      have keep : ∀ Hx, Ex (upd H' p0 (.lst [.int 7])) Hx → Ex B2 Hx := fun Hx ex b o e => ex b o (by rw [upd_ne (ne_of_none e bp)]; exact sx b o e)
      have s3 := lb.sub
      generalize upd H' p0 (.lst [.int 7]) = H3 at *
      generalize upd B2 p0 (.lst [.int 7]) = B3 at *
      -- what comes behind
      have after : ∀ (C : Addr) (i : Nat), (l4 A)[i]? = some C → ∀ (D : Ends) (rest : TS), (∀ (ax : Addr) (σ4 : L2.St) (H4 : Hp), σ4[3]? = some (some (.ref p0)) → σ4[4]? = some (some (.ref ax)) → SD K B2 σ4 [some levG, some preG, none, none, none, none] → H4 p0 = some (.lst [.int 7]) → Cau H4 ax C (.ref p0) → ax ≠ p0 → Ex B2 H4 → rest D σ4 H4) →
          ∀ x B' H4, Le B3 H3 B' H4 → H4 x = some (xdV (.ref p0)) → wKeep K (.ref DE) 5 (tAsg (tVar 5) (gName 4)) { D with nx := rest D } (.ref C) (some x) σ3 H4 := by
        intro C i hC D rest hr x B' H4 l4 hx
        have kn := Z.knd hC
        refine ⟨C, x, rfl, rfl, kn.ex, fun ax hax => ?_⟩
        refine ⟨.ref ax, by rw [List.getElem?_set_self (by rw [hlen]; decide)], ?_⟩
        have h0 := l4.ex _ _ hH
        have nx : x ≠ ax := fun z => by
          rw [z, hax] at hx
          cases hx
        have np : p0 ≠ ax := fun z => by
          rw [z, hax] at h0
          cases h0
        try dsimp only [gName]
        refine hr ax _ _ ?_ ?_ ?_ ?_ ⟨x, upd_same, by rw [upd_ne nx]; exact hx⟩ (Ne.symm np) ?_
        · rw [List.getElem?_set_ne (by decide), List.getElem?_set_ne (by decide), List.getElem?_set_ne (by decide)]
          exact g3
        · rw [List.getElem?_set_ne (by decide), List.getElem?_set_self (by rw [List.length_set, hlen]; decide)]
        · exact ((sd4.drop 5 _).drop 4 _).drop 5 _
        · rw [upd_ne np]
          exact h0
        · exact (keep _ l4.ex).trans (Ex.new hax)
      refine q_any ?_
      obtain ⟨C, i, hC, hw⟩ : ∃ (C : Addr) (i : Nat), (l4 A)[i]? = some C ∧ ∀ W, XW K W (tIfS (tTest (tOp rEq (tVar 2) (tC (.int 0)))) (tDrop (tCallS (SpX K R_none (X4 A)) (WE W) (tCons (tVar 3) (tCons (tC .non) (tCons (tC .non) (tCons (tC .non) tNil))))))
          (tIfS (tTest (tOp rEq (tVar 2) (tC (.int 1)))) (tDrop (tCallS (SpX K R_none (X4 A)) (WE W) (tCons (tVar 0) (tCons (tVar 3) (tCons (tC .non) (tCons (tC .non) tNil))))))
          (tIfS (tTest (tOp rEq (tVar 2) (tC (.int 2)))) (tDrop (tCallS (SpX K R_none (X4 A)) (WE W) (tCons (tVar 0) (tCons (tVar 1) (tCons (tVar 3) (tCons (tC .non) tNil))))))
          (tIfS (tTest (tOp rEq (tVar 2) (tC (.int 3)))) (tDrop (tCallS (SpX K R_none (X4 A)) (WE W) (tCons (tVar 0) (tCons (tVar 1) (tCons (tC (.int 0)) (tCons (tVar 3) tNil))))))
          (tIfS (tTest (tOp rEq (tVar 2) (tC (.int 4)))) (tDrop (tCallS (SpX K R_none (X3l A)) (WE W) (tCons (tVar 0) (tCons (tVar 1) (tCons (tVar 3) tNil)))))
          (tDrop (tCallS (SpX K R_none (X_crossing A)) (WE W) (tCons (tVar 3) tNil)))))))) [some levG, some preG, some (.int (0 + (k : Int))), some bad7, some .none, none] C 3 := by
        match k, hk with
        | 0, _ => exact ⟨A.Level, 0, rfl, fun W => xw_if1 (way_eq rfl rfl) (xw_call (j := 0) (ds := [bad7, .none, .none, .none]) (eai_here (i := 3) rfl (ea_cons ed_non (ea_cons ed_non (ea_cons ed_non ea_nil)))) ⟨_, _, _, _, rfl, .inl (.inl ⟨⟨rfl, rfl⟩, rfl, rfl⟩)⟩)⟩
        | 1, _ => exact ⟨A.Presses, 2, rfl, fun W => xw_if0 (way_eq rfl rfl) (xw_if1 (way_eq rfl rfl) (xw_call (j := 1) (ds := [levG, bad7, .none, .none]) (eai_next (ed_var (i := 0) rfl) (eai_here (i := 3) rfl (ea_cons ed_non (ea_cons ed_non ea_nil)))) ⟨_, _, _, _, rfl, .inl (.inr ⟨2, lv_G, ⟨rfl, rfl⟩, rfl, rfl⟩)⟩))⟩
        | 2, _ => exact ⟨A.Number, 1, rfl, fun W => xw_if0 (way_eq rfl rfl) (xw_if0 (way_eq rfl rfl) (xw_if1 (way_eq rfl rfl) (xw_call (j := 2) (ds := [levG, preG, bad7, .none]) (eai_next (ed_var (i := 0) rfl) (eai_next (ed_var (i := 1) rfl) (eai_here (i := 3) rfl (ea_cons ed_non ea_nil)))) ⟨_, _, _, _, rfl, bad_tick rfl⟩)))⟩
        | 3, _ => exact ⟨A.Room, 3, rfl, fun W => xw_if0 (way_eq rfl rfl) (xw_if0 (way_eq rfl rfl) (xw_if0 (way_eq rfl rfl) (xw_if1 (way_eq rfl rfl) (xw_call (j := 3) (ds := [levG, preG, .int 0, bad7]) (eai_next (ed_var (i := 0) rfl) (eai_next (ed_var (i := 1) rfl) (eai_next ed_int (eai_here (i := 3) rfl ea_nil)))) ⟨_, _, _, _, rfl, .inr (.inr ⟨2, _, lv_G, rfl, gp_G, rfl, rfl, rfl, rfl⟩)⟩))))⟩
        | 4, _ => exact ⟨A.Presses, 2, rfl, fun W => xw_if0 (way_eq rfl rfl) (xw_if0 (way_eq rfl rfl) (xw_if0 (way_eq rfl rfl) (xw_if0 (way_eq rfl rfl) (xw_if1 (way_eq rfl rfl) (xw_call (j := 2) (ds := [levG, preG, bad7]) (eai_next (ed_var (i := 0) rfl) (eai_next (ed_var (i := 1) rfl) (eai_here (i := 3) rfl ea_nil))) ⟨_, _, _, rfl, .inr ⟨rfl, rfl, ⟨sz_Sm rfl, .inl rfl⟩, rfl, rfl⟩⟩)))))⟩
        | 5, _ => exact ⟨A.Presses, 2, rfl, fun W => xw_if0 (way_eq rfl rfl) (xw_if0 (way_eq rfl rfl) (xw_if0 (way_eq rfl rfl) (xw_if0 (way_eq rfl rfl) (xw_if0 (way_eq rfl rfl) (xw_call (j := 0) (ds := [bad7]) (eai_here (i := 3) rfl ea_nil) ⟨_, rfl, .inr ⟨_, rfl, by decide, fun e he => by
            rw [List.mem_singleton.mp he]
            exact sz_Sm rfl, rfl⟩, rfl, rfl⟩)))))⟩
      have kn := Z.knd hC
      refine hw _ σ3 B3 H3 _ s3 sd3 (.ref p0) g3 (after C i hC _ _ fun ax σ4 H4 e3 e4 sd5 h4 c4 nax ex4 => ?_)
      -- the append
      refine q_drop ⟨.ref p0, e3, .inl ⟨rfl, _, SqL.of h4⟩, p0, [.int 7], .str "b", rfl, rfl, h4, Evl.sz_lt (by decide), ?_⟩
      have h5 : upd H4 p0 (.lst [.int 7, .str "b"]) p0 = some (.lst [.int 7, .str "b"]) := upd_same
      have c5 : Cau (upd H4 p0 (.lst [.int 7, .str "b"])) ax C (.ref p0) := by
        obtain ⟨x', c1, c2⟩ := c4
        have n2 : x' ≠ p0 := fun z => by
          rw [z, h4] at c2
          cases c2
        exact ⟨x', by rw [upd_ne nax]; exact c1, by rw [upd_ne n2]; exact c2⟩
      have ex5 : Ex B2 (upd H4 p0 (.lst [.int 7, .str "b"])) := fun b o e => by
        rw [upd_ne (ne_of_none e bp)]
        exact ex4 b o e
      show tIfS _ _ _ _ σ4 (upd H4 p0 (.lst [.int 7, .str "b"]))
      generalize upd H4 p0 (.lst [.int 7, .str "b"]) = H5 at *
      refine q_ifS ?_
      refine ⟨.ref ax, e4, rfl, false, rfl, ?_⟩
      dsimp only
      rw [if_neg Bool.false_ne_true]
      refine ⟨.ref ax, e4, ax, C, .ref p0, rfl, c5, kn.T, kn.no, ?_⟩
      refine ⟨by show 2 ≤ sizeLine; decide, fun pl hpl => ?_⟩
      have k5 : Ex H5 (upd H5 pl (.lst [.int 7, .str "b"])) := Ex.new hpl
      refine ⟨.list [.int 7, .str "b"], .list [.int 7, .str "b"], .lst (k5 _ _ h5) (.cons (.int 7) (.cons (.str "b") .nil)), .lst upd_same (.cons (.int 7) (.cons (.str "b") .nil)), by decide +kernel, by decide +kernel, ?_⟩
      refine ⟨false, by decide +kernel, ?_⟩
      try dsimp only
      try rw [if_neg Bool.false_ne_true]
      exact ⟨ex5.trans k5, sd5⟩
    · rintro σ' H' ⟨sx, sd⟩
      exact hq H'
  obtain ⟨t, h1, h2⟩ := hps
  exact ⟨t, h1.nox, h2⟩
end
end TD

set_option maxHeartbeats 8000000
namespace TD
open PySem PySem.Spec PyProof.Rows L2
open Evl (Ex)
open LamX (CodeO Tabs TabS TabB ExtN)
/-! # the law -/
theorem tabs_leG {T : List (Addr × Str)} {H H' : Hp} {g : Addr} {n : Nat} (t : Tabs T H) (ga : GenAt g n H) (e : ∀ a o, a ≠ g → H a = some o → H' a = some o) : Tabs T H' := fun r hr => by
  obtain ⟨a, b, c, hg, _⟩ := ga
  obtain ⟨ps, h1, h2, h3⟩ := t r hr
  refine ⟨ps, e _ _ (fun z => by rw [z, hg] at h1; cases h1) h1, h2, fun pos cv hc => ?_⟩
  obtain ⟨c, e1, e2⟩ := h3 pos cv hc
  exact ⟨c, e1, e _ _ (fun z => by rw [z, hg] at e2; unfold CodeO at e2; cases e2) e2⟩
def spLawT (K : Fg) (cs : List (Addr × Addr)) : Sp := fun vs H Q _ => ∃ (s : Addr) (ns : List Int), vs = [.ref s] ∧ SqL K H s (ns.map V.int) ∧ (∀ p ∈ cs, H p.2 = some (.tbl #[])) ∧ ∀ H', Q (.bl true) H'
section
variable {P : Program} {w : World} {K : Fg} {mg : Str → Option Value} {base : Heap} {A : Ad4} {DE : Addr} {Ts : List (Addr × Str)} {cs : List (Addr × Addr)}
abbrev s_law : Stmt := topS 81
theorem f_law (hTs : ∀ r ∈ Ts, ∃ p ∈ cs, p.2 = r.1) (c__law_generator : Fc P w K mg base "_law_generator" ["_law_script", "_law_index"] 2 (spGen K)) (c__law_random : Fc P w K mg base "_law_random" ["_law_generator_here", "_law_bound"] 2 (SpG K 5 preRnd R_rnd))
    (c__law_levels_refused : Fc P w K mg base "_law_levels_refused" ["_law_far"] 16 (spTab K Ts)) (c__law_targets_refused : Fc P w K mg base "_law_targets_refused" ["_law_far"] 16 (spTab K Ts)) (c__law_lots_refused : Fc P w K mg base "_law_lots_refused" ["_law_far"] 16 (spTab K Ts))
    (c__law_fields_kept : Fc P w K mg base "_law_fields_kept" [] 16 spKept) {f : Addr} {fd : FuncData} (F : Fun K "law" "law" s_law f fd) : FnG P w K mg base CX0 17 f fd ["_law_script"] (spLawT K cs) := by
  have S : FnScope ["_law_script", "_law_far"] ["_law_script"] (defScope s_law) := ⟨rfl, rfl, rfl, by decide +kernel, rfl, by decide +kernel, by decide +kernel⟩
  refine fnG F S ?_ ?_
  · rintro vs H Q E ⟨sc, ns, rfl, _⟩
    rfl
  rintro cdv Ar outer s H vs Q E gu hr ⟨sc, ns, rfl, hS, hT, hq⟩
  have hc : (cxOf CX0 P w K mg base ["_law_script", "_law_far"] "law" (defScope s_law) f cdv Ar outer s H E).nox.calm = true := rfl
  suffices h : ∃ t, PSs (cxOf CX0 P w K mg base ["_law_script", "_law_far"] "law" (defScope s_law) f cdv Ar outer s H E).nox (defBody s_law) t ∧ t { nx := fun _ H' => Q .non H', rt := Q } (L2.start ["_law_script", "_law_far"] [.ref sc]) H by
    obtain ⟨t, h1, h2⟩ := h
    exact ⟨t, h1.nox, h2⟩
  refine ⟨_, (pss_cons (ps_set (i := 1) S.nd rfl (by first | exact Or.inl rfl | exact Or.inr rfl) (pe_f c__law_random gu (hr.mono (by decide)) (by rfl) (pa_cons (pe_f c__law_generator gu (hr.mono (by decide)) (by rfl) (pa_cons (pv 0) (pa_cons pe_int pa_nil))) (pa_cons (pe_op op_pow pe_int pe_int) pa_nil))))
  (pss_cons (ps_if (PW.pt (pw_or (pt_not (pt_val (pe_f c__law_levels_refused gu (hr.mono (by decide)) (by rfl) (pa_cons (pv 1) pa_nil)))) (pw_or (pt_not (pt_val (pe_f c__law_targets_refused gu (hr.mono (by decide)) (by rfl) (pa_cons (pv 1) pa_nil)))) (pw_or1 (pt_not (pt_val (pe_f c__law_lots_refused gu (hr.mono (by decide)) (by rfl) (pa_cons (pv 1) pa_nil)))))))) (pss_one (ps_ret pe_bl)) pss_nil)
  (pss_one (ps_ret (pe_f0 c__law_fields_kept gu (hr.mono (by decide)) (by rfl)))))), ?_⟩
  have tb : Tabs Ts H := fun r hr => by
    obtain ⟨p, hp, e⟩ := hTs r hr
    exact .nil (e ▸ hT p hp)
  -- the far number
  refine ⟨.ref sc, rfl, sc, ns, 0, rfl, hS, by decide, by decide, fun g H1 gn ex1 ga => ?_⟩
  refine ⟨10, 29, rfl, rfl, ⟨by decide, by decide, by decide⟩, ?_⟩
  have tb1 := tb.ext ex1
  refine ⟨g, [.int (10 ^ (29 : Int).toNat)], fun _ => none, [.int (10 ^ (29 : Int).toNat)], 100, rfl, (fun _ _ z => nomatch z), rfl, ga.less (by decide), .cons (.int _) .nil, ⟨_, rfl, by decide, by decide⟩, fun v d B2 H2 l2 ga2 hd r => ?_⟩
  obtain ⟨m, n, em, rfl, hn0, hn1⟩ := r
  have em' : m = 10 ^ (29 : Int).toNat := by
    injection em with em _
    injection em with em
    exact em.symm
  subst em'
  cases hd
  have hn : 0 ≤ n ∧ n < 10 ^ 29 := ⟨hn0, hn1⟩
  have tb2 : Tabs Ts H2 := tabs_leG tb1 ga l2.ex
  clear l2 ga2 hn0 hn1
  -- the three parts
  refine ⟨.int n, rfl, n, rfl, hn, tb2, fun H3 tb3 => ⟨true, rfl, ?_⟩⟩
  dsimp only
  rw [if_neg (by decide)]
  refine ⟨.int n, rfl, n, rfl, hn, tb3, fun H4 tb4 => ⟨true, rfl, ?_⟩⟩
  dsimp only
  rw [if_neg (by decide)]
  refine ⟨.int n, rfl, n, rfl, hn, tb4, fun H5 tb5 => ⟨true, rfl, ?_⟩⟩
  dsimp only
  rw [if_neg (by decide)]
  exact ⟨rfl, fun H' => hq H'⟩
end
end TD

set_option maxHeartbeats 4000000
namespace TD
open PySem PySem.Spec PyProof.Rows L2
open Evl (Ex)
open LamX (TabB)
/-! # the end: what the top has written; the law's own head -/
theorem std_mk {K : Fg} {h : Heap} {mg : Str → Option Value} {x : Str} {C : Addr} {r : List Value} (X : K.In h) (G : h.Ns mainGlobals mg) {nm q : Str} {N : Addr} {bs : List Value} {sn : List Str} {sub : List Value} {ab : Bool} {col : Option Bool} {dd : Option Addr} {k0 k1 k2 k3 k5 : Option Value}
    (a1 : PySem.W.nsIn K mainGlobals x = some (some (.ref C)))
    (a2 : K.lookup C = some (excClassObj nm q C N bs (bmV r) true sn sub ab col dd k0 k1 k2 k3 k5 "ValueError.__new__"))
    (a3 : PySem.W.keepIn K (.ref C) = true) (a4 : PySem.W.typeIn K (.ref C) = some (.type "type"))
    (a5 : PySem.W.findIn K (.ref C) "__getattribute__" = some (some (.builtin "BaseException.__getattribute__")))
    (a6 : PySem.W.findIn K (.ref C) "__getattr__" = some none)
    (a7 : PySem.W.findIn K (.ref C) "__class__" = some (some (.builtin "object.__class__")))
    (a8 : PySem.W.specialIn K (.builtin "object.__class__") "__get__" = some (some (.builtin "getset_descriptor.__get__")))
    (a9 : PySem.W.takesIn K (.builtin "object.__class__") = some true) : Std K mg x C r :=
  ⟨PySem.W.mg_of X G a1, a3, a4, ⟨nm, q, N, bs, sn, sub, ab, col, dd, k0, k1, k2, k3, k5, a2⟩, a5, a6, a7, a8, a9⟩
theorem at_mk {K : Fg} {h : Heap} {mg : Str → Option Value} {x : Str} {st : Stmt} {f : Addr} {oc : Value} {od an : Option Addr} {osl : Array (Option Value)} {kV doc pm cdv ct : Value} (X : K.In h) (G : h.Ns mainGlobals mg) (a : PySem.W.nsIn K mainGlobals x = some (some (.ref f)))
    (l : K.lookup f = some ⟨oc, od, .func (PySem.W.fnOf x x (defArgs st) (defBody st) (defScope st) .none kV doc pm an cdv ct), osl⟩) (c : PySem.W.codeIn K cdv x = true) (k : PySem.W.keepIn K (.ref f) = true) : At K mg x st :=
  ⟨f, _, fun_mk l c k, PySem.W.mg_of X G a⟩
theorem Mke.noV {P : Program} {w : World} {K : Fg} {mg : Str → Option Value} {base : Heap} {x : Str} {C : Addr} (m : Mke P w K mg base x C) : PySem.W.findIn K (.ref C) "value" = some none := by
  obtain ⟨_, _, _, T, _⟩ := m
  exact T.no
theorem ts_u {P1 P2 P3 : Addr} {q1 q2 q3 : Str} (h12 : P1 ≠ P2) (h13 : P1 ≠ P3) (h23 : P2 ≠ P3) : (∀ p ∈ [(P1, q1), (P2, q2), (P3, q3)], p.1 = P1 → p.2 = q1) ∧ (∀ p ∈ [(P1, q1), (P2, q2), (P3, q3)], p.1 = P2 → p.2 = q2) ∧ ∀ p ∈ [(P1, q1), (P2, q2), (P3, q3)], p.1 = P3 → p.2 = q3 := by
  refine ⟨?_, ?_, ?_⟩ <;> intro p hp e <;> simp only [List.mem_cons, List.not_mem_nil, or_false] at hp <;> rcases hp with rfl | rfl | rfl <;> first | rfl | exact absurd e h12 | exact absurd e h13 | exact absurd e h23 | exact absurd e (Ne.symm h12) | exact absurd e (Ne.symm h13) | exact absurd e (Ne.symm h23)
theorem fr3 {α : Type} {a b c : α} {p : α → Prop} (h1 : p a) (h2 : p b) (h3 : p c) : ∀ x ∈ [a, b, c], p x := List.forall_mem_cons.mpr ⟨h1, List.forall_mem_cons.mpr ⟨h2, List.forall_mem_cons.mpr ⟨h3, fun _ h => nomatch h⟩⟩⟩
def ad4 : Ad4 := ⟨45, 85, 105, 65⟩
theorem all_mk {P q : Program} {w : World} {K : Fg} {h : Heap} {mg : Str → Option Value} {fa : Addr} {t0 t1 : Tok} {c1 c2 c3 P1 P2 P3 : Addr} (X : K.In h) (G : h.Ns mainGlobals mg) (hfa : mg "law" = some (.ref fa)) (tell : TabTell q K h)
    (s_DoorError : Std K mg "DoorError" 24 [])
    (s_InvalidNumber : Std K mg "InvalidNumber" 45 [.ref 24])
    (s_InvalidLevel : Std K mg "InvalidLevel" 85 [.ref 24])
    (s_InvalidPresses : Std K mg "InvalidPresses" 105 [.ref 24])
    (s_InvalidRoom : Std K mg "InvalidRoom" 65 [.ref 24])
    (m_InvalidNumber : ∀ base : Heap, Std K mg "InvalidNumber" 45 [.ref 24] → Mke P w K mg base "InvalidNumber" 45)
    (m_InvalidLevel : ∀ base : Heap, Std K mg "InvalidLevel" 85 [.ref 24] → Mke P w K mg base "InvalidLevel" 85)
    (m_InvalidPresses : ∀ base : Heap, Std K mg "InvalidPresses" 105 [.ref 24] → Mke P w K mg base "InvalidPresses" 105)
    (m_InvalidRoom : ∀ base : Heap, Std K mg "InvalidRoom" 65 [.ref 24] → Mke P w K mg base "InvalidRoom" 65)
    (a_is_whole : At K mg "is_whole" s_is_whole)
    (a_is_count : At K mg "is_count" s_is_count)
    (a_is_tuple_of : At K mg "is_tuple_of" s_is_tuple_of)
    (a_fits_room : At K mg "fits_room" s_fits_room)
    (a_fits_lights : At K mg "fits_lights" s_fits_lights)
    (a_fits_presses : At K mg "fits_presses" s_fits_presses)
    (a_fits_door_within : At K mg "fits_door_within" s_fits_door_within)
    (a_fits_door : At K mg "fits_door" s_fits_door)
    (a_fits_level_with : At K mg "fits_level_with" s_fits_level_with)
    (a_fits_level : At K mg "fits_level" s_fits_level)
    (a__law_hash : At K mg "_law_hash" s__law_hash)
    (a__law_random : At K mg "_law_random" s__law_random)
    (a__law_cell : At K mg "_law_cell" s__law_cell)
    (a__law_generator : At K mg "_law_generator" s__law_generator)
    (a_check_level : At K mg "check_level" s_check_level)
    (a_check_presses : At K mg "check_presses" s_check_presses)
    (a_check_tick : At K mg "check_tick" s_check_tick)
    (a_check_room : At K mg "check_room" s_check_room)
    (a_check_room_at : At K mg "check_room_at" s_check_room_at)
    (a_presses_in : At K mg "presses_in" s_presses_in)
    (a_is_added : At K mg "is_added" s_is_added)
    (a_together : At K mg "together" s_together)
    (a_reasons : At K mg "reasons" s_reasons)
    (a_cuts : At K mg "cuts" s_cuts)
    (a_sure_presses : At K mg "sure_presses" s_sure_presses)
    (a_idle_presses : At K mg "idle_presses" s_idle_presses)
    (a_how_many_light : At K mg "how_many_light" s_how_many_light)
    (a_first_of_fewest : At K mg "first_of_fewest" s_first_of_fewest)
    (a_fewest_reason : At K mg "fewest_reason" s_fewest_reason)
    (a_fewest_cut : At K mg "fewest_cut" s_fewest_cut)
    (a_alone : At K mg "alone" s_alone)
    (a_is_press : At K mg "is_press" s_is_press)
    (a_fits_lot : At K mg "fits_lot" s_fits_lot)
    (a_is_lot_of : At K mg "is_lot_of" s_is_lot_of)
    (a_check_lot : At K mg "check_lot" s_check_lot)
    (a_with_only : At K mg "with_only" s_with_only)
    (a_without : At K mg "without" s_without)
    (a_is_reason : At K mg "is_reason" s_is_reason)
    (a_is_cut : At K mg "is_cut" s_is_cut)
    (a_crossing : At K mg "crossing" s_crossing)
    (a__law_call : At K mg "_law_call" s__law_call)
    (a__law_levels_refused : At K mg "_law_levels_refused" s__law_levels_refused)
    (a__law_targets_refused : At K mg "_law_targets_refused" s__law_targets_refused)
    (a__law_lots_refused : At K mg "_law_lots_refused" s__law_lots_refused)
    (a__law_fields_kept : At K mg "_law_fields_kept" s__law_fields_kept)
    (a__law_refused : At K mg "_law_refused" s__law_refused)
    (a_law : At K mg "law" s_law)
    (z_NEXT : PySem.W.nsIn K mainGlobals "NEXT" = some (some (.int 1 t0)))
    (z_MOST_TICKS : PySem.W.nsIn K mainGlobals "MOST_TICKS" = some (some (.int 30 t1)))
    (z_isinstance : PySem.W.nsIn K mainGlobals "isinstance" = some none)
    (z_int : PySem.W.nsIn K mainGlobals "int" = some none)
    (z_bool : PySem.W.nsIn K mainGlobals "bool" = some none)
    (z_list : PySem.W.nsIn K mainGlobals "list" = some none)
    (z_tuple : PySem.W.nsIn K mainGlobals "tuple" = some none)
    (z_len : PySem.W.nsIn K mainGlobals "len" = some none)
    (z_all : PySem.W.nsIn K mainGlobals "all" = some none)
    (z_max : PySem.W.nsIn K mainGlobals "max" = some none)
    (z_sum : PySem.W.nsIn K mainGlobals "sum" = some none)
    (z_range : PySem.W.nsIn K mainGlobals "range" = some none)
    (z_repr : PySem.W.nsIn K mainGlobals "repr" = some none)
    (z_zip : PySem.W.nsIn K mainGlobals "zip" = some none)
    (z_ValueError : PySem.W.nsIn K mainGlobals "ValueError" = some none)
    (t1_ : PySem.W.tabIn K "_law_levels_refused" = some (c1, P1)) (r1_ : ((recsOf q).any fun e => e.name == ("_law_levels_refused" : Str)) = true) (n1_ : K.lookup P1 = none)
    (t2_ : PySem.W.tabIn K "_law_targets_refused" = some (c2, P2)) (r2_ : ((recsOf q).any fun e => e.name == ("_law_targets_refused" : Str)) = true) (n2_ : K.lookup P2 = none)
    (t3_ : PySem.W.tabIn K "_law_lots_refused" = some (c3, P3)) (r3_ : ((recsOf q).any fun e => e.name == ("_law_lots_refused" : Str)) = true) (n3_ : K.lookup P3 = none)
    (d12 : P1 ≠ P2) (d13 : P1 ≠ P3) (d23 : P2 ≠ P3)
    : ∃ (fd : FuncData) (cs : List (Addr × Addr)), (∀ p ∈ cs, h.get? p.2 = some tab0) ∧ (∀ p ∈ cs, K.lookup p.2 = none) ∧ (∀ p ∈ cs, PySem.W.CodeHd h p.1 p.2) ∧ (∀ (s : Shared) (v : Value), BindsTo s fd ⟨[v], []⟩ [("_law_script", v)]) ∧
        (∀ (H : Hp) (a : Addr) (ns : List Int), ns.length ≤ 63 → (∀ p ∈ cs, H p.2 = some (.tbl #[])) → SqL K H a (ns.map V.int) → spLawT K cs [.ref a] H (fun v _ => v = .bl true) fun _ _ _ => False) ∧
        ∀ base : Heap, K.In base → base.Ns mainGlobals mg → (∃ mm, base.Ns sysModules mm) → (∀ p ∈ cs, TabB base mg p.1 p.2) → FnG P w K mg base CX0 17 fa fd ["_law_script"] (spLawT K cs) := by
  have Bl_ : Bl mg := ⟨PySem.W.mg_none_of X G z_isinstance, PySem.W.mg_none_of X G z_int, PySem.W.mg_none_of X G z_bool, PySem.W.mg_none_of X G z_list, PySem.W.mg_none_of X G z_tuple, PySem.W.mg_none_of X G z_len, PySem.W.mg_none_of X G z_all⟩
  have Bg_ : Bg mg := ⟨PySem.W.mg_none_of X G z_int, PySem.W.mg_none_of X G z_len, PySem.W.mg_none_of X G z_max, PySem.W.mg_none_of X G z_sum, PySem.W.mg_none_of X G z_range⟩
  have B7_ : B7 mg := ⟨PySem.W.mg_none_of X G z_repr, PySem.W.mg_none_of X G z_isinstance, PySem.W.mg_none_of X G z_zip, PySem.W.mg_none_of X G z_ValueError⟩
  have BR_ : BR mg := ⟨PySem.W.mg_none_of X G z_range⟩
  have BL3_ : BL3 mg := ⟨PySem.W.mg_none_of X G z_isinstance, PySem.W.mg_none_of X G z_list, PySem.W.mg_none_of X G z_len, PySem.W.mg_none_of X G z_all, PySem.W.mg_none_of X G z_range⟩
  have BN_ : BN mg t0 := ⟨PySem.W.mg_of X G z_NEXT⟩
  have BM_ : BM mg t1 := ⟨PySem.W.mg_of X G z_MOST_TICKS⟩
  obtain ⟨f, fd, F, hm⟩ := a_law
  have e := hfa.symm.trans hm
  cases e
  obtain ⟨u1, u2, u3⟩ := ts_u (q1 := qL "_law_levels_refused") (q2 := qL "_law_targets_refused") (q3 := qL "_law_lots_refused") d12 d13 d23
  refine ⟨fd, [(c1, P1), (c2, P2), (c3, P3)], fr3 (tell _ _ _ r1_ t1_).2 (tell _ _ _ r2_ t2_).2 (tell _ _ _ r3_ t3_).2, fr3 n1_ n2_ n3_, fr3 (tell _ _ _ r1_ t1_).1 (tell _ _ _ r2_ t2_).1 (tell _ _ _ r3_ t3_).1, ?_, fun H a ns _ hT hS => ⟨a, ns, rfl, hS, hT, fun _ => rfl⟩, fun base kIn hns sm hB => ?_⟩
  · obtain ⟨oc, od, kV, doc, pm, an, cdv, ct, osl, rfl, lk, hcd⟩ := F.ex
    exact fun s v => .of_eq rfl
  · have MB : Ck4 P w K mg base ad4 := ⟨m_InvalidNumber base s_InvalidNumber, m_InvalidLevel base s_InvalidLevel, m_InvalidPresses base s_InvalidPresses, m_InvalidRoom base s_InvalidRoom⟩
    have Z_ : Ce K mg ad4 24 := ⟨s_InvalidLevel, s_InvalidNumber, s_InvalidPresses, s_InvalidRoom, s_DoorError, MB.InvalidLevel.noV, MB.InvalidNumber.noV, MB.InvalidPresses.noV, MB.InvalidRoom.noV, by decide⟩
    have tb1 : TabB base mg c1 P1 := hB (c1, P1) (List.mem_cons_self ..)
    have tb2 : TabB base mg c2 P2 := hB (c2, P2) (List.mem_cons_of_mem _ (List.mem_cons_self ..))
    have tb3 : TabB base mg c3 P3 := hB (c3, P3) (List.mem_cons_of_mem _ (List.mem_cons_of_mem _ (List.mem_cons_self ..)))
    have c_is_whole := f_is_whole (P := P) (w := w) (base := base) (T := Bl_) (a := a_is_whole)
    have c_is_count := f_is_count (P := P) (w := w) (base := base) (c_is_whole := c_is_whole) (a := a_is_count)
    have c_is_tuple_of := f_is_tuple_of (P := P) (w := w) (base := base) (T := Bl_) (a := a_is_tuple_of)
    have c_fits_room := f_fits_room (P := P) (w := w) (base := base) (c_is_count := c_is_count) (a := a_fits_room)
    have c_fits_lights := f_fits_lights (P := P) (w := w) (base := base) (T := Bl_) (c_fits_room := c_fits_room) (a := a_fits_lights)
    have c_fits_presses := f_fits_presses (P := P) (w := w) (base := base) (T := Bl_) (c_fits_lights := c_fits_lights) (a := a_fits_presses)
    have c_fits_door_within := f_fits_door_within (P := P) (w := w) (base := base) (c_is_tuple_of := c_is_tuple_of) (c_fits_lights := c_fits_lights) (c_fits_room := c_fits_room) (c_is_whole := c_is_whole) (a := a_fits_door_within)
    have c_fits_door := f_fits_door (P := P) (w := w) (base := base) (T := BN_) (c_fits_door_within := c_fits_door_within) (a := a_fits_door)
    obtain ⟨fda, hfda⟩ : ∃ a, mg "fits_door" = some (.ref a) := let ⟨f, _, h, _⟩ := c_fits_door; ⟨f, h⟩
    have c_fits_level_with := f_fits_level_with (P := P) (w := w) (base := base) (T := Bl_) (hone := ⟨_, _, c_fits_door, hfda⟩) (c_is_tuple_of := c_is_tuple_of) (c_is_whole := c_is_whole) (a := a_fits_level_with)
    have c_fits_level := f_fits_level (P := P) (w := w) (base := base) (m_fits_door := hfda) (c_fits_level_with := c_fits_level_with) (a := a_fits_level)
    have c__law_hash := f__law_hash (P := P) (w := w) (base := base) (T := Bg_) (a := a__law_hash)
    have c__law_random := f__law_random (P := P) (w := w) (base := base) (T := Bg_) (c__law_hash := c__law_hash) (a := a__law_random)
    have c__law_cell := f__law_cell (P := P) (w := w) (base := base) (T := Bg_) (a := a__law_cell)
    have c__law_generator := f__law_generator (P := P) (w := w) (base := base) (T := Bg_) (c__law_cell := c__law_cell) (a := a__law_generator)
    have c_check_level := f_check_level (P := P) (w := w) (base := base) (M := MB) (c_fits_level := c_fits_level) (a := a_check_level)
    have c_check_presses := f_check_presses (P := P) (w := w) (base := base) (M := MB) (c_fits_presses := c_fits_presses) (a := a_check_presses)
    have c_check_tick := f_check_tick (P := P) (w := w) (base := base) (M := MB) (c_is_count := c_is_count) (a := a_check_tick)
    have c_check_room := f_check_room (P := P) (w := w) (base := base) (M := MB) (c_fits_room := c_fits_room) (a := a_check_room)
    have c_check_room_at := f_check_room_at (P := P) (w := w) (base := base) (T := Bl_) (c_check_level := c_check_level) (c_check_presses := c_check_presses) (c_check_tick := c_check_tick) (c_check_room := c_check_room) (a := a_check_room_at)
    have c_presses_in := f_presses_in (P := P) (w := w) (base := base) (c_check_level := c_check_level) (c_check_presses := c_check_presses) (a := a_presses_in)
    have c_is_added := f_is_added (P := P) (w := w) (base := base) (c_check_level := c_check_level) (c_check_presses := c_check_presses) (a := a_is_added)
    have c_together := f_together (P := P) (w := w) (base := base) (c_check_level := c_check_level) (c_check_presses := c_check_presses) (a := a_together)
    have c_reasons := f_reasons (P := P) (w := w) (base := base) (c_check_room_at := c_check_room_at) (a := a_reasons)
    have c_cuts := f_cuts (P := P) (w := w) (base := base) (c_check_room_at := c_check_room_at) (a := a_cuts)
    have c_sure_presses := f_sure_presses (P := P) (w := w) (base := base) (c_check_room_at := c_check_room_at) (a := a_sure_presses)
    have c_idle_presses := f_idle_presses (P := P) (w := w) (base := base) (c_check_room_at := c_check_room_at) (a := a_idle_presses)
    have c_how_many_light := f_how_many_light (P := P) (w := w) (base := base) (c_check_room_at := c_check_room_at) (a := a_how_many_light)
    have c_first_of_fewest := f_first_of_fewest (P := P) (w := w) (base := base) (a := a_first_of_fewest)
    have c_fewest_reason := f_fewest_reason (P := P) (w := w) (base := base) (c_reasons := c_reasons) (c_first_of_fewest := c_first_of_fewest) (a := a_fewest_reason)
    have c_fewest_cut := f_fewest_cut (P := P) (w := w) (base := base) (c_cuts := c_cuts) (c_first_of_fewest := c_first_of_fewest) (a := a_fewest_cut)
    have c_alone := f_alone (P := P) (w := w) (base := base) (M := MB) (T := BM_) (c_check_level := c_check_level) (c_check_tick := c_check_tick) (c_check_room := c_check_room) (c_is_whole := c_is_whole) (a := a_alone)
    have c_is_press := f_is_press (P := P) (w := w) (base := base) (c_is_tuple_of := c_is_tuple_of) (c_is_count := c_is_count) (a := a_is_press)
    have c_fits_lot := f_fits_lot (P := P) (w := w) (base := base) (T := BL3_) (sm := sm) (c_is_press := c_is_press) (a := a_fits_lot)
    have c_is_lot_of := f_is_lot_of (P := P) (w := w) (base := base) (T := BL3_) (c_fits_lot := c_fits_lot) (a := a_is_lot_of)
    have c_check_lot := f_check_lot (P := P) (w := w) (base := base) (M := MB) (c_check_level := c_check_level) (c_check_presses := c_check_presses) (c_is_lot_of := c_is_lot_of) (a := a_check_lot)
    have c_with_only := f_with_only (P := P) (w := w) (base := base) (c_check_lot := c_check_lot) (a := a_with_only)
    have c_without := f_without (P := P) (w := w) (base := base) (c_check_lot := c_check_lot) (a := a_without)
    have c_is_reason := f_is_reason (P := P) (w := w) (base := base) (c_check_room_at := c_check_room_at) (c_is_lot_of := c_is_lot_of) (a := a_is_reason)
    have c_is_cut := f_is_cut (P := P) (w := w) (base := base) (c_check_room_at := c_check_room_at) (c_is_lot_of := c_is_lot_of) (a := a_is_cut)
    have c_crossing := f_crossing (P := P) (w := w) (base := base) (M := MB) (T := BL3_) (c_fits_lot := c_fits_lot) (a := a_crossing)
    have c__law_call := f__law_call (P := P) (w := w) (base := base) (c := ⟨Fx.up c_presses_in (by decide), Fx.up c_is_added (by decide), Fx.up c_together (by decide), Fx.up c_with_only (by decide), Fx.up c_without (by decide), Fx.up c_is_reason (by decide), Fx.up c_is_cut (by decide), Fx.up c_reasons (by decide), Fx.up c_cuts (by decide), Fx.up c_fewest_reason (by decide), Fx.up c_fewest_cut (by decide), Fx.up c_sure_presses (by decide), Fx.up c_idle_presses (by decide), Fx.up c_how_many_light (by decide)⟩) (a := a__law_call)
    have c__law_levels_refused := f__law_levels_refused (P := P) (w := w) (base := base) (T := BR_) (sm := sm) (Z := Z_) (T7 := B7_) (Ts := [(P1, qL "_law_levels_refused"), (P2, qL "_law_targets_refused"), (P3, qL "_law_lots_refused")]) (kIn := kIn) (hns := hns) (htab := t1_) (TB := tb1) (hmT := (List.mem_cons_self ..)) (huT := u1) (c_ref := a__law_refused) (c__law_call := c__law_call) (c_alone := c_alone) (a := a__law_levels_refused)
    have c__law_targets_refused := f__law_targets_refused (P := P) (w := w) (base := base) (T := BR_) (sm := sm) (Z := Z_) (T7 := B7_) (Ts := [(P1, qL "_law_levels_refused"), (P2, qL "_law_targets_refused"), (P3, qL "_law_lots_refused")]) (kIn := kIn) (hns := hns) (htab := t2_) (TB := tb2) (hmT := (List.mem_cons_of_mem _ (List.mem_cons_self ..))) (huT := u2) (c_ref := a__law_refused) (c__law_call := c__law_call) (c_alone := c_alone) (a := a__law_targets_refused)
    have c__law_lots_refused := f__law_lots_refused (P := P) (w := w) (base := base) (sm := sm) (Z := Z_) (c := ⟨Fx.up c_presses_in (by decide), Fx.up c_is_added (by decide), Fx.up c_together (by decide), Fx.up c_with_only (by decide), Fx.up c_without (by decide), Fx.up c_is_reason (by decide), Fx.up c_is_cut (by decide), Fx.up c_reasons (by decide), Fx.up c_cuts (by decide), Fx.up c_fewest_reason (by decide), Fx.up c_fewest_cut (by decide), Fx.up c_sure_presses (by decide), Fx.up c_idle_presses (by decide), Fx.up c_how_many_light (by decide)⟩) (T7 := B7_) (Ts := [(P1, qL "_law_levels_refused"), (P2, qL "_law_targets_refused"), (P3, qL "_law_lots_refused")]) (kIn := kIn) (hns := hns) (htab := t3_) (TB := tb3) (hmT := (List.mem_cons_of_mem _ (List.mem_cons_of_mem _ (List.mem_cons_self ..)))) (huT := u3) (c_ref := a__law_refused) (c_crossing := c_crossing) (a := a__law_lots_refused)
    have c__law_fields_kept := f__law_fields_kept (P := P) (w := w) (base := base) (T := BR_) (sm := sm) (Z := Z_) (c_reasons := c_reasons) (c_cuts := c_cuts) (c_how_many_light := c_how_many_light) (c_sure_presses := c_sure_presses) (c_with_only := c_with_only) (c_crossing := c_crossing) (a := a__law_fields_kept)
    exact f_law (Ts := [(P1, qL "_law_levels_refused"), (P2, qL "_law_targets_refused"), (P3, qL "_law_lots_refused")]) (cs := [(c1, P1), (c2, P2), (c3, P3)]) (fr3 ⟨(c1, P1), (List.mem_cons_self ..), rfl⟩ ⟨(c2, P2), (List.mem_cons_of_mem _ (List.mem_cons_self ..)), rfl⟩ ⟨(c3, P3), (List.mem_cons_of_mem _ (List.mem_cons_of_mem _ (List.mem_cons_self ..))), rfl⟩) c__law_generator c__law_random c__law_levels_refused c__law_targets_refused c__law_lots_refused c__law_fields_kept F
end TD

set_option maxHeartbeats 4000000
open PySem PySem.W PyProof.Rows
set_option maxHeartbeats 0 in
theorem PySem.Challenge.cw_timedoors_k44_reasons_refused_holds : PySem.Challenge.rw_timedoors_k44_reasons_refused.Holds := by
  w_on; o_law; k_head; (case hw => w_witness2)
  k_fill
  refine TD.walkGT (l := PySem.Challenge.rw_timedoors_k44_reasons_refused) (n := 63) (k := 17) (x := "_law_script") (CX := fun _ => L2.CX0) (sp := TD.spLawT) rfl (by decide) rfl rfl ⟨rfl, by decide, by decide⟩ (fun w h Y => PySem.W.km_in_of Y) ?F (fun _ _ _ _ _ h => h)
  case F =>
    intro w mg fa h KX G hmg tell
    refine' TD.all_mk KX G hmg tell ?s_DoorError ?s_InvalidNumber ?s_InvalidLevel ?s_InvalidPresses ?s_InvalidRoom ?m_InvalidNumber ?m_InvalidLevel ?m_InvalidPresses ?m_InvalidRoom ?a_is_whole ?a_is_count ?a_is_tuple_of ?a_fits_room ?a_fits_lights ?a_fits_presses ?a_fits_door_within ?a_fits_door ?a_fits_level_with ?a_fits_level ?a__law_hash ?a__law_random ?a__law_cell ?a__law_generator ?a_check_level ?a_check_presses ?a_check_tick ?a_check_room ?a_check_room_at ?a_presses_in ?a_is_added ?a_together ?a_reasons ?a_cuts ?a_sure_presses ?a_idle_presses ?a_how_many_light ?a_first_of_fewest ?a_fewest_reason ?a_fewest_cut ?a_alone ?a_is_press ?a_fits_lot ?a_is_lot_of ?a_check_lot ?a_with_only ?a_without ?a_is_reason ?a_is_cut ?a_crossing ?a__law_call ?a__law_levels_refused ?a__law_targets_refused ?a__law_lots_refused ?a__law_fields_kept ?a__law_refused ?a_law ?z_NEXT ?z_MOST_TICKS ?z_isinstance ?z_int ?z_bool ?z_list ?z_tuple ?z_len ?z_all ?z_max ?z_sum ?z_range ?z_repr ?z_zip ?z_ValueError ?t1_ ?r1_ ?n1_ ?t2_ ?r2_ ?n2_ ?t3_ ?r3_ ?n3_ ?d12 ?d13 ?d23
    (case t1_ => refine' TD.tab_mk ?tbA ?tbL ?tbC ?tbD ?tbE; (case tbA => k_is); (case tbL => k_is); (case tbC => rfl); (case tbD => k_is); (case tbE => rfl))
    (case r1_ => first | rfl | decide +kernel)
    (case n1_ => first | k_is | rfl | (with_unfolding_all rfl) | decide +kernel)
    (case t2_ => refine' TD.tab_mk ?tbA ?tbL ?tbC ?tbD ?tbE; (case tbA => k_is); (case tbL => k_is); (case tbC => rfl); (case tbD => k_is); (case tbE => rfl))
    (case r2_ => first | rfl | decide +kernel)
    (case n2_ => first | k_is | rfl | (with_unfolding_all rfl) | decide +kernel)
    (case t3_ => refine' TD.tab_mk ?tbA ?tbL ?tbC ?tbD ?tbE; (case tbA => k_is); (case tbL => k_is); (case tbC => rfl); (case tbD => k_is); (case tbE => rfl))
    (case r3_ => first | rfl | decide +kernel)
    (case n3_ => first | k_is | rfl | (with_unfolding_all rfl) | decide +kernel)
    (case d12 => decide)
    (case d13 => decide)
    (case d23 => decide)
    (case s_DoorError => refine' TD.std_mk KX G ?a1 ?a2 ?a3 ?a4 ?a5 ?a6 ?a7 ?a8 ?a9; (case a1 => k_is); (case a2 => k_is); (case a3 => k_is); (case a4 => k_is); (case a5 => k_is); (case a6 => k_is); (case a7 => k_is); (case a8 => k_is); (case a9 => k_is))
    (case s_InvalidNumber => refine' TD.std_mk KX G ?a1 ?a2 ?a3 ?a4 ?a5 ?a6 ?a7 ?a8 ?a9; (case a1 => k_is); (case a2 => k_is); (case a3 => k_is); (case a4 => k_is); (case a5 => k_is); (case a6 => k_is); (case a7 => k_is); (case a8 => k_is); (case a9 => k_is))
    (case s_InvalidLevel => refine' TD.std_mk KX G ?a1 ?a2 ?a3 ?a4 ?a5 ?a6 ?a7 ?a8 ?a9; (case a1 => k_is); (case a2 => k_is); (case a3 => k_is); (case a4 => k_is); (case a5 => k_is); (case a6 => k_is); (case a7 => k_is); (case a8 => k_is); (case a9 => k_is))
    (case s_InvalidPresses => refine' TD.std_mk KX G ?a1 ?a2 ?a3 ?a4 ?a5 ?a6 ?a7 ?a8 ?a9; (case a1 => k_is); (case a2 => k_is); (case a3 => k_is); (case a4 => k_is); (case a5 => k_is); (case a6 => k_is); (case a7 => k_is); (case a8 => k_is); (case a9 => k_is))
    (case s_InvalidRoom => refine' TD.std_mk KX G ?a1 ?a2 ?a3 ?a4 ?a5 ?a6 ?a7 ?a8 ?a9; (case a1 => k_is); (case a2 => k_is); (case a3 => k_is); (case a4 => k_is); (case a5 => k_is); (case a6 => k_is); (case a7 => k_is); (case a8 => k_is); (case a9 => k_is))
    (case m_InvalidNumber => intro base s; refine' TD.mke_of (st := TD.clsM (TD.topS 2)) s ?hv ?sa ?no ?ini ?tI ?l1 ?c1 ?k1 ?lT ?dT ?hs; (case hv => decide); (case sa => k_is); (case no => k_is); (case ini => k_is); (case tI => k_is); (case l1 => k_is); (case c1 => k_is); (case k1 => k_is); (case lT => k_is); (case dT => rfl); (case hs => exact ⟨_, _, _, _, _, _, _, rfl, rfl, rfl⟩))
    (case m_InvalidLevel => intro base s; refine' TD.mke_of (st := TD.clsM (TD.topS 4)) s ?hv ?sa ?no ?ini ?tI ?l1 ?c1 ?k1 ?lT ?dT ?hs; (case hv => decide); (case sa => k_is); (case no => k_is); (case ini => k_is); (case tI => k_is); (case l1 => k_is); (case c1 => k_is); (case k1 => k_is); (case lT => k_is); (case dT => rfl); (case hs => exact ⟨_, _, _, _, _, _, _, rfl, rfl, rfl⟩))
    (case m_InvalidPresses => intro base s; refine' TD.mke_of (st := TD.clsM (TD.topS 5)) s ?hv ?sa ?no ?ini ?tI ?l1 ?c1 ?k1 ?lT ?dT ?hs; (case hv => decide); (case sa => k_is); (case no => k_is); (case ini => k_is); (case tI => k_is); (case l1 => k_is); (case c1 => k_is); (case k1 => k_is); (case lT => k_is); (case dT => rfl); (case hs => exact ⟨_, _, _, _, _, _, _, rfl, rfl, rfl⟩))
    (case m_InvalidRoom => intro base s; refine' TD.mke_of (st := TD.clsM (TD.topS 3)) s ?hv ?sa ?no ?ini ?tI ?l1 ?c1 ?k1 ?lT ?dT ?hs; (case hv => decide); (case sa => k_is); (case no => k_is); (case ini => k_is); (case tI => k_is); (case l1 => k_is); (case c1 => k_is); (case k1 => k_is); (case lT => k_is); (case dT => rfl); (case hs => exact ⟨_, _, _, _, _, _, _, rfl, rfl, rfl⟩))
    (case a_is_whole => refine' TD.at_mk KX G ?a ?l ?c ?k; (case a => k_is); (case l => k_is); (case c => k_is); (case k => k_is))
    (case a_is_count => refine' TD.at_mk KX G ?a ?l ?c ?k; (case a => k_is); (case l => k_is); (case c => k_is); (case k => k_is))
    (case a_is_tuple_of => refine' TD.at_mk KX G ?a ?l ?c ?k; (case a => k_is); (case l => k_is); (case c => k_is); (case k => k_is))
    (case a_fits_room => refine' TD.at_mk KX G ?a ?l ?c ?k; (case a => k_is); (case l => k_is); (case c => k_is); (case k => k_is))
    (case a_fits_lights => refine' TD.at_mk KX G ?a ?l ?c ?k; (case a => k_is); (case l => k_is); (case c => k_is); (case k => k_is))
    (case a_fits_presses => refine' TD.at_mk KX G ?a ?l ?c ?k; (case a => k_is); (case l => k_is); (case c => k_is); (case k => k_is))
    (case a_fits_door_within => refine' TD.at_mk KX G ?a ?l ?c ?k; (case a => k_is); (case l => k_is); (case c => k_is); (case k => k_is))
    (case a_fits_door => refine' TD.at_mk KX G ?a ?l ?c ?k; (case a => k_is); (case l => k_is); (case c => k_is); (case k => k_is))
    (case a_fits_level_with => refine' TD.at_mk KX G ?a ?l ?c ?k; (case a => k_is); (case l => k_is); (case c => k_is); (case k => k_is))
    (case a_fits_level => refine' TD.at_mk KX G ?a ?l ?c ?k; (case a => k_is); (case l => k_is); (case c => k_is); (case k => k_is))
    (case a__law_hash => refine' TD.at_mk KX G ?a ?l ?c ?k; (case a => k_is); (case l => k_is); (case c => k_is); (case k => k_is))
    (case a__law_random => refine' TD.at_mk KX G ?a ?l ?c ?k; (case a => k_is); (case l => k_is); (case c => k_is); (case k => k_is))
    (case a__law_cell => refine' TD.at_mk KX G ?a ?l ?c ?k; (case a => k_is); (case l => k_is); (case c => k_is); (case k => k_is))
    (case a__law_generator => refine' TD.at_mk KX G ?a ?l ?c ?k; (case a => k_is); (case l => k_is); (case c => k_is); (case k => k_is))
    (case a_check_level => refine' TD.at_mk KX G ?a ?l ?c ?k; (case a => k_is); (case l => k_is); (case c => k_is); (case k => k_is))
    (case a_check_presses => refine' TD.at_mk KX G ?a ?l ?c ?k; (case a => k_is); (case l => k_is); (case c => k_is); (case k => k_is))
    (case a_check_tick => refine' TD.at_mk KX G ?a ?l ?c ?k; (case a => k_is); (case l => k_is); (case c => k_is); (case k => k_is))
    (case a_check_room => refine' TD.at_mk KX G ?a ?l ?c ?k; (case a => k_is); (case l => k_is); (case c => k_is); (case k => k_is))
    (case a_check_room_at => refine' TD.at_mk KX G ?a ?l ?c ?k; (case a => k_is); (case l => k_is); (case c => k_is); (case k => k_is))
    (case a_presses_in => refine' TD.at_mk KX G ?a ?l ?c ?k; (case a => k_is); (case l => k_is); (case c => k_is); (case k => k_is))
    (case a_is_added => refine' TD.at_mk KX G ?a ?l ?c ?k; (case a => k_is); (case l => k_is); (case c => k_is); (case k => k_is))
    (case a_together => refine' TD.at_mk KX G ?a ?l ?c ?k; (case a => k_is); (case l => k_is); (case c => k_is); (case k => k_is))
    (case a_reasons => refine' TD.at_mk KX G ?a ?l ?c ?k; (case a => k_is); (case l => k_is); (case c => k_is); (case k => k_is))
    (case a_cuts => refine' TD.at_mk KX G ?a ?l ?c ?k; (case a => k_is); (case l => k_is); (case c => k_is); (case k => k_is))
    (case a_sure_presses => refine' TD.at_mk KX G ?a ?l ?c ?k; (case a => k_is); (case l => k_is); (case c => k_is); (case k => k_is))
    (case a_idle_presses => refine' TD.at_mk KX G ?a ?l ?c ?k; (case a => k_is); (case l => k_is); (case c => k_is); (case k => k_is))
    (case a_how_many_light => refine' TD.at_mk KX G ?a ?l ?c ?k; (case a => k_is); (case l => k_is); (case c => k_is); (case k => k_is))
    (case a_first_of_fewest => refine' TD.at_mk KX G ?a ?l ?c ?k; (case a => k_is); (case l => k_is); (case c => k_is); (case k => k_is))
    (case a_fewest_reason => refine' TD.at_mk KX G ?a ?l ?c ?k; (case a => k_is); (case l => k_is); (case c => k_is); (case k => k_is))
    (case a_fewest_cut => refine' TD.at_mk KX G ?a ?l ?c ?k; (case a => k_is); (case l => k_is); (case c => k_is); (case k => k_is))
    (case a_alone => refine' TD.at_mk KX G ?a ?l ?c ?k; (case a => k_is); (case l => k_is); (case c => k_is); (case k => k_is))
    (case a_is_press => refine' TD.at_mk KX G ?a ?l ?c ?k; (case a => k_is); (case l => k_is); (case c => k_is); (case k => k_is))
    (case a_fits_lot => refine' TD.at_mk KX G ?a ?l ?c ?k; (case a => k_is); (case l => k_is); (case c => k_is); (case k => k_is))
    (case a_is_lot_of => refine' TD.at_mk KX G ?a ?l ?c ?k; (case a => k_is); (case l => k_is); (case c => k_is); (case k => k_is))
    (case a_check_lot => refine' TD.at_mk KX G ?a ?l ?c ?k; (case a => k_is); (case l => k_is); (case c => k_is); (case k => k_is))
    (case a_with_only => refine' TD.at_mk KX G ?a ?l ?c ?k; (case a => k_is); (case l => k_is); (case c => k_is); (case k => k_is))
    (case a_without => refine' TD.at_mk KX G ?a ?l ?c ?k; (case a => k_is); (case l => k_is); (case c => k_is); (case k => k_is))
    (case a_is_reason => refine' TD.at_mk KX G ?a ?l ?c ?k; (case a => k_is); (case l => k_is); (case c => k_is); (case k => k_is))
    (case a_is_cut => refine' TD.at_mk KX G ?a ?l ?c ?k; (case a => k_is); (case l => k_is); (case c => k_is); (case k => k_is))
    (case a_crossing => refine' TD.at_mk KX G ?a ?l ?c ?k; (case a => k_is); (case l => k_is); (case c => k_is); (case k => k_is))
    (case a__law_call => refine' TD.at_mk KX G ?a ?l ?c ?k; (case a => k_is); (case l => k_is); (case c => k_is); (case k => k_is))
    (case a__law_levels_refused => refine' TD.at_mk KX G ?a ?l ?c ?k; (case a => k_is); (case l => k_is); (case c => k_is); (case k => k_is))
    (case a__law_targets_refused => refine' TD.at_mk KX G ?a ?l ?c ?k; (case a => k_is); (case l => k_is); (case c => k_is); (case k => k_is))
    (case a__law_lots_refused => refine' TD.at_mk KX G ?a ?l ?c ?k; (case a => k_is); (case l => k_is); (case c => k_is); (case k => k_is))
    (case a__law_fields_kept => refine' TD.at_mk KX G ?a ?l ?c ?k; (case a => k_is); (case l => k_is); (case c => k_is); (case k => k_is))
    (case a__law_refused => refine' TD.at_mk KX G ?a ?l ?c ?k; (case a => k_is); (case l => k_is); (case c => k_is); (case k => k_is))
    (case a_law => refine' TD.at_mk KX G ?a ?l ?c ?k; (case a => k_is); (case l => k_is); (case c => k_is); (case k => k_is))
    (case z_NEXT => k_is)
    (case z_MOST_TICKS => k_is)
    (case z_isinstance => k_is)
    (case z_int => k_is)
    (case z_bool => k_is)
    (case z_list => k_is)
    (case z_tuple => k_is)
    (case z_len => k_is)
    (case z_all => k_is)
    (case z_max => k_is)
    (case z_sum => k_is)
    (case z_range => k_is)
    (case z_repr => k_is)
    (case z_zip => k_is)
    (case z_ValueError => k_is)
