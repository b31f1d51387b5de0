import PyProof.Rows.All
import Wide.All
import OpenK.AllK
import Wide.FinOn
import HandS.ForMost
import HandS.IsInst
import HandS.Evl
import HandS.WideBits
import HandS.Wide
import HandS.Flow
import HandS.Style
import HandS.SortInts
import HandS.Strs
import HandS.Conv
import HandS.TupLe
import HandS.Defaults
import HandS.Small
import PySem.Challenge.RW_timedoors_k05_errors_by_their_classes
import HandS.ExcInit
import HandS.ExcIs
import HandS.ExcValue
import HandS.ExcOwn
import KE.KExcIs
import HandS.DeepEq
set_option Elab.async false
set_option linter.all false
set_option maxRecDepth 100000
set_option maxHeartbeats 4000000
/-! # G1: defs whose promise is asked only where nothing is being printed (guards are empty): so repr of data is exact -/
namespace TD
open PySem PySem.Spec PyProof.Rows L2

/-- as FnOk, asked only where no repr is under way -/
structure FnG (P : Program) (w : World) (K : PySem.W.Frag) (mg : Str → Option Value) (base : Heap) (CX : CXT) (k : Nat) (f : Addr) (fd : FuncData) (ps : List Str) (sp : Sp) : Prop where
  ln : ∀ vs H Q E, sp vs H Q E → vs.length = ps.length
  go : ∀ (A : Around) (outer : List Env) (s : Shared) (H : Hp) (args : Args) (us : List Value) (vs : List V) (Q : VK) (E : XK),
    A.guards = some [] → Room k A → Env0 P w K mg base A outer s H → BindsTo s fd args (ps.zip us) → Vals vs us → sp vs H Q E →
    codeAny (model P w) A (.call (.ref f) args) (CR CX outer P w H s Q E) s

section
variable {P : Program} {w : World} {K : PySem.W.Frag} {mg : Str → Option Value} {base : Heap}
theorem FnG.up {CX : CXT} {j k : Nat} {f : Addr} {fd : FuncData} {ps : List Str} {sp : Sp} (F : FnG P w K mg base CX j f fd ps sp) (h : j ≤ k) :
    FnG P w K mg base CX k f fd ps sp := ⟨F.ln, fun A o s H a us vs Q E g r => F.go A o s H a us vs Q E g (r.mono h)⟩
theorem FnG.weak {CX : CXT} {k : Nat} {f : Addr} {fd : FuncData} {ps : List Str} {sp sp' : Sp} (F : FnG P w K mg base CX k f fd ps sp)
    (h : ∀ vs H Q E, sp' vs H Q E → sp vs H Q E) : FnG P w K mg base CX k f fd ps sp' :=
  ⟨fun vs H Q E q => F.ln vs H Q E (h _ _ _ _ q), fun A o s H a us vs Q E g r e b v q => F.go A o s H a us vs Q E g r e b v (h _ _ _ _ q)⟩
theorem FnG.of {CX : CXT} {k : Nat} {f : Addr} {fd : FuncData} {ps : List Str} {sp : Sp} (F : FnOk P w K mg base CX k f fd ps sp) :
    FnG P w K mg base CX k f fd ps sp := ⟨F.len, fun A o s H a us vs Q E _ r => F.run A o s H a us vs Q E r⟩
/-- the rule for a def, guards told -/
theorem fnG {CX : CXT} {x qual : Str} {st : Stmt} {f : Addr} {fd : FuncData} {N ps : List Str} {k : Nat} {sp : Sp} (F : Fun K x qual st f fd) (S : FnScope N ps (defScope st))
    (ln : ∀ vs H Q E, sp vs H Q E → vs.length = ps.length)
    (body : ∀ (cdv : Value) (A : Around) (outer : List Env) (s : Shared) (H : Hp) (vs : List V) (Q : VK) (E : XK),
      A.guards = some [] → Room k (A.deeper (envOfC qual (defScope st) s.heap.objs.size f cdv)) → sp vs H Q E →
      ∃ t, PSs (cxOf CX P w K mg base N qual (defScope st) f cdv A outer s H E) (defBody st) t ∧ t { nx := fun _ H' => Q .non H', rt := Q } (start N vs) H) :
    FnG P w K mg base CX (k + 1) f fd ps sp := by
  obtain ⟨oc, od, kV, doc, pm, an, cdv, ct, osl, rfl, lk, hcd⟩ := F.ex
  refine ⟨ln, ?_⟩
  intro A outer s H args us vs Q E hg hr e0 hb r hsp
  have keepB : ∀ b o, base.get? b = some o → s.heap.get? b = some o := fun b o e => (e0.bs b o e).1
  have inK : K.In s.heap := e0.mod.kin.keeps keepB
  have noLim : s.heap.NoLimit := e0.mod.nolimit.keeps keepB
  have kinds : ∀ y ∈ ps.zip us, (defScope st).names.lookup y.1 = some .local ∨
      ((defScope st).names.lookup y.1 = some .cell ∧ ((cellsFrom (s.heap.objs.size + 1) (defScope st).names []).lookup y.1).isSome = true) := by
    intro ⟨nm, u⟩ hy
    rcases S.par nm (List.of_mem_zip hy).1 with z | z
    · exact Or.inl z
    · exact Or.inr ⟨z, PySem.W.cellsFrom_some _ _ _ (Or.inl z)⟩
  refine codeAny_call_function hr.depth (inK _ _ lk) rfl S.co S.gen rfl (PySem.W.codeRec_of inK hcd) (hb _ _ _ _ ?_)
  refine wpAny_newFunctionEnv_cells S.kind kinds fun en hen s1 x1 => ?_
  subst hen
  refine ⟨noLim.keeps x1.toInCall.keep, codeAny_func ?_⟩
  obtain ⟨t, ht, hq⟩ := body cdv A outer s H vs Q E hg (hr.deeper _) hsp
  have I1 : Inv (cxOf CX P w K mg base N qual (defScope st) f cdv A outer s H E) [] (start N vs) H s1 := inv_start S hr.hd e0 (ln _ _ _ _ hsp) r x1
  refine wpAny_mono (ht.run [] s1 (start N vs) H _ I1 hq) ?_ (fun _ _ z => z)
  intro fl s2 hs
  match fl, hs with
  | .ret u, ⟨v, _, H2, J, rv, q⟩ => exact ⟨v, H2, J.os, J.bare, J.base, J.hok, rv, q⟩
  | .next, ⟨_, H2, J, q⟩ => exact ⟨V.non, H2, J.os, J.bare, J.base, J.hok, rfl, q⟩
  | .brk, ⟨_, _, _, q⟩ => exact q.elim
  | .cont, ⟨_, _, _, q⟩ => exact q.elim
end

section
variable {X : Cx} {CX : CXT} {k : Nat} {f : Addr} {fd : FuncData} {ps ks : List Str} {sp : Sp} {dvs : List V} {ds : List Value} {E : XK} {x : Str} {p pos : Pos} {e : Expr} {es : List Expr} {t tk : TA} {kws : List Keyword}
  {g : List Value → List Value → List Value} {gV : List V → List V → List V}
theorem runG {pins : List (Addr × Obj)} {σ : L2.St} {H : Hp} {s : Shared} {Q : VK} {us us2 : List Value} {kw : List (Str × Value)} {vs : List V}
    (F : FnG X.prog X.w X.K X.mg X.base CX k f fd ps sp) (hg : X.A.guards = some []) (hr : Room k X.A)
    (hb : BindsTo s fd ⟨us2, kw⟩ (ps.zip us)) (hx : Passes CX X E) (I : Inv X pins σ H s) (r : Vals vs us) (h : sp vs H Q E) :
    wpAny (model X.prog X.w) X.A (call (.ref f) us2 kw) (EP X pins σ Q) X.xe s := by
  refine wpAny_call (codeAny_mono (F.go X.A X.stack s H _ us vs Q E hg hr I.env0 hb r h) ?_)
  intro rs s2 hq
  match rs, hq with
  | .error e, hq => exact hx pins σ H s e s2 I hq
  | .ok (.ret u), hq => exact I.after hq
  | .ok .next, hq => exact hq.elim
  | .ok .brk, hq => exact hq.elim
  | .ok .cont, hq => exact hq.elim
/-- f(a, ..) -/
theorem pe_g (F : FnG X.prog X.w X.K X.mg X.base CX k f fd ps sp) (gu : X.A.guards = some []) (hr : Room k X.A) (hg : Gl X x) (hm : X.mg x = some (.ref f))
    (hk : PySem.W.keepIn X.K (.ref f) = true) (hb : Binds X.K fd ps []) (hx : Passes CX X E) (ha : PA X (e :: es) t)
    (d1 : (x == ("__debug__" : Str)) = false := by decide)
    (d2 : starEach (e :: es) X.env = (false, eval e X.env) :: starEach es X.env := by rfl)
    (d3 : (backTo pos (starEach es X.env)).any (·.1) = false := by rfl) :
    PE X (.Call (.Name x p) (e :: es) [] pos) (tCall sp [] E t) := by
  refine ⟨fun pins s σ H Q I h => wpAny_Call_Name_kw (ld_glob I hg hm ?_ d1)⟩
  refine PySem.W.callWith_K (h₀ := X.base) I.ok.mod.kin hk (thn (ha.run pos pins s σ H _ I h) ?_) d2 d3
  intro us s1 ⟨vs, H1, I1, r, q⟩
  have q' : sp vs H1 Q E := by
    have z : sp (vs ++ []) H1 Q E := q
    rw [List.append_nil] at z
    exact z
  have b := hb s1 us I1.kIn (by rw [List.append_nil, ← r.length]; exact F.ln _ _ _ _ q')
  rw [List.append_nil] at b
  exact ⟨I1.kIn, runG F gu hr b hx I1 r q'⟩
theorem pe_g0 (F : FnG X.prog X.w X.K X.mg X.base CX k f fd [] sp) (gu : X.A.guards = some []) (hr : Room k X.A) (hg : Gl X x) (hm : X.mg x = some (.ref f))
    (hk : PySem.W.keepIn X.K (.ref f) = true) (hb : Binds X.K fd [] []) (hx : Passes CX X E) (d1 : (x == ("__debug__" : Str)) = false := by decide) :
    PE X (.Call (.Name x p) [] [] pos) (tCall sp [] E tNil) := by
  refine ⟨fun pins s σ H Q I h => wpAny_Call_Name_kw (ld_glob I hg hm ?_ d1)⟩
  exact PySem.W.callWith_K0 I.kIn hk (runG (us := []) F gu hr (hb s [] I.kIn rfl) hx I .nil h)
/-- the keywords' binding: all by name -/
structure KAll (fd : FuncData) (ps ks : List Str) (g : List Value → List Value) (gV : List V → List V) : Prop where
  to : ∀ ws : List Value, ws.length = ks.length → bindArgs fd ⟨[], ks.zip ws⟩ = pure (ps.zip (g ws))
  rel : ∀ {zs : List V} {ws : List Value}, zs.length = ks.length → Vals zs ws → Vals (gV zs) (g ws)
def tCallKw (n : Nat) (sp : Sp) (gV : List V → List V) (E : XK) (tk : TA) : TE := fun σ H Q => tk σ H fun zs H2 => zs.length = n ∧ sp (gV zs) H2 Q E
/-- f(k = v, ..) -/
theorem pe_gk {g1 : List Value → List Value} {gV1 : List V → List V} (F : FnG X.prog X.w X.K X.mg X.base CX k f fd ps sp) (gu : X.A.guards = some []) (hr : Room k X.A) (hg : Gl X x) (hm : X.mg x = some (.ref f))
    (hk : PySem.W.keepIn X.K (.ref f) = true) (hb : KAll fd ps ks g1 gV1) (hx : Passes CX X E) (hkw : PK X kws tk)
    (d1 : (x == ("__debug__" : Str)) = false := by decide)
    (d2 : (backToKw pos (keywordEach kws X.env)).all (·.1.isSome) = true := by rfl)
    (d3 : (backToKw pos (keywordEach kws X.env)).filterMap (·.1) = ks := by rfl)
    (d4 : ((backTo pos (starEach [] X.env)).any (·.1) || (backToKw pos (keywordEach kws X.env)).any (·.1.isNone)) = false := by rfl) :
    PE X (.Call (.Name x p) [] kws pos) (tCallKw ks.length sp gV1 E tk) := by
  refine ⟨fun pins s σ H Q I h => wpAny_Call_Name_kw (ld_glob I hg hm ?_ d1)⟩
  refine PySem.W.callWith_KW0 (h₀ := X.base) I.ok.mod.kin hk d2 (thn (hkw.run pos pins s σ H _ I h) ?_) d4
  intro ws s2 ⟨zs, H2, I2, rz, hl, q⟩
  refine ⟨I2.kIn, ?_⟩
  rw [d3]
  exact runG (us := g1 ws) F gu hr (.of_eq (hb.to ws (rz.length.symm.trans hl))) hx I2 (hb.rel hl rz) q
end

/-! ### the end of a law row: the law's promise where guards are empty and sys.modules is a namespace of the base -/
section
theorem lawG {P : Program} {w : World} {K : PySem.W.Frag} {mg mb : Str → Option Value} {CX : CXT} {k : Nat} {fa a : Addr} {fd : FuncData} {x : Str} {sp : Sp} {s1 : Shared} {vs : List Value} {ns : List Int}
    (inK : K.In s1.heap) (hgl : s1.heap.Ns mainGlobals mg) (hbu : s1.heap.Ns builtinsNs mb) (hbb : ∀ x : Str, x ≠ "__name__" → mb x = bootBuiltins x) (lim : s1.heap.NoLimit) (see : s1.heap.NoSeer) (gen : s1.gens = #[])
    (at_ : s1.heap.get? a = some { cls := .type "list", data := .seq vs.toArray }) (hints : IntsAre vs ns) (len : ns.length ≤ sizeLine) (room : Room k callerA)
    (F : ∀ base : Heap, K.In base → base.Ns mainGlobals mg → (∃ mm, base.Ns sysModules mm) → FnG P w K mg base CX k fa fd [x] sp) (bind : ∀ (s : Shared) (u : Value), BindsTo s fd ⟨[u], []⟩ [(x, u)])
    (hsp : ∀ H : Hp, Only H → SqL K H a (ns.map V.int) → sp [.ref a] H (fun v _ => v = .bl true) fun _ _ _ => False)
    (hCX : ∀ H e s', CX [] H s1 (fun _ _ _ => False) e s' → False) :
    codeAny (model P w) callerA (.call (.ref fa) ⟨[.ref a], []⟩) (fun r s' => r = .ok (.ret (.bool true)) ∧ OldK s1.heap s'.heap ∧ s'.os = s1.os ∧ AllBare s'.gens) s1 := by
  have relV := vals_ints hints
  have lenV := hints.length
  have key : ∀ H : Hp, Only H → SqL K H a (ns.map V.int) → HOk P w H s1.heap → (∀ b, H b ≠ none → b = a) → (H a ≠ none → K.lookup a = none) →
      codeAny (model P w) callerA (.call (.ref fa) ⟨[.ref a], []⟩) (fun r s' => r = .ok (.ret (.bool true)) ∧ OldK s1.heap s'.heap ∧ s'.os = s1.os ∧ AllBare s'.gens) s1 := by
    intro H only hS ok one nk
    have not_a : ∀ {b : Addr} {o : Obj} {es : Array DictEntry} {ep : Nat}, s1.heap.get? b = some o → o.data = .dict es ep → H b = none := by
      intro b o es ep e d
      by_cases z : H b = none
      · exact z
      · have hb := one b z
        rw [hb, at_] at e
        cases e
        exact nomatch (show Data.seq vs.toArray _ = Data.dict es ep from d)
    have ns_ : ∀ {b : Addr} {m : Str → Option Value}, s1.heap.Ns b m → (hidT s1.heap H).Ns b m := by
      intro b m ⟨o, es, ep, e, d, r⟩
      exact ⟨o, es, ep, hidT_get e (not_a e d), d, r⟩
    have inB : K.In (hidT s1.heap H) := by
      intro b o e
      refine hidT_get (inK b o e) ?_
      by_cases z : H b = none
      · exact z
      · have hb := one b z
        rw [hb] at z e
        rw [nk z] at e
        cases e
    obtain ⟨mc, l1, l2⟩ := lim
    have md : Mod K mg (hidT s1.heap H) := ⟨inB, ns_ hgl, ⟨mb, ns_ hbu, hbb⟩, ⟨mc, ns_ l1, l2⟩⟩
    have e0 : Env0 P w K mg (hidT s1.heap H) callerA [] s1 H :=
      ⟨rfl, md, fun b o e => of_hidT e, Nat.le_of_eq (hidT_size _ _), trivial, (fun b hb => nomatch (show b ∈ ([] : List Addr) from hb)), ok, .of_eq gen⟩
    obtain ⟨mm, sm, _⟩ := see.mods
    refine codeAny_mono ((F _ inB (ns_ hgl) ⟨mm, ns_ sm⟩).go callerA [] s1 H ⟨[.ref a], []⟩ [.ref a] [.ref a] _ _ rfl room e0 (bind s1 (.ref a)) (.cons rfl .nil) (hsp H only hS)) ?_
    intro r s2 h
    match r, h with
    | .error e, h => exact (hCX H e s2 h).elim
    | .ok .next, h => exact False.elim h
    | .ok .brk, h => exact False.elim h
    | .ok .cont, h => exact False.elim h
    | .ok (.ret u), ⟨v, H2, os, bare, un, ok2, r2, q⟩ =>
      have qv : v = .bl true := q
      subst qv
      have ru : u = Value.bool true := r2
      subst ru
      refine ⟨rfl, OldK.of_keep ?_, os, bare⟩
      intro b o e
      rcases only b with z | ⟨ob, xs, z⟩
      · exact un.keep b o e z (fun y => nomatch (show b ∈ ([] : List Addr) from y)) (fun y => nomatch y)
      · obtain ⟨e1, _⟩ := ok b _ z
        obtain ⟨e2, _⟩ := ok2 b _ (un.frzs b ob _ z)
        rw [e1] at e
        cases e
        exact e2
  by_cases hk : K.lookup a = none
  · refine key (fun b => if b = a then some (.frz { cls := .type "list", data := .seq vs.toArray } (.lst (ns.map V.int))) else none) ?_ (.inl (.inr ⟨_, if_pos rfl⟩)) ?_ ?_ fun _ => hk
    · intro b
      by_cases hb : b = a
      · exact Or.inr ⟨_, _, if_pos hb⟩
      · exact Or.inl (if_neg hb)
    · intro b u z
      by_cases hb : b = a
      · subst hb
        have y := (if_pos rfl).symm.trans z
        cases y
        exact ⟨at_, by rw [List.length_map]; exact len, vs, _, relV, at_⟩
      · exact nomatch (if_neg hb).symm.trans z
    · intro b z
      by_cases hb : b = a
      · exact hb
      · exact (z (if_neg hb)).elim
  · obtain ⟨o, ho⟩ : ∃ o, K.lookup a = some o := by
      cases z : K.lookup a with
      | none => exact (hk z).elim
      | some o => exact ⟨o, rfl⟩
    have e := inK a o ho
    rw [at_] at e
    cases e
    refine key (fun _ => none) (fun _ => Or.inl rfl) (.inr ⟨_, vs.toArray, _, ho, rfl, rfl, rfl, by rw [List.size_toArray, lenV]; exact len, by simpa using relV⟩) ?_ (fun b z => absurd rfl z) fun z => absurd rfl z
    intro b u z
    exact nomatch (show (none : Option HO) = some u from z)
theorem walkG {l : PySem.W.OpenLaw} {n k : Nat} {q : Program} {loose : List Str} {XP : (Str → Option Value) → Heap → Prop} {YP : World → Heap → Prop} {d : DefRec} {K : Params → PySem.W.Frag} {CX : World → CXT} {sp : World → Sp} {x : Str}
    (h1 : l.most = some n) (h2 : n ≤ sizeLine) (h3 : d.params.defaults = []) (imp : importsNone q = true) (room : Room k callerA)
    (hY : ∀ (w : World) (h : Heap), YP w h → (K w.params).In h)
    (F : ∀ (w : World) (mg : Str → Option Value) (fa : Addr) (h : Heap), (K w.params).In h → h.Ns mainGlobals mg → mg d.name = some (.ref fa) →
      ∃ fd : FuncData, (∀ (s : Shared) (u : Value), BindsTo s fd ⟨[u], []⟩ [(x, u)]) ∧
        ∀ base : Heap, (K w.params).In base → base.Ns mainGlobals mg → (∃ mm, base.Ns sysModules mm) → FnG l.prog w (K w.params) mg base (CX w) k fa fd [x] (sp w))
    (hsp : ∀ (w : World) (H : Hp) (a : Addr) (ns : List Int), ns.length ≤ n → Only H → SqL (K w.params) H a (ns.map V.int) → sp w [.ref a] H (fun v _ => v = .bl true) fun _ _ _ => False)
    (hCX : ∀ (w : World) (H : Hp) (s : Shared) (e : Value) (s' : Shared), CX w [] H s (fun _ _ _ => False) e s' → False) :
    PySem.W.WalkO q loose XP YP l.row.toRowW d [] (fun f vs => PySem.call f vs) := by
  refine Att.attach_call h1 h3 ?_
  intro w s0 s1 mg mb fa o pm cd doc a vs ns G Y ho hd hcd hmg hobj hints hlen hgen
  have KX := hY w _ Y
  obtain ⟨fd, hb, hF⟩ := F w mg fa _ KX G.T.g hmg
  refine lawG KX G.T.g G.T.b G.T.builtins G.T.nolimit (G.T.seer imp) hgen hobj hints (Nat.le_trans hlen h2) room hF hb (fun H hO hS => hsp w H a ns hlen hO hS) ?_
  intro H e s2
  exact hCX w H s1 e s2
end
end TD

set_option maxHeartbeats 4000000
/-! # G2: data at any depth, dicts too: what stands in a heap for it; == and repr of it -/
namespace TD
open PySem PySem.Spec PyProof.Rows L2

def keyD : Key → PyData
  | .inl i => .int i
  | .inr x => .str x
mutual
inductive Da (K : PySem.W.Frag) (H : Hp) : V → PyData → Prop
  | non : Da K H .non .none
  | bl (b : Bool) : Da K H (.bl b) (.bool b)
  | int (i : Int) : Da K H (.int i) (.int i)
  | str (x : Str) : Da K H (.str x) (.str x)
  | lst {a : Addr} {xs : List V} {ds : List PyData} : H a = some (.lst xs) → Das K H xs ds → Da K H (.ref a) (.list ds)
  | tup {a : Addr} {xs : List V} {ds : List PyData} : H a = some (.tup xs) → Das K H xs ds → Da K H (.ref a) (.tuple ds)
  | dic {a : Addr} {kvs : List (Key × V)} {ds : List PyData} : H a = some (.dK kvs) → Das K H (kvs.map (·.2)) ds → Da K H (.ref a) (.dict ((kvs.map fun p => keyD p.1).zip ds))
inductive Das (K : PySem.W.Frag) (H : Hp) : List V → List PyData → Prop
  | nil : Das K H [] []
  | cons {v : V} {vs : List V} {d : PyData} {ds : List PyData} : Da K H v d → Das K H vs ds → Das K H (v :: vs) (d :: ds)
end
theorem Das.len {K : PySem.W.Frag} {H : Hp} : ∀ {vs : List V} {ds : List PyData}, Das K H vs ds → vs.length = ds.length
  | _, _, .nil => rfl
  | _, _, .cons _ t => congrArg Nat.succ t.len
theorem Das.get {K : PySem.W.Frag} {H : Hp} : ∀ {vs : List V} {ds : List PyData} {i : Nat} {v : V}, Das K H vs ds → vs[i]? = some v → ∃ d, ds[i]? = some d ∧ Da K H v d
  | _, _, _, _, .nil, h => by simp at h
  | _, _, 0, v, .cons (d := d) h t, e => by
    simp at e
    subst e
    exact ⟨d, rfl, h⟩
  | _, _, i + 1, v, .cons h t, e => by
    obtain ⟨d, e1, e2⟩ := t.get (i := i) (v := v) (by simpa using e)
    exact ⟨d, by simpa using e1, e2⟩
theorem Das.getD {K : PySem.W.Frag} {H : Hp} : ∀ {vs : List V} {ds : List PyData} {i : Nat} {d : PyData}, Das K H vs ds → ds[i]? = some d → ∃ v, vs[i]? = some v ∧ Da K H v d
  | _, _, _, _, .nil, h => by simp at h
  | _, _, 0, d, .cons (v := v) h t, e => by
    simp at e
    subst e
    exact ⟨v, rfl, h⟩
  | _, _, i + 1, d, .cons h t, e => by
    obtain ⟨v, e1, e2⟩ := t.getD (i := i) (d := d) (by simpa using e)
    exact ⟨v, by simpa using e1, e2⟩
theorem Das.app {K : PySem.W.Frag} {H : Hp} : ∀ {vs ws : List V} {ds es : List PyData}, Das K H vs ds → Das K H ws es → Das K H (vs ++ ws) (ds ++ es)
  | _, _, _, _, .nil, h => h
  | _, _, _, _, .cons a t, h => .cons a (t.app h)
theorem Das.take {K : PySem.W.Frag} {H : Hp} : ∀ {vs : List V} {ds : List PyData} (n : Nat), Das K H vs ds → Das K H (vs.take n) (ds.take n)
  | _, _, 0, _ => .nil
  | _, _, _ + 1, .nil => .nil
  | _, _, n + 1, .cons a t => .cons a (t.take n)
theorem Das.drop {K : PySem.W.Frag} {H : Hp} : ∀ {vs : List V} {ds : List PyData} (n : Nat), Das K H vs ds → Das K H (vs.drop n) (ds.drop n)
  | _, _, 0, h => h
  | _, _, _ + 1, .nil => .nil
  | _, _, n + 1, .cons a t => t.drop n
theorem rdEx {H H' : Hp} {a : Addr} {u : HO} (e : Evl.Ex H H') (h : Rd H a u) : Rd H' a u := Evl.ex_rd e h
mutual
theorem Da.ex {K : PySem.W.Frag} {H H' : Hp} (e : Evl.Ex H H') : ∀ {v : V} {d : PyData}, Da K H v d → Da K H' v d
  | _, _, .non => .non
  | _, _, .bl b => .bl b
  | _, _, .int i => .int i
  | _, _, .str x => .str x
  | _, _, .lst h t => .lst (e _ _ h) (Das.ex e t)
  | _, _, .tup h t => .tup (e _ _ h) (Das.ex e t)
  | _, _, .dic h t => .dic (e _ _ h) (Das.ex e t)
theorem Das.ex {K : PySem.W.Frag} {H H' : Hp} (e : Evl.Ex H H') : ∀ {vs : List V} {ds : List PyData}, Das K H vs ds → Das K H' vs ds
  | _, _, .nil => .nil
  | _, _, .cons a t => .cons (Da.ex e a) (Das.ex e t)
end
/-! ### what is read of it -/
section
variable {X : Cx} {pins : List (Addr × Obj)} {σ : L2.St} {H : Hp} {s : Shared}
theorem pairs_reads {P : Program} {w : World} {h : Heap} : ∀ {es : List DictEntry} {kvs : List (Key × V)} {vs : List (Key × Value)}, Pairs (mixKind P w) es vs → KV kvs vs →
    ReadsAll h (es.map (·.key)) (kvs.map fun p => keyD p.1) [] ∧ Vals (kvs.map (·.2)) (es.map (·.val))
  | _, _, _, .nil, .nil => ⟨.nil, .nil⟩
  | _, _, _, .cons (e := e) h1 h2 t, .cons (a := a) r u => by
    obtain ⟨q1, q2⟩ := pairs_reads (h := h) t u
    obtain ⟨r1, r2⟩ := r
    have h1' : keyIs a.1 e.key = true := by
      rw [r1]
      exact h1
    refine ⟨?_, .cons (by show L2.RelV a.2 e.val; rw [h2]; exact r2) q2⟩
    rcases keyIs_shape h1' with ⟨i, tk, ek, ev⟩ | ⟨x, tk, ek, ev⟩
    · have z := ReadsAll.cons (Reads.int (h := h) i tk) q1
      simp only [List.map_cons, ek, ev]
      exact z
    · have z := ReadsAll.cons (Reads.str (h := h) x tk) q1
      simp only [List.map_cons, ek, ev]
      exact z
theorem seq_not_sm {a : Addr} {o : Obj} {vs : Array Value} {n : Nat} (sm : ∃ mm, X.base.Ns sysModules mm) (I : Inv X pins σ H s) (ho : s.heap.get? a = some o) (hd : o.data = .seq vs n) : a ≠ sysModules := by
  intro e
  subst e
  obtain ⟨mm, q⟩ := sm
  obtain ⟨o2, es, ep, e2, d2, _⟩ := q.keeps I.bk
  rw [ho] at e2
  cases e2
  have z : o.data = .dict es ep := d2
  rw [hd] at z
  cases z
mutual
theorem Da.reads (sm : ∃ mm, X.base.Ns sysModules mm) (I : Inv X pins σ H s) : ∀ (d : PyData) (v : V) (u : Value), Da X.K H v d → RelV v u → ∃ as, Reads s.heap u d as ∧ sysModules ∉ as
  | .none, _, _, h, r => by
    cases h
    cases r
    exact ⟨_, Reads.none, fun z => nomatch z⟩
  | .bool b, _, _, h, r => by
    cases h
    cases r
    exact ⟨_, Reads.bool b, fun z => nomatch z⟩
  | .int i, _, _, h, r => by
    cases h
    obtain ⟨t, rfl⟩ := r
    exact ⟨_, Reads.int i t, fun z => nomatch z⟩
  | .str x, _, _, h, r => by
    cases h
    obtain ⟨t, rfl⟩ := r
    exact ⟨_, Reads.str x t, fun z => nomatch z⟩
  | .list ds, _, _, h, r => by
    cases h with
    | lst hs ha =>
      cases r
      obtain ⟨its, rv, ⟨o, n, ho, hc, _, hd⟩, _⟩ := I.list (SqL.of hs)
      obtain ⟨as, hr, hn⟩ := Das.reads sm I ds _ its ha rv
      refine ⟨_, Reads.list ho hc hd hr, fun z => ?_⟩
      rcases List.mem_cons.mp z with z | z
      · exact seq_not_sm sm I ho hd z.symm
      · exact hn z
  | .tuple ds, _, _, h, r => by
    cases h with
    | tup hs ha =>
      cases r
      obtain ⟨its, rv, ⟨o, ho, hc, n, hd⟩, _⟩ := I.tuple (SqT.of hs)
      obtain ⟨as, hr, hn⟩ := Das.reads sm I ds _ its ha rv
      exact ⟨_, Reads.tuple ho hc hd hr, hn⟩
  | .dict kds, v, u, h, r => by
    generalize hk : PyData.dict kds = dd at h
    cases h with
    | @dic a kvs ds hs ha =>
      cases r
      injection hk with hk
      subst hk
      obtain ⟨_, ns, vs, rel, o, es, ep, ho, hx, hd, _, hp, _⟩ := (I.hok a _ hs : ObjOk X.prog X.w H s.heap a (.dK kvs))
      obtain ⟨q1, q2⟩ := pairs_reads (h := s.heap) hp rel
      have l1 : (kvs.map fun p => keyD p.1).length = ds.length := by
        have := ha.len
        rw [List.length_map] at this ⊢
        exact this
      have ez : ((kvs.map fun p => keyD p.1).zip ds).map (·.2) = ds := List.map_snd_zip (by omega)
      obtain ⟨as, hr, hn⟩ := Das.readsZ sm I ((kvs.map fun p => keyD p.1).zip ds) _ _ (by rw [ez]; exact ha) q2
      refine ⟨_, Reads.dict (es := es) (n := ep) (as := []) (bs := as) ho hx.1 hd ?_ ?_, fun z => ?_⟩
      · rw [List.map_fst_zip (by omega)]
        exact q1
      · exact hr
      · rcases List.mem_cons.mp z with z | z
        · rw [← z] at ns
          simp at ns
        · exact hn (by simpa using z)
    | _ => cases hk
theorem Das.reads (sm : ∃ mm, X.base.Ns sysModules mm) (I : Inv X pins σ H s) : ∀ (ds : List PyData) (vs : List V) (us : List Value), Das X.K H vs ds → Vals vs us → ∃ as, ReadsAll s.heap us ds as ∧ sysModules ∉ as
  | [], _, _, h, r => by
    cases h
    cases r
    exact ⟨_, ReadsAll.nil, fun z => nomatch z⟩
  | d :: ds, _, _, h, r => by
    cases h with
    | cons h1 h2 =>
      cases r with
      | cons r1 r2 =>
        obtain ⟨as, q1, n1⟩ := Da.reads sm I d _ _ h1 r1
        obtain ⟨bs, q2, n2⟩ := Das.reads sm I ds _ _ h2 r2
        exact ⟨_, ReadsAll.cons q1 q2, fun z => (List.mem_append.mp z).elim n1 n2⟩
theorem Das.readsZ (sm : ∃ mm, X.base.Ns sysModules mm) (I : Inv X pins σ H s) : ∀ (kds : List (PyData × PyData)) (vs : List V) (us : List Value), Das X.K H vs (kds.map (·.2)) → Vals vs us → ∃ as, ReadsAll s.heap us (kds.map (·.2)) as ∧ sysModules ∉ as
  | [], _, _, h, r => by
    cases h
    cases r
    exact ⟨_, ReadsAll.nil, fun z => nomatch z⟩
  | (k, d) :: ds, _, _, h, r => by
    cases h with
    | cons h1 h2 =>
      cases r with
      | cons r1 r2 =>
        obtain ⟨as, q1, n1⟩ := Da.reads sm I d _ _ h1 r1
        obtain ⟨bs, q2, n2⟩ := Das.readsZ sm I ds _ _ h2 r2
        exact ⟨_, ReadsAll.cons q1 q2, fun z => (List.mem_append.mp z).elim n1 n2⟩
end
end
end TD
namespace TD
open PySem PySem.Spec PyProof.Rows L2
/-! ### how long the text of data is at most -/
mutual
def sz : PyData → Nat
  | .none => 10
  | .bool _ => 10
  | .int _ => 2000
  | .str x => (reprText x).length
  | .list xs => szs xs + 5
  | .tuple xs => szs xs + 5
  | .dict kvs => szk kvs + 5
def szs : List PyData → Nat
  | [] => 0
  | d :: ds => sz d + 2 + szs ds
def szk : List (PyData × PyData) → Nat
  | [] => 0
  | (k, v) :: r => sz k + sz v + 4 + szk r
end
def piles (ts : List Str) : Nat := (ts.map fun t => t.length + 2).sum
theorem textFrom_up : ∀ (ts : List Str) (k : Nat) (acc : Str), (textFrom k acc ts).length ≤ acc.length + piles ts
  | [], _, acc => by
    show acc.length ≤ acc.length + 0
    omega
  | t :: r, k, acc => by
    have h := textFrom_up r (k + 1) (acc ++ (if k > 0 then ", " else "" : String) ++ t)
    have e : (acc ++ (if k > 0 then ", " else "" : String) ++ t).length ≤ acc.length + 2 + t.length := by
      rw [strLen_append, strLen_append]
      split
      · show acc.length + 2 + t.length ≤ _
        omega
      · show acc.length + 0 + t.length ≤ _
        omega
    have z : piles (t :: r) = (t.length + 2) + piles r := rfl
    show (textFrom (k + 1) _ r).length ≤ _
    omega
theorem list_up (ts : List Str) : (listText ts).length ≤ piles ts + 2 := by
  have h := textFrom_up ts 0 "["
  have e : (Str.ofString "[").length = 1 := by decide
  have e2 : (Str.ofString "]").length = 1 := by decide
  unfold listText
  rw [strLen_append]
  have z : (textFrom 0 "[" ts).length ≤ 1 + piles ts := by
    rw [← e]
    exact h
  omega
theorem tuple_up (ts : List Str) : (tupleText ts).length ≤ piles ts + 5 := by
  unfold tupleText
  rw [strLen_append, strLen_append]
  have e1 : (Str.ofString "(").length = 1 := by decide
  have e2 : (Str.ofString ((if ts.length == 1 then ",)" else ")" : String))).length ≤ 2 := by split <;> decide
  have e3 : (Str.join ", " ts).length ≤ piles ts := by
    cases ts with
    | nil => exact Nat.zero_le _
    | cons t r =>
      have z := join_length_add (t :: r) (by simp)
      have y : piled (t :: r) = piles (t :: r) := rfl
      omega
  rw [e1]
  omega
theorem dict_up (ts : List Str) : (dictText ts).length ≤ piles ts + 5 := by
  unfold dictText
  rw [strLen_append, strLen_append]
  have e1 : (Str.ofString "{").length = 1 := by decide
  have e2 : (Str.ofString "}").length = 1 := by decide
  have e3 : (Str.join ", " ts).length ≤ piles ts := by
    cases ts with
    | nil => exact Nat.zero_le _
    | cons t r =>
      have z := join_length_add (t :: r) (by simp)
      have y : piled (t :: r) = piles (t :: r) := rfl
      omega
  omega
mutual
theorem shown_up : ∀ d : PyData, d.showable = true → d.shown.length ≤ sz d
  | .none, _ => by
    show (Str.ofString "None").length ≤ 10
    decide
  | .bool b, _ => by
    cases b
    · show (Str.ofString "False").length ≤ 10
      decide
    · show (Str.ofString "True").length ≤ 10
      decide
  | .int i, h => by
    have z : i.natAbs.log2 < 1920 := by simpa [PyData.showable] using h
    have y := int_text_len_1921 z
    show (Str.ofString (toString i)).length ≤ 2000
    omega
  | .str x, _ => Nat.le_refl _
  | .list xs, h => by
    have q := shown_ups xs (by simpa [PyData.showable] using h)
    have z := list_up (PyData.shownAll xs)
    have e : (PyData.list xs).shown = listText (PyData.shownAll xs) := by simp only [PyData.shown]
    rw [e]
    show _ ≤ szs xs + 5
    omega
  | .tuple xs, h => by
    have q := shown_ups xs (by simpa [PyData.showable] using h)
    have z := tuple_up (PyData.shownAll xs)
    have e : (PyData.tuple xs).shown = tupleText (PyData.shownAll xs) := by simp only [PyData.shown]
    rw [e]
    show _ ≤ szs xs + 5
    omega
  | .dict kvs, h => by
    have q := shown_upk kvs (by simpa [PyData.showable] using h)
    have z := dict_up (PyData.shownKv kvs)
    have e : (PyData.dict kvs).shown = dictText (PyData.shownKv kvs) := by simp only [PyData.shown]
    rw [e]
    show _ ≤ szk kvs + 5
    omega
theorem shown_ups : ∀ ds : List PyData, PyData.showableAll ds = true → piles (PyData.shownAll ds) ≤ szs ds
  | [], _ => by
    simp only [PyData.shownAll]
    exact Nat.le_refl _
  | d :: ds, h => by
    have z : d.showable = true ∧ PyData.showableAll ds = true := by simpa [PyData.showableAll] using h
    have h1 := shown_up d z.1
    have h2 := shown_ups ds z.2
    simp only [PyData.shownAll]
    show d.shown.length + 2 + piles (PyData.shownAll ds) ≤ sz d + 2 + szs ds
    omega
theorem shown_upk : ∀ kvs : List (PyData × PyData), PyData.showableKv kvs = true → piles (PyData.shownKv kvs) ≤ szk kvs
  | [], _ => by
    simp only [PyData.shownKv]
    exact Nat.le_refl _
  | (k, v) :: r, h => by
    have z : (k.showable = true ∧ v.showable = true) ∧ PyData.showableKv r = true := by simpa [PyData.showableKv] using h
    have h1 := shown_up k z.1.1
    have h2 := shown_up v z.1.2
    have h3 := shown_upk r z.2
    simp only [PyData.shownKv]
    show (k.shown ++ ": " ++ v.shown).length + 2 + piles (PyData.shownKv r) ≤ sz k + sz v + 4 + szk r
    rw [strLen_append, strLen_append]
    have e : (Str.ofString ": ").length = 2 := by decide
    omega
end
/-- data that may be printed: bounded ints, a bounded depth and a bounded text -/
structure Fine (d : PyData) : Prop where
  sh : d.showable = true
  dp : d.depth ≤ 100
  up : sz d ≤ 16000000
section
variable {X : Cx}
/-- repr(e) of data -/
def rRepr (K : PySem.W.Frag) : List V → Hp → VK → Prop := fun xs H Q => ∃ v d, xs = [v] ∧ Da K H v d ∧ Fine d ∧ Q (.str d.shown) H
theorem call_reprA (sm : ∃ mm, X.base.Ns sysModules mm) (gu : X.A.guards = some []) (hu : X.A.units + 200 < cLine) : CallR X (.builtin "repr") (rRepr X.K) := by
  intro pins s σ H xs us Q I r h
  obtain ⟨v, d, rfl, hd, hf, q⟩ := h
  obtain ⟨u, rfl, ru⟩ := vals1 r
  have up : d.shown.length ≤ sizeLine := Nat.le_trans (shown_up d hf.sh) (Nat.le_trans hf.up (by decide))
  obtain ⟨as, rd, hn⟩ := Da.reads sm I d v u hd ru
  have dp := hf.dp
  have big : wpAny (model X.prog X.w) X.A (call (.builtin "repr") [u]) (EP X pins σ Q) X.xe s := by
    cases rd with
    | none => exact PySem.P.repr_of_none ⟨.str _, H, I.tok _, ⟨_, rfl⟩, q⟩
    | bool b => exact PySem.P.repr_of_bool ⟨.str _, H, I.tok _, ⟨_, rfl⟩, q⟩
    | int i t => exact PySem.P.repr_of_int (by simpa [PyData.showable] using hf.sh) ⟨.str _, H, I.tok _, ⟨_, rfl⟩, q⟩
    | str x t => exact PySem.P.repr_of_str ⟨.str _, H, I.tok _, ⟨_, rfl⟩, q⟩ up
    | list h1 h2 h3 h4 =>
      exact repr_of_reads' (.list h1 h2 h3 h4) hf.sh (fun _ => hn) gu (by omega) (fun b o e => e) (fun h2 u2 tk k => ⟨.str _, H, I.kept k, ⟨_, rfl⟩, q⟩) up
    | tuple h1 h2 h3 h4 =>
      exact repr_of_reads' (.tuple h1 h2 h3 h4) hf.sh (fun _ => hn) gu (by omega) (fun b o e => e) (fun h2 u2 tk k => ⟨.str _, H, I.kept k, ⟨_, rfl⟩, q⟩) up
    | dict h1 h2 h3 h4 h5 =>
      exact repr_of_reads' (.dict h1 h2 h3 h4 h5) hf.sh (fun _ => hn) gu (by omega) (fun b o e => e) (fun h2 u2 tk k => ⟨.str _, H, I.kept k, ⟨_, rfl⟩, q⟩) up
  exact big
def rEqA (K : PySem.W.Frag) : R2 := fun x y H Q => ∃ d e, Da K H x d ∧ Da K H y e ∧ SeqAt.shaped d = true ∧ SeqAt.shaped e = true ∧ Q (.bl (PyData.eqv d e)) H
def rNeA (K : PySem.W.Frag) : R2 := fun x y H Q => ∃ d e, Da K H x d ∧ Da K H y e ∧ SeqAt.shaped d = true ∧ SeqAt.shaped e = true ∧ Q (.bl (!PyData.eqv d e)) H
theorem op_eqA (sm : ∃ mm, X.base.Ns sysModules mm) (hu : X.A.units + 64 < cLine) : OpR X (compareOp .Eq) (rEqA X.K) := by
  intro pins s σ H x y v u Q I rx ry h
  obtain ⟨d, e, hd, he, sd, se, q⟩ := h
  obtain ⟨as, r1, _⟩ := Da.reads sm I d x v hd rx
  obtain ⟨bs, r2, _⟩ := Da.reads sm I e y u he ry
  exact SeqAt.compareEq_shaped r1 r2 sd se hu ⟨.bl _, H, I, rfl, q⟩
theorem op_neA (sm : ∃ mm, X.base.Ns sysModules mm) (hu : X.A.units + 64 < cLine) : OpR X (compareOp .NotEq) (rNeA X.K) := by
  intro pins s σ H x y v u Q I rx ry h
  obtain ⟨d, e, hd, he, sd, se, q⟩ := h
  obtain ⟨as, r1, _⟩ := Da.reads sm I d x v hd rx
  obtain ⟨bs, r2, _⟩ := Da.reads sm I e y u he ry
  exact SeqAt.compareNe_shaped r1 r2 sd se hu ⟨.bl _, H, I, rfl, q⟩
end
end TD

set_option maxHeartbeats 4000000
/-! # G3: readings over data: what an expression, a test, a statement comes to where each slot holds known data.
B is the part of the heap H that is known to hold the data; what H holds besides (lists that somebody still changes) is not touched. -/
namespace TD
open PySem PySem.Spec PyProof.Rows L2
open Evl (Ex)
abbrev Fg := PySem.W.Frag

structure Le (B H B' H' : Hp) : Prop where
  ex : Ex H H'
  ek : Ex B B'
  sub : Ex B' H'
  old : ∀ a, B a = none → H a ≠ none → B' a = none
theorem Le.rfl' {B H : Hp} (s : Ex B H) : Le B H B H := ⟨Ex.refl H, Ex.refl B, s, fun _ h _ => h⟩
theorem Le.tr {B H B1 H1 B2 H2 : Hp} (a : Le B H B1 H1) (b : Le B1 H1 B2 H2) : Le B H B2 H2 :=
  ⟨a.ex.trans b.ex, a.ek.trans b.ek, b.sub, fun x h1 h2 => b.old x (a.old x h1 h2) (fun z => by
    cases q : H x with
    | none => exact h2 q
    | some o =>
      rw [a.ex x o q] at z
      cases z)⟩
theorem Le.new {B H : Hp} {p : Addr} {o : HO} (s : Ex B H) (h : H p = none) : Le B H (upd B p o) (upd H p o) where
  ex := Ex.new h
  ek := Ex.new (Evl.fresh_back s h)
  sub := fun a u e => by
    by_cases q : a = p
    · subst q
      rw [upd_same] at e ⊢
      exact e
    · rw [upd_ne q] at e ⊢
      exact s a u e
  old := fun a h1 h2 => by
    have q : a ≠ p := fun z => h2 (z ▸ h)
    rw [upd_ne q]
    exact h1

/-- slots that hold known data; none: nothing is known -/
abbrev En := List (Option PyData)
def SD (K : Fg) (B : Hp) (σ : L2.St) (ρ : En) : Prop := σ.length = ρ.length ∧ ∀ (i : Nat) (d : PyData), ρ[i]? = some (some d) → ∃ v, σ[i]? = some (some v) ∧ Da K B v d
theorem SD.up {K : Fg} {B B' : Hp} {σ : L2.St} {ρ : En} (e : Ex B B') (s : SD K B σ ρ) : SD K B' σ ρ := ⟨s.1, fun i d h => let ⟨v, a, b⟩ := s.2 i d h; ⟨v, a, b.ex e⟩⟩
theorem SD.put {K : Fg} {B : Hp} {σ : L2.St} {ρ : En} {v : V} {d : PyData} (s : SD K B σ ρ) (i : Nat) (h : Da K B v d) : SD K B (σ.set i (some v)) (ρ.set i (some d)) := by
  refine ⟨by rw [List.length_set, List.length_set]; exact s.1, fun j e hj => ?_⟩
  by_cases q : i = j
  · subst q
    by_cases l : i < ρ.length
    · rw [List.getElem?_set_self l] at hj
      cases hj
      exact ⟨v, List.getElem?_set_self (by rw [s.1]; exact l), h⟩
    · rw [List.getElem?_eq_none (by rw [List.length_set]; omega)] at hj
      cases hj
  · rw [List.getElem?_set_ne q] at hj
    obtain ⟨u, a, b⟩ := s.2 j e hj
    exact ⟨u, by rw [List.getElem?_set_ne q]; exact a, b⟩
/-- the block's own slots forgotten -/
def wipeD (ρ : En) : List Nat → En
  | [] => ρ
  | v :: vs => (wipeD ρ vs).set v none
theorem SD.drop {K : Fg} {B : Hp} {σ : L2.St} {ρ : En} (s : SD K B σ ρ) (i : Nat) (o : Option V) : SD K B (σ.set i o) (ρ.set i none) := by
  refine ⟨by rw [List.length_set, List.length_set]; exact s.1, fun j e hj => ?_⟩
  by_cases q : i = j
  · subst q
    by_cases l : i < ρ.length
    · rw [List.getElem?_set_self l] at hj
      cases hj
    · rw [List.getElem?_eq_none (by rw [List.length_set]; omega)] at hj
      cases hj
  · rw [List.getElem?_set_ne q] at hj
    obtain ⟨u, a, b⟩ := s.2 j e hj
    exact ⟨u, by rw [List.getElem?_set_ne q]; exact a, b⟩
theorem SD.wipe {K : Fg} {B : Hp} {σ : L2.St} {ρ : En} (s : SD K B σ ρ) : ∀ vs : List Nat, SD K B (L2.wipe σ vs) (wipeD ρ vs)
  | [] => s
  | v :: vs => (s.wipe vs).drop v none
theorem SD.less {K : Fg} {B : Hp} {σ : L2.St} {ρ ρ' : En} (s : SD K B σ ρ) (hl : ρ'.length = ρ.length) (h : ∀ (i : Nat) (d : PyData), ρ'[i]? = some (some d) → ρ[i]? = some (some d)) : SD K B σ ρ' :=
  ⟨s.1.trans hl.symm, fun i d e => s.2 i d (h i d e)⟩

/-! ### the judgements -/
section
variable (K : Fg)
def ED (te : TE) (ρ : En) (d : PyData) : Prop := ∀ σ B H, Ex B H → SD K B σ ρ → ∀ Q : VK, (∀ v B' H', Le B H B' H' → Da K B' v d → Q v H') → te σ H Q
def EA (ta : TA) (ρ : En) (ds : List PyData) : Prop := ∀ σ B H, Ex B H → SD K B σ ρ → ∀ Q : List V → Hp → Prop, (∀ vs B' H', Le B H B' H' → Das K B' vs ds → Q vs H') → ta σ H Q
def ET (tt : TT) (ρ : En) (b : Bool) : Prop := ∀ σ B H, Ex B H → SD K B σ ρ → ∀ Q : Bool → Hp → Prop, (∀ B' H', Le B H B' H' → Q b H') → tt σ H Q
/-- operations on values -/
def R2D (r : R2) (x y z : PyData) : Prop := ∀ v w B H, Ex B H → Da K B v x → Da K B w y → ∀ Q : VK, (∀ u B' H', Le B H B' H' → Da K B' u z → Q u H') → r v w H Q
def R1D (r : V → Hp → VK → Prop) (x z : PyData) : Prop := ∀ v B H, Ex B H → Da K B v x → ∀ Q : VK, (∀ u B' H', Le B H B' H' → Da K B' u z → Q u H') → r v H Q
def RcD (r : List V → Hp → VK → Prop) (xs : List PyData) (z : PyData) : Prop := ∀ vs B H, Ex B H → Das K B vs xs → ∀ Q : VK, (∀ u B' H', Le B H B' H' → Da K B' u z → Q u H') → r vs H Q
inductive Out where
  | nx (ρ : En) | ret (d : PyData) | br (ρ : En) | ct (ρ : En)
def Meet (D : Ends) (B H : Hp) : Out → Prop
  | .nx ρ => ∀ σ' B' H', Le B H B' H' → SD K B' σ' ρ → D.nx σ' H'
  | .ret d => ∀ v B' H', Le B H B' H' → Da K B' v d → D.rt v H'
  | .br ρ => ∀ σ' B' H', Le B H B' H' → SD K B' σ' ρ → D.bk σ' H'
  | .ct ρ => ∀ σ' B' H', Le B H B' H' → SD K B' σ' ρ → D.ct σ' H'
def XS (t : TS) (ρ : En) (o : Out) : Prop := ∀ σ B H (D : Ends), Ex B H → SD K B σ ρ → Meet K D B H o → t D σ H
/-- a target: data d bound to it -/
def TG_ (g : TG) (d : PyData) (ρ ρ' : En) : Prop := ∀ σ v B H, Ex B H → SD K B σ ρ → Da K B v d → ∀ Q : L2.St → Hp → Prop, (∀ σ' , SD K B σ' ρ' → Q σ' H) → g v σ H Q
/-- the promise of a def that only makes new things of its arguments: R tells what of what -/
def SpR (R : List PyData → PyData → Prop) : Sp := fun vs H Q _ => ∃ B ds d, Ex B H ∧ Das K B vs ds ∧ R ds d ∧ ∀ v B' H', Le B H B' H' → Da K B' v d → Q v H'
end
section
variable {K : Fg} {ρ ρ' ρ1 : En} {ta tb tc te : TE} {tt tu : TT} {t u : TS} {x y z d : PyData} {r : R2} {a b c : Bool} {o : Out} {g : TG}
theorem ed_var {i : Nat} (h : ρ[i]? = some (some d)) : ED K (tVar i) ρ d := fun σ B H s sd Q q =>
  let ⟨v, e, hd⟩ := sd.2 i d h
  ⟨v, e, q v B H (Le.rfl' s) hd⟩
theorem ed_int {i : Int} : ED K (tC (.int i)) ρ (.int i) := fun σ B H s _ Q q => q _ B H (Le.rfl' s) (.int i)
theorem ed_non : ED K (tC .non) ρ .none := fun σ B H s _ Q q => q _ B H (Le.rfl' s) .non
theorem ed_bl {i : Bool} : ED K (tC (.bl i)) ρ (.bool i) := fun σ B H s _ Q q => q _ B H (Le.rfl' s) (.bl i)
theorem ed_str {i : Str} : ED K (tC (.str i)) ρ (.str i) := fun σ B H s _ Q q => q _ B H (Le.rfl' s) (.str i)
theorem ed_op (ha : ED K ta ρ x) (hb : ED K tb ρ y) (hr : R2D K r x y z) : ED K (tOp r ta tb) ρ z := fun σ B H s sd Q q =>
  ha σ B H s sd _ fun v B1 H1 l1 d1 => hb σ B1 H1 l1.sub (sd.up l1.ek) _ fun w B2 H2 l2 d2 => hr v w B2 H2 l2.sub (d1.ex l2.ek) d2 Q fun u B3 H3 l3 d3 => q u B3 H3 ((l1.tr l2).tr l3) d3
theorem ed_un {r : V → Hp → VK → Prop} (ha : ED K ta ρ x) (hr : R1D K r x z) : ED K (tUn r ta) ρ z := fun σ B H s sd Q q =>
  ha σ B H s sd _ fun v B1 H1 l1 d1 => hr v B1 H1 l1.sub d1 Q fun u B3 H3 l3 d3 => q u B3 H3 (l1.tr l3) d3
theorem ed_is (h : ED K te ρ x) (e : x = y) : ED K te ρ y := e ▸ h
theorem et_is (h : ET K tt ρ a) (e : a = b) : ET K tt ρ b := e ▸ h
theorem ed_and (ha : ED K ta ρ (.bool a)) (hb : a = true → ED K tb ρ (.bool b)) : ED K (tAndV ta tb) ρ (.bool (a && b)) := fun σ B H s sd Q q =>
  ha σ B H s sd _ fun v B1 H1 l1 d1 => by
    cases d1
    refine ⟨a, rfl, ?_⟩
    cases a with
    | true =>
      show tb σ H1 Q
      exact hb rfl σ B1 H1 l1.sub (sd.up l1.ek) Q fun u B2 H2 l2 d2 => q u B2 H2 (l1.tr l2) d2
    | false =>
      show Q (.bl false) H1
      exact q _ B1 H1 l1 (.bl false)
theorem ed_or (ha : ED K ta ρ (.bool a)) (hb : a = false → ED K tb ρ (.bool b)) : ED K (tOrV ta tb) ρ (.bool (a || b)) := fun σ B H s sd Q q =>
  ha σ B H s sd _ fun v B1 H1 l1 d1 => by
    cases d1
    refine ⟨a, rfl, ?_⟩
    cases a with
    | false =>
      show tb σ H1 Q
      exact hb rfl σ B1 H1 l1.sub (sd.up l1.ek) Q fun u B2 H2 l2 d2 => q u B2 H2 (l1.tr l2) d2
    | true =>
      show Q (.bl true) H1
      exact q _ B1 H1 l1 (.bl true)
theorem ed_not (ha : ED K ta ρ (.bool a)) : ED K (tNotV ta) ρ (.bool (!a)) := fun σ B H s sd Q q =>
  ha σ B H s sd _ fun v B1 H1 l1 d1 => by
    cases d1
    exact ⟨a, rfl, q _ B1 H1 l1 (.bl _)⟩
theorem ed_if (h : ET K tt ρ b) (h1 : b = true → ED K ta ρ d) (h2 : b = false → ED K tb ρ d) : ED K (tIf tt ta tb) ρ d := fun σ B H s sd Q q =>
  h σ B H s sd _ fun B1 H1 l1 => by
    cases b with
    | true =>
      show ta σ H1 Q
      exact h1 rfl σ B1 H1 l1.sub (sd.up l1.ek) Q fun u B2 H2 l2 d2 => q u B2 H2 (l1.tr l2) d2
    | false =>
      show tb σ H1 Q
      exact h2 rfl σ B1 H1 l1.sub (sd.up l1.ek) Q fun u B2 H2 l2 d2 => q u B2 H2 (l1.tr l2) d2
theorem et_test (h : ED K te ρ (.bool b)) : ET K (tTest te) ρ b := fun σ B H s sd Q q => h σ B H s sd _ fun v B1 H1 l1 d1 => by
  cases d1
  exact ⟨b, rfl, q B1 H1 l1⟩
theorem et_B (h : ED K te ρ (.bool b)) : ET K (tB te) ρ b := fun σ B H s sd Q q => h σ B H s sd _ fun v B1 H1 l1 d1 => by
  cases d1
  exact ⟨b, rfl, q B1 H1 l1⟩
theorem et_and (h1 : ET K tt ρ a) (h2 : a = true → ET K tu ρ b) : ET K (tAnd tt tu) ρ (a && b) := fun σ B H s sd Q q => h1 σ B H s sd _ fun B1 H1 l1 => by
  cases a with
  | true =>
    show tu σ H1 Q
    exact h2 rfl σ B1 H1 l1.sub (sd.up l1.ek) Q fun B2 H2 l2 => q B2 H2 (l1.tr l2)
  | false =>
    show Q false H1
    exact q B1 H1 l1
theorem et_or (h1 : ET K tt ρ a) (h2 : a = false → ET K tu ρ b) : ET K (tOr tt tu) ρ (a || b) := fun σ B H s sd Q q => h1 σ B H s sd _ fun B1 H1 l1 => by
  cases a with
  | false =>
    show tu σ H1 Q
    exact h2 rfl σ B1 H1 l1.sub (sd.up l1.ek) Q fun B2 H2 l2 => q B2 H2 (l1.tr l2)
  | true =>
    show Q true H1
    exact q B1 H1 l1
theorem et_not (h : ET K tt ρ a) : ET K (tNot tt) ρ (!a) := fun σ B H s sd Q q => h σ B H s sd _ fun B1 H1 l1 => q B1 H1 l1
theorem ea_nil : EA K tNil ρ [] := fun σ B H s sd Q q => q [] B H (Le.rfl' s) .nil
theorem ea_cons {tr : TA} {ds : List PyData} (h : ED K ta ρ x) (hr : EA K tr ρ ds) : EA K (tCons ta tr) ρ (x :: ds) := fun σ B H s sd Q q =>
  h σ B H s sd _ fun v B1 H1 l1 d1 => hr σ B1 H1 l1.sub (sd.up l1.ek) _ fun vs B2 H2 l2 d2 => q (v :: vs) B2 H2 (l1.tr l2) (.cons (d1.ex l2.ek) d2)
theorem das_big {B : Hp} {vs : List V} {ds : List PyData} (h : Das K B vs ds) (hl : ds.length ≤ 100000) : vs.length ≤ sizeLine := by
  rw [h.len]
  exact Evl.sz_of hl
theorem ed_tup {tl : TA} {ds : List PyData} (h : EA K tl ρ ds) (hl : ds.length ≤ 100000 := by first | decide | omega) : ED K (tTup tl) ρ (.tuple ds) := fun σ B H s sd Q q =>
  h σ B H s sd _ fun vs B1 H1 l1 d1 => ⟨das_big d1 hl, fun p hp => q _ _ _ (l1.tr (Le.new l1.sub hp)) (.tup upd_same (d1.ex (Le.new (o := .tup vs) l1.sub hp).ek))⟩
theorem ed_lst {tl : TA} {ds : List PyData} (h : EA K tl ρ ds) (hl : ds.length ≤ 100000 := by first | decide | omega) : ED K (tLst tl) ρ (.list ds) := fun σ B H s sd Q q =>
  h σ B H s sd _ fun vs B1 H1 l1 d1 => ⟨das_big d1 hl, fun p hp => q _ _ _ (l1.tr (Le.new l1.sub hp)) (.lst upd_same (d1.ex (Le.new (o := .lst vs) l1.sub hp).ek))⟩
theorem ed_cb {rc : List V → Hp → VK → Prop} {tl : TA} {ds : List PyData} (h : EA K tl ρ ds) (hr : RcD K rc ds z) : ED K (tCB rc tl) ρ z := fun σ B H s sd Q q =>
  h σ B H s sd _ fun vs B1 H1 l1 d1 => hr vs B1 H1 l1.sub d1 Q fun u B2 H2 l2 d2 => q u B2 H2 (l1.tr l2) d2
theorem ed_call {R : List PyData → PyData → Prop} {E : XK} {tl : TA} {ds : List PyData} (h : EA K tl ρ ds) (hR : R ds z) : ED K (tCall (SpR K R) [] E tl) ρ z := fun σ B H s sd Q q =>
  h σ B H s sd _ fun vs B1 H1 l1 d1 => by
    show SpR K R (vs ++ []) H1 Q E
    rw [List.append_nil]
    exact ⟨B1, ds, z, l1.sub, d1, hR, fun u B2 H2 l2 d2 => q u B2 H2 (l1.tr l2) d2⟩
theorem ed_callk {R : List PyData → PyData → Prop} {E : XK} {tl : TA} {n : Nat} {gV : List V → List V} {ds es : List PyData} (h : EA K tl ρ ds) (hn : ds.length = n) (hg : ∀ (B : Hp) (vs : List V), Das K B vs ds → Das K B (gV vs) es) (hR : R es z) : ED K (tCallKw n (SpR K R) gV E tl) ρ z := fun σ B H s sd Q q =>
  h σ B H s sd _ fun vs B1 H1 l1 d1 => ⟨d1.len.trans hn, B1, es, z, l1.sub, hg B1 vs d1, hR, fun u B2 H2 l2 d2 => q u B2 H2 (l1.tr l2) d2⟩
/-! ### statements -/
theorem Meet.back {D : Ends} {B H B1 H1 : Hp} (l : Le B H B1 H1) : ∀ {o : Out}, Meet K D B H o → Meet K D B1 H1 o
  | .nx _, m => fun σ' B' H' l' s => m σ' B' H' (l.tr l') s
  | .ret _, m => fun v B' H' l' s => m v B' H' (l.tr l') s
  | .br _, m => fun σ' B' H' l' s => m σ' B' H' (l.tr l') s
  | .ct _, m => fun σ' B' H' l' s => m σ' B' H' (l.tr l') s
theorem xs_next : XS K tNext ρ (.nx ρ) := fun σ B H D s sd m => m σ B H (Le.rfl' s) sd
theorem xs_ret (h : ED K te ρ d) : XS K (tRet te) ρ (.ret d) := fun σ B H D s sd m => h σ B H s sd _ m
theorem xs_asgG (h : ED K te ρ d) (hg : TG_ K g d ρ ρ') : XS K (tAsg te g) ρ (.nx ρ') := fun σ B H D s sd m =>
  h σ B H s sd _ fun v B1 H1 l1 d1 => hg σ v B1 H1 l1.sub (sd.up l1.ek) d1 _ fun σ' s' => m σ' B1 H1 l1 s'
theorem tg_name {i : Nat} : TG_ K (gName i) d ρ (ρ.set i (some d)) := fun σ v B H s sd hd Q q => q _ (sd.put i hd)
theorem xs_asg {i : Nat} (h : ED K te ρ d) : XS K (tAsg te (gName i)) ρ (.nx (ρ.set i (some d))) := xs_asgG h tg_name
theorem xs_drop (h : ED K te ρ d) : XS K (tDrop te) ρ (.nx ρ) := fun σ B H D s sd m => h σ B H s sd _ fun v B1 H1 l1 _ => m σ B1 H1 l1 (sd.up l1.ek)
theorem xs_if (h : ET K tt ρ b) (h1 : b = true → XS K t ρ o) (h2 : b = false → XS K u ρ o) : XS K (tIfS tt t u) ρ o := fun σ B H D s sd m =>
  h σ B H s sd _ fun B1 H1 l1 => by
    cases b with
    | true =>
      show t D σ H1
      exact h1 rfl σ B1 H1 D l1.sub (sd.up l1.ek) (m.back l1)
    | false =>
      show u D σ H1
      exact h2 rfl σ B1 H1 D l1.sub (sd.up l1.ek) (m.back l1)
theorem xs_seq (h1 : XS K t ρ (.nx ρ1)) (h2 : XS K u ρ1 o) : XS K (tSeq t u) ρ o := fun σ B H D s sd m =>
  h1 σ B H _ s sd fun σ' B' H' l s' => h2 σ' B' H' D l.sub s' (m.back l)
/-- a statement that leaves the block -/
def Out.leaves : Out → Prop
  | .nx _ => False
  | _ => True
theorem xs_leave (h1 : XS K t ρ o) (hl : o.leaves) : XS K (tSeq t u) ρ o := fun σ B H D s sd m => by
  refine h1 σ B H _ s sd ?_
  cases o with
  | nx _ => exact hl.elim
  | ret _ => exact m
  | br _ => exact m
  | ct _ => exact m
theorem xs_is {o' : Out} (h : XS K t ρ o) (e : o = o') : XS K t ρ o' := e ▸ h
theorem xs_less (hl : ρ'.length = ρ.length) (hs : ∀ (i : Nat) (d : PyData), ρ'[i]? = some (some d) → ρ[i]? = some (some d)) (h : XS K t ρ' o) : XS K t ρ o := fun σ B H D s sd m => h σ B H D s (sd.less hl hs) m
/-! ### loops over what stands in a list, a tuple, a range -/
/-- the turns over the data that is left -/
inductive XF (K : Fg) (g : TG) (tb : TS) : List PyData → En → Out → Prop
  | nil {ρ : En} : XF K g tb [] ρ (.nx ρ)
  | go {d : PyData} {ds : List PyData} {ρ ρ0 ρ1 : En} {o : Out} : TG_ K g d ρ ρ0 → XS K tb ρ0 (.nx ρ1) → XF K g tb ds ρ1 o → XF K g tb (d :: ds) ρ o
  | goC {d : PyData} {ds : List PyData} {ρ ρ0 ρ1 : En} {o : Out} : TG_ K g d ρ ρ0 → XS K tb ρ0 (.ct ρ1) → XF K g tb ds ρ1 o → XF K g tb (d :: ds) ρ o
  | ret {d e : PyData} {ds : List PyData} {ρ ρ0 : En} : TG_ K g d ρ ρ0 → XS K tb ρ0 (.ret e) → XF K g tb (d :: ds) ρ (.ret e)
  | brk {d : PyData} {ds : List PyData} {ρ ρ0 ρ1 : En} : TG_ K g d ρ ρ0 → XS K tb ρ0 (.br ρ1) → XF K g tb (d :: ds) ρ (.nx ρ1)
/-- one turn of such a run, at any place of it -/
theorem xf_turn {tb : TS} {D : Ends} {B H : Hp} (m : Meet K D B H o) {dx : PyData} {ds : List PyData} {ρ : En} (f : XF K g tb (dx :: ds) ρ o) {σ' : L2.St} {B' H' : Hp} {v : V} (l : Le B H B' H') (sd : SD K B' σ' ρ) (hd : Da K B' v dx)
    {N : L2.St → Hp → Prop} (hN : ∀ ρ1 σ1 B1 H1, XF K g tb ds ρ1 o → Le B H B1 H1 → SD K B1 σ1 ρ1 → N σ1 H1) :
    g v σ' H' fun σ2 H2 => tb { D with nx := N, ct := N, bk := D.nx } σ2 H2 := by
  cases f with
  | go hg hx hr => exact hg σ' v B' H' l.sub sd hd _ fun σ2 s2 => hx σ2 B' H' _ l.sub s2 fun σ3 B3 H3 l3 s3 => hN _ σ3 B3 H3 hr (l.tr l3) s3
  | goC hg hx hr => exact hg σ' v B' H' l.sub sd hd _ fun σ2 s2 => hx σ2 B' H' _ l.sub s2 fun σ3 B3 H3 l3 s3 => hN _ σ3 B3 H3 hr (l.tr l3) s3
  | ret hg hx => exact hg σ' v B' H' l.sub sd hd _ fun σ2 s2 => hx σ2 B' H' _ l.sub s2 fun v3 B3 H3 l3 d3 => m v3 B3 H3 (l.tr l3) d3
  | brk hg hx => exact hg σ' v B' H' l.sub sd hd _ fun σ2 s2 => hx σ2 B' H' _ l.sub s2 fun σ3 B3 H3 l3 s3 => m σ3 B3 H3 (l.tr l3) s3
theorem drop_cons {α : Type} {ds : List α} {i : Nat} {e : α} (h : ds[i]? = some e) : ds.drop i = e :: ds.drop (i + 1) := by
  obtain ⟨hi, e1⟩ := List.getElem?_eq_some_iff.mp h
  rw [List.drop_eq_getElem_cons hi, e1]
theorem drop_all {α : Type} {ds : List α} {i : Nat} (h : ds.length ≤ i) : ds.drop i = [] := List.drop_of_length_le h
theorem xs_forL {tl : TE} {tb : TS} {ds : List PyData} (h : ED K tl ρ (.list ds)) (f : XF K g tb ds ρ o) : XS K (tFor (iList K tl) g tb) ρ o := fun σ B H D s sd m =>
  h σ B H s sd _ fun v B1 H1 l1 d1 => by
    cases d1 with
    | @lst p xs _ hs ha =>
      have hs' : SqL K H1 p xs := Evl.sq_of (l1.sub _ _ hs)
      refine ⟨p, rfl, ⟨xs, hs'⟩, ?_⟩
      refine for_list (K := K) (a := p) (xs := xs) (fun i σ' H' => ∃ B' ρ', XF K g tb (ds.drop i) ρ' o ∧ Le B1 H1 B' H' ∧ SD K B' σ' ρ') ⟨B1, ρ, by rw [List.drop_zero]; exact f, Le.rfl' l1.sub, sd.up l1.ek⟩
        (fun i σ' H' _ ⟨B', _, _, l, _⟩ => Evl.ex_l l.ex hs') (fun i v σ' H' hi ⟨B', ρ', f', l, s'⟩ => ?_) (fun σ' H' ⟨B', ρ', f', l, s'⟩ => ?_)
      · obtain ⟨e, he, hv⟩ := ha.get hi
        rw [drop_cons he] at f'
        exact xf_turn (m.back l1) f' l s' (hv.ex l.ek) fun ρ2 σ2 B2 H2 f2 l2 s2 => ⟨B2, ρ2, f2, l2, s2⟩
      · rw [drop_all (by rw [ha.len]; omega)] at f'
        cases f' with
        | nil => exact m σ' B' H' (l1.tr l) s'
theorem xs_forT {tl : TE} {tb : TS} {ds : List PyData} (h : ED K tl ρ (.tuple ds)) (f : XF K g tb ds ρ o) : XS K (tFor (iTup K tl) g tb) ρ o := fun σ B H D s sd m =>
  h σ B H s sd _ fun v B1 H1 l1 d1 => by
    cases d1 with
    | @tup p xs _ hs ha =>
      have hs' : SqT K H1 p xs := Evl.st_of (l1.sub _ _ hs)
      refine ⟨p, rfl, ⟨xs, hs'⟩, ?_⟩
      refine for_tup (K := K) (a := p) (xs := xs) (fun i σ' H' => ∃ B' ρ', XF K g tb (ds.drop i) ρ' o ∧ Le B1 H1 B' H' ∧ SD K B' σ' ρ') ⟨B1, ρ, by rw [List.drop_zero]; exact f, Le.rfl' l1.sub, sd.up l1.ek⟩
        (fun i σ' H' _ ⟨B', _, _, l, _⟩ => Evl.ex_t l.ex hs') (fun i v σ' H' hi ⟨B', ρ', f', l, s'⟩ => ?_) (fun σ' H' ⟨B', ρ', f', l, s'⟩ => ?_)
      · obtain ⟨e, he, hv⟩ := ha.get hi
        rw [drop_cons he] at f'
        exact xf_turn (m.back l1) f' l s' (hv.ex l.ek) fun ρ2 σ2 B2 H2 f2 l2 s2 => ⟨B2, ρ2, f2, l2, s2⟩
      · rw [drop_all (by rw [ha.len]; omega)] at f'
        cases f' with
        | nil => exact m σ' B' H' (l1.tr l) s'
/-- lo, lo + 1, .. n of them -/
def rgD (lo : Int) (n : Nat) : List PyData := (List.range n).map fun (i : Nat) => PyData.int (lo + (i : Int))
theorem rgD_get {lo : Int} {n i : Nat} (h : i < n) : (rgD lo n)[i]? = some (.int (lo + (i : Int))) := by
  unfold rgD
  rw [List.getElem?_map, List.getElem?_range h]
  rfl
theorem rgD_len (lo : Int) (n : Nat) : (rgD lo n).length = n := by
  unfold rgD
  rw [List.length_map, List.length_range]
theorem for_rngD {D : Ends} {σ : L2.St} {B H : Hp} {tb : TS} {lo : Int} {n : Nat} (s : Ex B H) (sd : SD K B σ ρ) (m : Meet K D B H o) (f : XF K g tb (rgD lo n) ρ o) :
    ∃ W : Nat → Nat → L2.St → Hp → Prop, (∃ m, W 0 m σ H) ∧ ∀ i m σ H, W i m σ H →
      ((Itr lo n).stop i H ∧ D.nx σ H) ∨ ((Itr lo n).go i H ∧ ∃ N : L2.St → Hp → Prop, (∀ σ' H', N σ' H' → ∃ m', m' < m ∧ W (i + 1) m' σ' H') ∧ ∀ x H', (Itr lo n).yld i H x H' → g x σ H' fun σ2 H2 => tb { D with nx := N, ct := N, bk := D.nx } σ2 H2) := by
  refine for_range (lo := lo) (n := n) (fun i σ' H' => ∃ B' ρ', XF K g tb ((rgD lo n).drop i) ρ' o ∧ Le B H B' H' ∧ SD K B' σ' ρ') ⟨B, ρ, by rw [List.drop_zero]; exact f, Le.rfl' s, sd⟩
    (fun i σ' H' hi ⟨B', ρ', f', l, s'⟩ => ?_) (fun σ' H' ⟨B', ρ', f', l, s'⟩ => ?_)
  · rw [drop_cons (rgD_get hi)] at f'
    exact xf_turn m f' l s' (.int _) fun ρ2 σ2 B2 H2 f2 l2 s2 => ⟨B2, ρ2, f2, l2, s2⟩
  · rw [drop_all (by rw [rgD_len]; omega)] at f'
    cases f' with
    | nil => exact m σ' B' H' l s'
theorem xs_forR1 {tl : TA} {tb : TS} {n : Int} (h : EA K tl ρ [.int n]) (hn : -1000000 ≤ n ∧ n ≤ 1000000) (f : XF K g tb (rgD 0 n.toNat) ρ o) : XS K (tFor (iRng1 tl) g tb) ρ o := fun σ B H D s sd m =>
  h σ B H s sd _ fun vs B1 H1 l1 d1 => by
    cases d1 with
    | cons h1 h2 =>
      cases h1
      cases h2
      exact ⟨n, rfl, by omega, by omega, for_rngD l1.sub (sd.up l1.ek) (m.back l1) f⟩
theorem xs_forR2 {tl : TA} {tb : TS} {lo n : Int} (h : EA K tl ρ [.int lo, .int n]) (hn : -1000000 ≤ lo ∧ lo ≤ 1000000 ∧ -1000000 ≤ n ∧ n ≤ 1000000) (f : XF K g tb (rgD lo (n - lo).toNat) ρ o) : XS K (tFor (iRng2 tl) g tb) ρ o := fun σ B H D s sd m =>
  h σ B H s sd _ fun vs B1 H1 l1 d1 => by
    cases d1 with
    | cons h1 h2 =>
      cases h1
      cases h2 with
      | cons h2 h3 =>
        cases h2
        cases h3
        exact ⟨lo, n, rfl, ⟨by omega, by omega, by omega, by omega⟩, for_rngD l1.sub (sd.up l1.ek) (m.back l1) f⟩
end
end TD

set_option maxHeartbeats 4000000
/-! # G4: operations on data: numbers, tests of kinds, items, lists put together, comprehensions -/
namespace TD
open PySem PySem.Spec PyProof.Rows L2
open Evl (Ex)
section
variable {K : Fg} {ρ ρ' : En} {ta tb tc te : TE} {tt : TT} {x y z d : PyData} {a b c : Bool} {i j k : Int}
theorem r_I0 {g : Int → Int → V} {gd : PyData} (h : ∀ B, Da K B (g i j) gd) : R2D K (rI0 g) (.int i) (.int j) gd := fun v w B H s h1 h2 Q q => by
  cases h1
  cases h2
  exact ⟨i, j, rfl, rfl, q _ B H (Le.rfl' s) (h B)⟩
theorem r_Ii {g : Int → Int → Int} : R2D K (rI0 fun i j => .int (g i j)) (.int i) (.int j) (.int (g i j)) := r_I0 fun _ => .int _
theorem r_Ib {g : Int → Int → Bool} : R2D K (rI0 fun i j => .bl (g i j)) (.int i) (.int j) (.bool (g i j)) := r_I0 fun _ => .bl _
theorem r_IC {C : Int → Int → Prop} {g : Int → Int → Int} (h : C i j) : R2D K (rI C fun i j => .int (g i j)) (.int i) (.int j) (.int (g i j)) := fun v w B H s h1 h2 Q q => by
  cases h1
  cases h2
  exact ⟨i, j, rfl, rfl, h, q _ B H (Le.rfl' s) (.int _)⟩
theorem r_eqI : R2D K rEq (.int i) (.int j) (.bool (decide (i = j))) := fun v w B H s h1 h2 Q q => by
  cases h1
  cases h2
  have e : decide (V.int i = V.int j) = decide (i = j) := by
    rw [dec_int]
    exact (Bool.beq_eq_decide_eq i j)
  exact ⟨rfl, by rw [e]; exact q _ B H (Le.rfl' s) (.bl _)⟩
theorem r_neI : R2D K rNe (.int i) (.int j) (.bool (!decide (i = j))) := fun v w B H s h1 h2 Q q => by
  cases h1
  cases h2
  have e : decide (V.int i = V.int j) = decide (i = j) := by
    rw [dec_int]
    exact (Bool.beq_eq_decide_eq i j)
  exact ⟨rfl, by rw [e]; exact q _ B H (Le.rfl' s) (.bl _)⟩
theorem r_eqB : R2D K rEq (.bool a) (.bool b) (.bool (a == b)) := fun v w B H s h1 h2 Q q => by
  cases h1
  cases h2
  exact ⟨rfl, by rw [dec_bl]; exact q _ B H (Le.rfl' s) (.bl _)⟩
theorem r_neS {u w' : Str} : R2D K rNe (.str u) (.str w') (.bool (!decide (u = w'))) := fun v w B H s h1 h2 Q q => by
  cases h1
  cases h2
  have e : decide (V.str u = V.str w') = decide (u = w') := by
    by_cases h : u = w'
    · rw [h]
      simp
    · rw [decide_eq_false h, decide_eq_false (fun z => h (V.str.inj z))]
  exact ⟨rfl, by rw [e]; exact q _ B H (Le.rfl' s) (.bl _)⟩
theorem r_eqS {u w' : Str} : R2D K rEq (.str u) (.str w') (.bool (decide (u = w'))) := fun v w B H s h1 h2 Q q => by
  cases h1
  cases h2
  have e : decide (V.str u = V.str w') = decide (u = w') := by
    by_cases h : u = w'
    · rw [h]
      simp
    · rw [decide_eq_false h, decide_eq_false (fun z => h (V.str.inj z))]
  exact ⟨rfl, by rw [e]; exact q _ B H (Le.rfl' s) (.bl _)⟩
theorem r_eqA (h1 : SeqAt.shaped x = true) (h2 : SeqAt.shaped y = true) : R2D K (rEqA K) x y (.bool (PyData.eqv x y)) := fun v w B H s dx dy Q q =>
  ⟨x, y, dx.ex s, dy.ex s, h1, h2, q _ B H (Le.rfl' s) (.bl _)⟩
theorem r_neA (h1 : SeqAt.shaped x = true) (h2 : SeqAt.shaped y = true) : R2D K (rNeA K) x y (.bool (!PyData.eqv x y)) := fun v w B H s dx dy Q q =>
  ⟨x, y, dx.ex s, dy.ex s, h1, h2, q _ B H (Le.rfl' s) (.bl _)⟩
theorem r1_neg : R1D K (rU fun i => .int (-i)) (.int i) (.int (-i)) := fun v B H s h Q q => by
  cases h
  exact ⟨i, rfl, q _ B H (Le.rfl' s) (.int _)⟩
theorem ed_neg1 : ED K (tUn (rU fun i => .int (-i)) (tC (.int 1))) ρ (.int (-1)) := ed_un ed_int r1_neg
/-- a < b < c -/
theorem ed_chain {r r' : R2} (ha : ED K ta ρ x) (hb : ED K tb ρ y) (hr : R2D K r x y (.bool a)) (hc : a = true → ED K tc ρ z) (hr' : a = true → R2D K r' y z (.bool b)) : ED K (tChain r r' ta tb tc) ρ (.bool (a && b)) := fun σ B H s sd Q q =>
  ha σ B H s sd _ fun v B1 H1 l1 d1 => hb σ B1 H1 l1.sub (sd.up l1.ek) _ fun w B2 H2 l2 d2 => hr v w B2 H2 l2.sub (d1.ex l2.ek) d2 _ fun u B3 H3 l3 d3 => by
    cases d3
    refine ⟨a, rfl, ?_⟩
    cases a with
    | true =>
      show tc σ H3 _
      refine hc rfl σ B3 H3 l3.sub (sd.up ((l1.tr l2).tr l3).ek) _ fun u B4 H4 l4 d4 => ?_
      exact hr' rfl w u B4 H4 l4.sub (d2.ex (l3.tr l4).ek) d4 Q fun u B5 H5 l5 d5 => q u B5 H5 ((((l1.tr l2).tr l3).tr l4).tr l5) d5
    | false =>
      show Q (.bl false) H3
      exact q _ B3 H3 ((l1.tr l2).tr l3) (.bl false)
/-! ### kinds -/
def isT (T : String) : PyData → Bool
  | .none => T == "NoneType"
  | .bool _ => T == "bool" || T == "int"
  | .int _ => T == "int"
  | .str _ => T == "str"
  | .list _ => T == "list"
  | .tuple _ => T == "tuple"
  | .dict _ => T == "dict"
def tyName : PyData → String
  | .none => "NoneType"
  | .bool _ => "bool"
  | .int _ => "int"
  | .str _ => "str"
  | .list _ => "list"
  | .tuple _ => "tuple"
  | .dict _ => "dict"
theorem da_ty {B : Hp} {v : V} (h : Da K B v d) : TyX K B v (.type (tyName d)) := by
  cases h with
  | non => exact .base .non
  | bl b => exact .base (.bl b)
  | int i => exact .base (.int i)
  | str x => exact .base (.str x)
  | lst h _ => exact .base (.lst h)
  | tup h _ => exact .base (.tup h)
  | dic h _ => exact .base (.dK h)
theorem kit_int : ∀ d : PyData, PySem.W.kitOne K (.type (tyName d)) (.type "int") = some (isT "int" d)
  | .none => (kit_ty (a := "NoneType") (b := "int") (r := false) (by decide +kernel))
  | .bool _ => (kit_ty (a := "bool") (b := "int") (r := true) (by decide +kernel))
  | .int _ => (kit_ty (a := "int") (b := "int") (r := true) (by decide +kernel))
  | .str _ => (kit_ty (a := "str") (b := "int") (r := false) (by decide +kernel))
  | .list _ => (kit_ty (a := "list") (b := "int") (r := false) (by decide +kernel))
  | .tuple _ => (kit_ty (a := "tuple") (b := "int") (r := false) (by decide +kernel))
  | .dict _ => (kit_ty (a := "dict") (b := "int") (r := false) (by decide +kernel))
theorem kit_bool : ∀ d : PyData, PySem.W.kitOne K (.type (tyName d)) (.type "bool") = some (isT "bool" d)
  | .none => (kit_ty (a := "NoneType") (b := "bool") (r := false) (by decide +kernel))
  | .bool _ => (kit_ty (a := "bool") (b := "bool") (r := true) (by decide +kernel))
  | .int _ => (kit_ty (a := "int") (b := "bool") (r := false) (by decide +kernel))
  | .str _ => (kit_ty (a := "str") (b := "bool") (r := false) (by decide +kernel))
  | .list _ => (kit_ty (a := "list") (b := "bool") (r := false) (by decide +kernel))
  | .tuple _ => (kit_ty (a := "tuple") (b := "bool") (r := false) (by decide +kernel))
  | .dict _ => (kit_ty (a := "dict") (b := "bool") (r := false) (by decide +kernel))
theorem kit_list : ∀ d : PyData, PySem.W.kitOne K (.type (tyName d)) (.type "list") = some (isT "list" d)
  | .none => (kit_ty (a := "NoneType") (b := "list") (r := false) (by decide +kernel))
  | .bool _ => (kit_ty (a := "bool") (b := "list") (r := false) (by decide +kernel))
  | .int _ => (kit_ty (a := "int") (b := "list") (r := false) (by decide +kernel))
  | .str _ => (kit_ty (a := "str") (b := "list") (r := false) (by decide +kernel))
  | .list _ => (kit_ty (a := "list") (b := "list") (r := true) (by decide +kernel))
  | .tuple _ => (kit_ty (a := "tuple") (b := "list") (r := false) (by decide +kernel))
  | .dict _ => (kit_ty (a := "dict") (b := "list") (r := false) (by decide +kernel))
theorem kit_tuple : ∀ d : PyData, PySem.W.kitOne K (.type (tyName d)) (.type "tuple") = some (isT "tuple" d)
  | .none => (kit_ty (a := "NoneType") (b := "tuple") (r := false) (by decide +kernel))
  | .bool _ => (kit_ty (a := "bool") (b := "tuple") (r := false) (by decide +kernel))
  | .int _ => (kit_ty (a := "int") (b := "tuple") (r := false) (by decide +kernel))
  | .str _ => (kit_ty (a := "str") (b := "tuple") (r := false) (by decide +kernel))
  | .list _ => (kit_ty (a := "list") (b := "tuple") (r := false) (by decide +kernel))
  | .tuple _ => (kit_ty (a := "tuple") (b := "tuple") (r := true) (by decide +kernel))
  | .dict _ => (kit_ty (a := "dict") (b := "tuple") (r := false) (by decide +kernel))
theorem kit_str : ∀ d : PyData, PySem.W.kitOne K (.type (tyName d)) (.type "str") = some (isT "str" d)
  | .none => (kit_ty (a := "NoneType") (b := "str") (r := false) (by decide +kernel))
  | .bool _ => (kit_ty (a := "bool") (b := "str") (r := false) (by decide +kernel))
  | .int _ => (kit_ty (a := "int") (b := "str") (r := false) (by decide +kernel))
  | .str _ => (kit_ty (a := "str") (b := "str") (r := true) (by decide +kernel))
  | .list _ => (kit_ty (a := "list") (b := "str") (r := false) (by decide +kernel))
  | .tuple _ => (kit_ty (a := "tuple") (b := "str") (r := false) (by decide +kernel))
  | .dict _ => (kit_ty (a := "dict") (b := "str") (r := false) (by decide +kernel))
theorem kitT {T : String} (hT : T = "int" ∨ T = "bool" ∨ T = "list" ∨ T = "tuple" ∨ T = "str") : PySem.W.kitOne K (.type (tyName d)) (.type T) = some (isT T d) := by
  rcases hT with rfl | rfl | rfl | rfl | rfl
  · exact kit_int d
  · exact kit_bool d
  · exact kit_list d
  · exact kit_tuple d
  · exact kit_str d
theorem ed_isi {T : String} (h : ED K te ρ d) (hT : T = "int" ∨ T = "bool" ∨ T = "list" ∨ T = "tuple" ∨ T = "str" := by simp) : ED K (tCB (rIsi K) (tCons te (tCons (tC (.ty T)) tNil))) ρ (.bool (isT T d)) := fun σ B H s sd Q q =>
  h σ B H s sd _ fun v B1 H1 l1 d1 => ⟨v, .ty T, _, _, isT T d, rfl, .ty T, da_ty (d1.ex l1.sub), kitT hT, q _ B1 H1 l1 (.bl _)⟩
/-! ### len, items -/
def rLen (K : Fg) : List V → Hp → VK → Prop := fun xs H Q => ∃ p ys, xs = [.ref p] ∧ (SqL K H p ys ∨ SqT K H p ys) ∧ Q (.int ys.length) H
theorem rc_lenL {ds : List PyData} : RcD K (rLen K) [.list ds] (.int ds.length) := fun vs B H s h Q q => by
  cases h with
  | cons h1 h2 =>
    cases h2
    cases h1 with
    | lst ha hs => exact ⟨_, _, rfl, .inl (SqL.of (s _ _ ha)), by rw [hs.len]; exact q _ B H (Le.rfl' s) (.int _)⟩
theorem rc_lenT {ds : List PyData} : RcD K (rLen K) [.tuple ds] (.int ds.length) := fun vs B H s h Q q => by
  cases h with
  | cons h1 h2 =>
    cases h2
    cases h1 with
    | tup ha hs => exact ⟨_, _, rfl, .inr (SqT.of (s _ _ ha)), by rw [hs.len]; exact q _ B H (Le.rfl' s) (.int _)⟩
theorem r_ixL {ds : List PyData} {i : Nat} (h : ds[i]? = some z) : R2D K (rIxL K) (.list ds) (.int (i : Int)) z := fun v w B H s h1 h2 Q q => by
  cases h2
  cases h1 with
  | lst ha hs =>
    obtain ⟨u, hu, hd⟩ := hs.getD h
    exact ⟨_, _, _, u, rfl, rfl, SqL.of (s _ _ ha), atI_nat hu, q _ B H (Le.rfl' s) hd⟩
theorem r_ixT {ds : List PyData} {i : Nat} (h : ds[i]? = some z) : R2D K (rIxT K) (.tuple ds) (.int (i : Int)) z := fun v w B H s h1 h2 Q q => by
  cases h2
  cases h1 with
  | tup ha hs =>
    obtain ⟨u, hu, hd⟩ := hs.getD h
    exact ⟨_, _, _, u, rfl, rfl, SqT.of (s _ _ ha), atI_nat hu, q _ B H (Le.rfl' s) hd⟩
theorem r_ixL0 {ds : List PyData} : R2D K (rIxL K) (.list (d :: ds)) (.int 0) d := r_ixL (i := 0) rfl
theorem r_ixT0 {ds : List PyData} : R2D K (rIxT K) (.tuple (d :: ds)) (.int 0) d := r_ixT (i := 0) rfl
theorem r_ixT1 {ds : List PyData} : R2D K (rIxT K) (.tuple (x :: d :: ds)) (.int 1) d := r_ixT (i := 1) rfl
theorem r_ixT2 {ds : List PyData} : R2D K (rIxT K) (.tuple (x :: y :: d :: ds)) (.int 2) d := r_ixT (i := 2) rfl
/-- a + b of lists -/
theorem r_cat {ds es : List PyData} (h : ds.length + es.length ≤ 100000) : R2D K rCat (.list ds) (.list es) (.list (ds ++ es)) := fun v w B H s h1 h2 Q q => by
  cases h1 with
  | @lst p1 xs1 _ ha hs =>
    cases h2 with
    | @lst p2 xs2 _ hb ht =>
      refine ⟨p1, p2, xs1, xs2, rfl, rfl, s _ _ ha, s _ _ hb, by rw [hs.len, ht.len]; exact Evl.sz_of h, fun p hp => ?_⟩
      have l := Le.new (o := .lst (xs1 ++ xs2)) s hp
      exact q _ _ _ l (.lst upd_same ((hs.app ht).ex l.ek))
theorem Das.rep {B : Hp} {vs : List V} {ds : List PyData} (h : Das K B vs ds) : ∀ n : Nat, Das K B (List.replicate n vs).flatten (List.replicate n ds).flatten
  | 0 => .nil
  | n + 1 => h.app (h.rep n)
theorem r_rep {ds : List PyData} (h : 0 ≤ k ∧ k ≤ 1000 ∧ ds.length ≤ 1000) : R2D K rRep (.list ds) (.int k) (.list (List.replicate k.toNat ds).flatten) := fun v w B H s h1 h2 Q q => by
  cases h2
  cases h1 with
  | @lst p1 xs1 _ ha hs =>
    refine ⟨p1, k, xs1, rfl, rfl, s _ _ ha, by omega, by omega, ?_, fun p hp => ?_⟩
    · rw [hs.len]
      exact Nat.le_trans (Nat.mul_le_mul h.2.2 (show k.toNat ≤ 1000 by omega)) (by decide)
    · have l := Le.new (o := .lst (List.replicate k.toNat xs1).flatten) s hp
      exact q _ _ _ l (.lst upd_same ((hs.rep _).ex l.ek))
/-- all of a list of Booleans -/
theorem bools_of {B : Hp} : ∀ {vs : List V} {bs : List Bool}, Das K B vs (bs.map PyData.bool) → vs = bs.map V.bl
  | [], [], _ => rfl
  | v :: vs, b :: bs, .cons h t => by
    cases h
    rw [bools_of t]
    rfl
theorem rc_all {bs : List Bool} : RcD K (rAll K) [.list (bs.map PyData.bool)] (.bool (bs.all id)) := fun vs B H s h Q q => by
  cases h with
  | cons h1 h2 =>
    cases h2
    cases h1 with
    | lst ha hs =>
      rw [bools_of hs] at ha
      exact ⟨_, bs, rfl, SqL.of (s _ _ ha), q _ B H (Le.rfl' s) (.bl _)⟩
def flatD : PyData → Bool
  | .none => true
  | .bool _ => true
  | .int _ => true
  | .str _ => true
  | _ => false
theorem flat_of {B : Hp} {v : V} (h : Da K B v d) (hf : flatD d = true) : flatV v = true := by
  cases h <;> first | rfl | (cases hf)
theorem flats_of {B : Hp} : ∀ {vs : List V} {ds : List PyData}, Das K B vs ds → ds.all flatD = true → vs.all flatV = true
  | _, _, .nil, _ => rfl
  | _, _, .cons h t, e => by
    rw [List.all_cons, Bool.and_eq_true] at e ⊢
    exact ⟨flat_of h e.1, flats_of t e.2⟩
theorem eqV_of {B : Hp} {v w : V} (h : Da K B v x) (h' : Da K B w y) (hf : flatD x = true) (hf' : flatD y = true) : eqV v w = PyData.eqv x y := by
  cases h with
  | lst _ _ => cases hf
  | tup _ _ => cases hf
  | dic _ _ => cases hf
  | non => cases h' with
    | lst _ _ => cases hf'
    | tup _ _ => cases hf'
    | dic _ _ => cases hf'
    | _ => simp [eqV, PyData.eqv]
  | bl b => cases h' with
    | lst _ _ => cases hf'
    | tup _ _ => cases hf'
    | dic _ _ => cases hf'
    | _ => simp [eqV, PyData.eqv]
  | int b => cases h' with
    | lst _ _ => cases hf'
    | tup _ _ => cases hf'
    | dic _ _ => cases hf'
    | _ => simp [eqV, PyData.eqv]
  | str b => cases h' with
    | lst _ _ => cases hf'
    | tup _ _ => cases hf'
    | dic _ _ => cases hf'
    | _ => simp [eqV, PyData.eqv]
theorem inV_of {B : Hp} {v : V} (h : Da K B v x) (hf : flatD x = true) : ∀ {vs : List V} {ds : List PyData}, Das K B vs ds → ds.all flatD = true → inV v vs = ds.any fun e => PyData.eqv e x
  | _, _, .nil, _ => rfl
  | _, _, .cons a t, e => by
    rw [List.all_cons, Bool.and_eq_true] at e
    have ih := inV_of h hf t e.2
    unfold inV at ih ⊢
    rw [List.any_cons, List.any_cons, ih, eqV_of a h e.1 hf]
theorem r_in {ds : List PyData} (hf : flatD x = true) (ha : ds.all flatD = true) : R2D K (rIn K false) x (.list ds) (.bool (ds.any fun e => PyData.eqv e x)) := fun v w B H s h1 h2 Q q => by
  cases h2 with
  | lst hb hs =>
    refine ⟨_, _, rfl, .inl (SqL.of (s _ _ hb)), flat_of h1 hf, flats_of hs ha, ?_⟩
    show Q (.bl (inV v _)) H
    rw [inV_of h1 hf hs ha]
    exact q _ B H (Le.rfl' s) (.bl _)
theorem r_ni {ds : List PyData} (hf : flatD x = true) (ha : ds.all flatD = true) : R2D K (rIn K true) x (.list ds) (.bool (!ds.any fun e => PyData.eqv e x)) := fun v w B H s h1 h2 Q q => by
  cases h2 with
  | lst hb hs =>
    refine ⟨_, _, rfl, .inl (SqL.of (s _ _ hb)), flat_of h1 hf, flats_of hs ha, ?_⟩
    show Q (.bl (!inV v _)) H
    rw [inV_of h1 hf hs ha]
    exact q _ B H (Le.rfl' s) (.bl _)
end
/-! ### comprehensions -/
section
variable {K : Fg} {ρ : En} {te : TE} {tt : TT}
def picked (ds : List PyData) (f : PyData → Bool) (g : PyData → PyData) : List PyData := (ds.filter f).map g
theorem picked_len (ds : List PyData) (f : PyData → Bool) (g : PyData → PyData) : (picked ds f g).length ≤ ds.length := by
  unfold picked
  rw [List.length_map]
  exact List.length_filter_le f ds
theorem picked_more {ds : List PyData} {f : PyData → Bool} {g : PyData → PyData} {i : Nat} {e : PyData} (h : ds[i]? = some e) :
    picked (ds.take (i + 1)) f g = picked (ds.take i) f g ++ (if f e = true then [g e] else []) := by
  unfold picked
  rw [List.take_add_one, h]
  show List.map g (List.filter f (ds.take i ++ [e])) = _
  rw [List.filter_append, List.map_append]
  congr 1
  rw [List.filter_cons]
  split <;> rfl
/-- what stands while the list is being made: B knows nothing of it -/
def Cz (K : Fg) (B H : Hp) (D : Addr) (out : List PyData) (H' : Hp) : Prop := ∃ B' acc, Le B H B' H' ∧ B' D = none ∧ H' D = some (.lst acc) ∧ Das K B' acc out
theorem cz_start {B H : Hp} {D : Addr} (s : Ex B H) (hD : H D = none) : Cz K B H D [] (upd H D (.lst [])) :=
  ⟨B, [], ⟨Ex.new hD, Ex.refl B, s.trans (Ex.new hD), fun _ h _ => h⟩, Evl.fresh_back s hD, upd_same, .nil⟩
theorem cz_end {B H H' : Hp} {D : Addr} {out : List PyData} (hD : H D = none) (c : Cz K B H D out H') : ∃ B', Le B H B' H' ∧ Da K B' (.ref D) (.list out) := by
  obtain ⟨B', acc, l, n, e, h⟩ := c
  have k : Ex B' (upd B' D (.lst acc)) := fun a o q => by
    rw [upd_ne (ne_of_none q n)]
    exact q
  refine ⟨upd B' D (.lst acc), ⟨l.ex, l.ek.trans k, fun a o q => ?_, fun a h1 h2 => ?_⟩, .lst upd_same (h.ex k)⟩
  · by_cases z : a = D
    · subst z
      rw [upd_same] at q
      cases q
      exact e
    · rw [upd_ne z] at q
      exact l.sub a o q
  · rw [upd_ne (fun z => h2 (by rw [z]; exact hD))]
    exact l.old a h1 h2
theorem cz_turn {B H : Hp} {D : Addr} {out : List PyData} {H' : Hp} {σ' : L2.St} {ρ' : En} {b : Bool} {y : PyData} (hD : H D = none) (c : Cz K B H D out H') (sd : SD K B σ' ρ') (hl : out.length ≤ 50000) (ht : ET K tt ρ' b) (he : b = true → ED K te ρ' y) {P : Hp → Prop}
    (h1 : b = true → ∀ H2, Cz K B H D (out ++ [y]) H2 → P H2) (h0 : b = false → ∀ H2, Cz K B H D out H2 → P H2) :
    tt σ' H' fun b2 H3 => if b2 = true then te σ' H3 fun v H4 => ∃ acc, H4 D = some (.lst acc) ∧ acc.length < sizeLine ∧ P (upd H4 D (.lst (acc ++ [v]))) else P H3 := by
  obtain ⟨B', acc, l, n, e, h⟩ := c
  refine ht σ' B' H' l.sub (sd.up l.ek) _ fun B3 H3 l3 => ?_
  have n3 : B3 D = none := l3.old D n (fun z => by rw [e] at z; cases z)
  cases b with
  | false => exact h0 rfl H3 ⟨B3, acc, l.tr l3, n3, l3.ex D _ e, h.ex l3.ek⟩
  | true =>
    show te σ' H3 _
    refine he rfl σ' B3 H3 l3.sub (sd.up (l.tr l3).ek) _ fun v B4 H4 l4 d4 => ?_
    have e3 := l3.ex D _ e
    have n4 : B4 D = none := l4.old D n3 (fun z => by rw [e3] at z; cases z)
    refine ⟨acc, l4.ex D _ e3, Evl.sz_lt (by rw [h.len]; omega), h1 rfl _ ⟨B4, acc ++ [v], ⟨fun a o q => ?_, (l.tr (l3.tr l4)).ek, fun a o q => ?_, (l.tr (l3.tr l4)).old⟩, n4, upd_same, (h.ex (l3.tr l4).ek).app (.cons d4 .nil)⟩⟩
    · by_cases z : a = D
      · subst z
        rw [hD] at q
        cases q
      · rw [upd_ne z]
        exact (l.tr (l3.tr l4)).ex a o q
    · rw [upd_ne (ne_of_none q n4)]
      exact l4.sub a o q
theorem wipe_put {σ : L2.St} {vs : List Nat} {j : Nat} {x : V} (h : ∀ x, L2.wipe ((L2.wipe σ vs).set j (some x)) vs = L2.wipe σ vs) : L2.wipe ((L2.wipe σ vs).set j (some x)) vs = L2.wipe σ vs := h x
theorem wipe_set {α : Type} : ∀ (vs : List Nat) (l : List (Option α)) (j : Nat) (o : Option α) (w : List (Option α) → List Nat → List (Option α)) (hw0 : ∀ l, w l [] = l) (hw1 : ∀ l v vs, w l (v :: vs) = (w l vs).set v none), j ∈ vs → w ((w l vs).set j o) vs = w (w l vs) vs
  | v :: vs, l, j, o, w, h0, h1, hj => by
    rw [h1, h1 ((w l (v :: vs)))]
    by_cases e : j ∈ vs
    · have ih := fun l' => wipe_set vs l' j o w h0 h1 e
      have c : ∀ (l' : List (Option α)) (i : Nat) (q : Option α) (us : List Nat), (i ∉ us) → w (l'.set i q) us = (w l' us).set i q := by
        intro l' i q us
        induction us with
        | nil =>
          intro _
          rw [h0, h0]
        | cons u us ihu =>
          intro hn
          rw [List.mem_cons, not_or] at hn
          rw [h1, h1, ihu hn.2, List.set_comm _ _ hn.1]
      by_cases e2 : v ∈ vs
      · have d : ∀ (l' : List (Option α)) (q : Option α) (us : List Nat), v ∈ us → w (l'.set v q) us = w l' us := by
          intro l' q us
          induction us with
          | nil => exact fun z => nomatch z
          | cons u us ihu =>
            intro hn
            rw [h1, h1]
            by_cases e3 : v ∈ us
            · rw [ihu e3]
            · rcases List.mem_cons.mp hn with z | z
              · subst z
                rw [c _ _ _ _ e3, List.set_set]
              · exact (e3 z).elim
        have d' : ∀ (l' : List (Option α)) (q : Option α) (us : List Nat), j ∈ us → w (l'.set j q) us = w l' us := by
          intro l' q us
          induction us with
          | nil => exact fun z => nomatch z
          | cons u us ihu =>
            intro hn
            rw [h1, h1]
            by_cases e3 : j ∈ us
            · rw [ihu e3]
            · rcases List.mem_cons.mp hn with z | z
              · subst z
                rw [c _ _ _ _ e3, List.set_set]
              · exact (e3 z).elim
        rw [d' _ _ _ e]
      · have d' : ∀ (l' : List (Option α)) (q : Option α) (us : List Nat), j ∈ us → w (l'.set j q) us = w l' us := by
          intro l' q us
          induction us with
          | nil => exact fun z => nomatch z
          | cons u us ihu =>
            intro hn
            rw [h1, h1]
            by_cases e3 : j ∈ us
            · rw [ihu e3]
            · rcases List.mem_cons.mp hn with z | z
              · subst z
                rw [c _ _ _ _ e3, List.set_set]
              · exact (e3 z).elim
        rw [d' _ _ _ e]
    · have ev : j = v := (List.mem_cons.mp hj).resolve_right e
      subst ev
      have c : ∀ (l' : List (Option α)) (i : Nat) (q : Option α) (us : List Nat), (i ∉ us) → w (l'.set i q) us = (w l' us).set i q := by
        intro l' i q us
        induction us with
        | nil =>
          intro _
          rw [h0, h0]
        | cons u us ihu =>
          intro hn
          rw [List.mem_cons, not_or] at hn
          rw [h1, h1, ihu hn.2, List.set_comm _ _ hn.1]
      rw [c _ _ _ _ e, List.set_set]
theorem wipe_none {σ : L2.St} : ∀ vs : List Nat, L2.wipe (L2.wipe σ vs) vs = L2.wipe σ vs := by
  have c : ∀ (us : List Nat) (l : L2.St) (i : Nat), L2.wipe (l.set i none) us = (L2.wipe l us).set i none := by
    intro us
    induction us with
    | nil => exact fun _ _ => rfl
    | cons u us ih =>
      intro l i
      show (L2.wipe (l.set i none) us).set u none = ((L2.wipe l us).set u none).set i none
      rw [ih]
      by_cases e : i = u
      · rw [e]
      · rw [List.set_comm _ _ e]
  intro vs
  induction vs with
  | nil => rfl
  | cons v vs ih =>
    show (L2.wipe ((L2.wipe σ vs).set v none) vs).set v none = (L2.wipe σ vs).set v none
    rw [c, ih, List.set_set]
/-- [e for x in xs if t] over a list -/
theorem ed_lcL {tl : TE} {j : Nat} {vs : List Nat} {ds : List PyData} (f : PyData → Bool) (g : PyData → PyData) (h : ED K tl ρ (.list ds)) (hj : j ∈ vs) (hz : ds.length ≤ 40000)
    (ht : ∀ d, d ∈ ds → ET K tt ((wipeD ρ vs).set j (some d)) (f d)) (he : ∀ d, d ∈ ds → f d = true → ED K te ((wipeD ρ vs).set j (some d)) (g d)) :
    ED K (tLc (iList K tl) (gName j) tt te vs) ρ (.list (picked ds f g)) := fun σ B H s sd Q q =>
  h σ B H s sd _ fun v B1 H1 l1 d1 => by
    cases d1 with
    | @lst p xs _ ha hs =>
      have hx : SqL K H1 p xs := SqL.of (l1.sub _ _ ha)
      refine ⟨p, rfl, ⟨xs, hx⟩, fun D hD => ?_⟩
      refine lc_list (K := K) (a := p) (xs := xs) (fun i H' => Cz K B1 H1 D (picked (ds.take i) f g) H') (cz_start l1.sub hD) (fun i H' _ ⟨B', acc, l, _⟩ => SqL.of (l.ex _ _ (l1.sub _ _ ha))) (fun i x H' hi c => ?_) (fun H' c => ?_)
      · obtain ⟨e, he1, hd⟩ := hs.get hi
        have me : e ∈ ds := List.mem_of_getElem? he1
        refine ⟨?_, ?_⟩
        · exact wipe_set vs σ j (some x) L2.wipe (fun _ => rfl) (fun _ _ _ => rfl) hj |>.trans (wipe_none vs)
        · refine cz_turn hD c ((((sd.up l1.ek).wipe vs)).put j hd) ?_ (ht e me) (he e me) (fun hf H2 c2 => ?_) (fun hf H2 c2 => ?_)
          · have z1 := picked_len (ds.take i) f g
            have z2 : (ds.take i).length ≤ ds.length := by
              rw [List.length_take]
              omega
            omega
          · show Cz K B1 H1 D (picked (ds.take (i + 1)) f g) H2
            rw [picked_more he1, if_pos hf]
            exact c2
          · show Cz K B1 H1 D (picked (ds.take (i + 1)) f g) H2
            rw [picked_more he1, if_neg (by rw [hf]; exact Bool.false_ne_true), List.append_nil]
            exact c2
      · have e : ds.take xs.length = ds := by
          rw [hs.len]
          exact List.take_length
        rw [e] at c
        obtain ⟨B', l, hd⟩ := cz_end hD c
        exact q _ _ _ (l1.tr l) hd
/-- [e for x in range(lo, lo + n) if t] -/
theorem lc_rngD {σ : L2.St} {B1 H1 : Hp} {j : Nat} {vs : List Nat} {lo : Int} {n : Nat} (f : PyData → Bool) (g : PyData → PyData) (s : Ex B1 H1) (sd : SD K B1 σ ρ) (hj : j ∈ vs) (hz : n ≤ 40000)
    (ht : ∀ d, d ∈ rgD lo n → ET K tt ((wipeD ρ vs).set j (some d)) (f d)) (he : ∀ d, d ∈ rgD lo n → f d = true → ED K te ((wipeD ρ vs).set j (some d)) (g d)) {Q : VK}
    (q : ∀ v B' H', Le B1 H1 B' H' → Da K B' v (.list (picked (rgD lo n) f g)) → Q v H') : ∀ D, H1 D = none → ∃ W : Nat → Nat → Hp → Prop, (∃ m, W 0 m (upd H1 D (.lst []))) ∧ ∀ i m H, W i m H →
      ((Itr lo n).stop i H ∧ Q (.ref D) H) ∨ ((Itr lo n).go i H ∧ ∃ Nx : Hp → Prop, (∀ H', Nx H' → ∃ m', m' < m ∧ W (i + 1) m' H') ∧ ∀ x H', (Itr lo n).yld i H x H' → gName j x (L2.wipe σ vs) H' fun σ2 H2 => L2.wipe σ2 vs = L2.wipe σ vs ∧ tt σ2 H2 fun b H3 =>
        if b = true then te σ2 H3 fun y H4 => ∃ acc, H4 D = some (.lst acc) ∧ acc.length < sizeLine ∧ Nx (upd H4 D (.lst (acc ++ [y]))) else Nx H3) := fun D hD => by
  refine lc_range (lo := lo) (n := n) (fun i H' => Cz K B1 H1 D (picked ((rgD lo n).take i) f g) H') (cz_start s hD) (fun i H' hi c => ?_) (fun H' c => ?_)
  · have he1 := rgD_get (lo := lo) hi
    have me : PyData.int (lo + (i : Int)) ∈ rgD lo n := List.mem_of_getElem? he1
    refine ⟨?_, ?_⟩
    · exact wipe_set vs σ j _ L2.wipe (fun _ => rfl) (fun _ _ _ => rfl) hj |>.trans (wipe_none vs)
    · refine cz_turn hD c ((sd.wipe vs).put j (.int _)) ?_ (ht _ me) (he _ me) (fun hf H2 c2 => ?_) (fun hf H2 c2 => ?_)
      · have z1 := picked_len ((rgD lo n).take i) f g
        have z2 : ((rgD lo n).take i).length ≤ n := by
          rw [List.length_take, rgD_len]
          omega
        omega
      · show Cz K B1 H1 D (picked ((rgD lo n).take (i + 1)) f g) H2
        rw [picked_more he1, if_pos hf]
        exact c2
      · show Cz K B1 H1 D (picked ((rgD lo n).take (i + 1)) f g) H2
        rw [picked_more he1, if_neg (by rw [hf]; exact Bool.false_ne_true), List.append_nil]
        exact c2
  · have e : (rgD lo n).take n = rgD lo n := List.take_of_length_le (by rw [rgD_len]; exact Nat.le_refl _)
    rw [e] at c
    obtain ⟨B', l, hd⟩ := cz_end hD c
    exact q _ _ _ l hd
theorem ed_lcR1 {tl : TA} {j : Nat} {vs : List Nat} {n : Int} (f : PyData → Bool) (g : PyData → PyData) (h : EA K tl ρ [.int n]) (hn : -40000 ≤ n ∧ n ≤ 40000) (hj : j ∈ vs)
    (ht : ∀ d, d ∈ rgD 0 n.toNat → ET K tt ((wipeD ρ vs).set j (some d)) (f d)) (he : ∀ d, d ∈ rgD 0 n.toNat → f d = true → ED K te ((wipeD ρ vs).set j (some d)) (g d)) :
    ED K (tLc (iRng1 tl) (gName j) tt te vs) ρ (.list (picked (rgD 0 n.toNat) f g)) := fun σ B H s sd Q q =>
  h σ B H s sd _ fun us B1 H1 l1 d1 => by
    cases d1 with
    | cons h1 h2 =>
      cases h1
      cases h2
      exact ⟨n, rfl, by omega, by omega, lc_rngD f g l1.sub (sd.up l1.ek) hj (by omega) ht he fun v B' H' l d => q v B' H' (l1.tr l) d⟩
theorem ed_lcR2 {tl : TA} {j : Nat} {vs : List Nat} {lo n : Int} (f : PyData → Bool) (g : PyData → PyData) (h : EA K tl ρ [.int lo, .int n]) (hn : -40000 ≤ n ∧ n ≤ 40000 ∧ 0 ≤ lo ∧ lo ≤ 40000) (hj : j ∈ vs)
    (ht : ∀ d, d ∈ rgD lo (n - lo).toNat → ET K tt ((wipeD ρ vs).set j (some d)) (f d)) (he : ∀ d, d ∈ rgD lo (n - lo).toNat → f d = true → ED K te ((wipeD ρ vs).set j (some d)) (g d)) :
    ED K (tLc (iRng2 tl) (gName j) tt te vs) ρ (.list (picked (rgD lo (n - lo).toNat) f g)) := fun σ B H s sd Q q =>
  h σ B H s sd _ fun us B1 H1 l1 d1 => by
    cases d1 with
    | cons h1 h2 =>
      cases h1
      cases h2 with
      | cons h2 h3 =>
        cases h2
        cases h3
        exact ⟨lo, n, rfl, ⟨by omega, by omega, by omega, by omega⟩, lc_rngD f g l1.sub (sd.up l1.ek) hj (by omega) ht he fun v B' H' l d => q v B' H' (l1.tr l) d⟩
theorem et_yes {ρ : En} : ET K tYes ρ true := fun σ B H s sd Q q => q B H (Le.rfl' s)
end
end TD

set_option maxHeartbeats 4000000
/-! # G5: defs that make data of data -/
namespace TD
open PySem PySem.Spec PyProof.Rows L2
open Evl (Ex)
section
variable (P : Program) (w : World) (K : Fg) (mg : Str → Option Value) (base : Heap)
/-- the def x, as it is called: its parameters, how deep it calls, its promise -/
def Fc (x : Str) (ps : List Str) (k : Nat) (sp : Sp) : Prop :=
  ∃ (f : Addr) (fd : FuncData), mg x = some (.ref f) ∧ PySem.W.keepIn K (.ref f) = true ∧ Binds K fd ps [] ∧ FnG P w K mg base CX0 k f fd ps sp
/-- the def x stands behind the top as it is written -/
def At (x : Str) (st : Stmt) : Prop := ∃ (f : Addr) (fd : FuncData), Fun K x x st f fd ∧ mg x = some (.ref f)
end
section
variable {P : Program} {w : World} {K : Fg} {mg : Str → Option Value} {base : Heap} {x : Str} {ps N : List Str} {k : Nat} {st : Stmt}
/-- the body comes to d: by a return, or at its end to None -/
def XR (K : Fg) (t : TS) (ρ : En) (d : PyData) : Prop := XS K t ρ (.ret d) ∨ (d = .none ∧ ∃ ρ', XS K t ρ (.nx ρ'))
theorem xr_ret {t : TS} {ρ : En} {d : PyData} (h : XS K t ρ (.ret d)) : XR K t ρ d := .inl h
theorem xr_end {t : TS} {ρ ρ' : En} (h : XS K t ρ (.nx ρ')) : XR K t ρ .none := .inr ⟨rfl, ρ', h⟩
def enOf (N : List Str) (ds : List PyData) : En := ds.map some ++ List.replicate (N.length - ds.length) none
theorem sd_start {B : Hp} {N : List Str} {vs : List V} {ds : List PyData} (h : Das K B vs ds) : SD K B (L2.start N vs) (enOf N ds) := by
  have hl := h.len
  refine ⟨by unfold L2.start enOf; simp [hl], fun i d e => ?_⟩
  unfold enOf at e
  by_cases hi : i < ds.length
  · rw [List.getElem?_append_left (by rw [List.length_map]; exact hi), List.getElem?_map] at e
    obtain ⟨d2, e1, e2⟩ := Option.map_eq_some_iff.mp e
    cases e2
    obtain ⟨v, hv, hd⟩ := h.getD e1
    refine ⟨v, ?_, hd⟩
    unfold L2.start
    rw [List.getElem?_append_left (by rw [List.length_map, hl]; exact hi), List.getElem?_map, hv]
    rfl
  · rw [List.getElem?_append_right (by rw [List.length_map]; omega), List.getElem?_replicate] at e
    split at e <;> cases e
theorem sp_len {R : List PyData → PyData → Prop} (hl : ∀ ds d, R ds d → ds.length = ps.length) : ∀ vs H Q E, SpR K R vs H Q E → vs.length = ps.length := fun vs H Q E ⟨B, ds, d, _, h, r, _⟩ => h.len.trans (hl ds d r)
theorem fc_mk {R : List PyData → PyData → Prop} (a : At K mg x st) (S : FnScope N ps (defScope st))
    (hb : ∀ (kV doc pm : Value) (an : Option Addr) (cdv ct : Value) (us : List Value), us.length = ps.length → bindArgs (PySem.W.fnOf x x (defArgs st) (defBody st) (defScope st) .none kV doc pm an cdv ct) ⟨us, []⟩ = pure (ps.zip us))
    (hl : ∀ ds d, R ds d → ds.length = ps.length)
    (body : ∀ (f : Addr) (cdv : Value) (A : Around) (outer : List Env) (s : Shared) (H : Hp) (E : XK), A.guards = some [] → Room k (A.deeper (envOfC x (defScope st) s.heap.objs.size f cdv)) →
      ∃ t, PSs (cxOf CX0 P w K mg base N x (defScope st) f cdv A outer s H E).nox (defBody st) t ∧ ∀ ds d, R ds d → XR K t (enOf N ds) d) : Fc P w K mg base x ps (k + 1) (SpR K R) := by
  obtain ⟨f, fd, F, hm⟩ := a
  refine ⟨f, fd, hm, F.kp, F.binds hb, fnG F S (sp_len hl) ?_⟩
  intro cdv A outer s H vs Q E gu hr ⟨B, ds, d, sx, hd, r, q⟩
  obtain ⟨t, ht, hx⟩ := body f cdv A outer s H E gu hr
  refine ⟨t, ht.nox, ?_⟩
  have sd := sd_start (N := N) hd
  rcases hx ds d r with h | ⟨rfl, ρ', h⟩
  · exact h _ B H _ sx sd q
  · exact h _ B H _ sx sd fun σ' B' H' l _ => q _ B' H' l .non
end
section
variable {X : Cx} {x : Str} {ps ks : List Str} {k : Nat} {sp : Sp} {E : XK} {p pos : Pos} {e : Expr} {es : List Expr} {t tk : TA} {kws : List Keyword}
/-- f(a, ..) -/
theorem pe_f (c : Fc X.prog X.w X.K X.mg X.base x ps k sp) (gu : X.A.guards = some []) (hr : Room k X.A) (hg : Gl X x) (ha : PA X (e :: es) t)
    (d1 : (x == ("__debug__" : Str)) = false := by decide)
    (d2 : starEach (e :: es) X.env = (false, eval e X.env) :: starEach es X.env := by rfl)
    (d3 : (backTo pos (starEach es X.env)).any (·.1) = false := by rfl) :
    PE X (.Call (.Name x p) (e :: es) [] pos) (tCall sp [] E0 t) := by
  obtain ⟨f, fd, hm, kp, hb, F⟩ := c
  exact pe_g F gu hr hg hm kp hb pass0 ha d1 d2 d3
theorem pe_f0 (c : Fc X.prog X.w X.K X.mg X.base x [] k sp) (gu : X.A.guards = some []) (hr : Room k X.A) (hg : Gl X x) (d1 : (x == ("__debug__" : Str)) = false := by decide) :
    PE X (.Call (.Name x p) [] [] pos) (tCall sp [] E0 tNil) := by
  obtain ⟨f, fd, hm, kp, hb, F⟩ := c
  exact pe_g0 F gu hr hg hm kp hb pass0 d1
end
end TD

set_option maxHeartbeats 4000000
/-! # G6: names unpacked, all of a comprehension -/
namespace TD
open PySem PySem.Spec PyProof.Rows L2
open Evl (Ex)
section
variable {K : Fg} {ρ ρ' : En} {te : TE} {x y z d : PyData}
theorem Das.inv1 {B : Hp} {vs : List V} {ds : List PyData} (h : Das K B vs (x :: ds)) : ∃ v r, vs = v :: r ∧ Da K B v x ∧ Das K B r ds := by
  cases h with
  | cons a t => exact ⟨_, _, rfl, a, t⟩
def TGs_ (K : Fg) (g : TGs) (ds : List PyData) (ρ ρ' : En) : Prop := ∀ σ vs B H, Ex B H → SD K B σ ρ → Das K B vs ds → ∀ Q : L2.St → Hp → Prop, (∀ σ', SD K B σ' ρ' → Q σ' H) → g vs σ H Q
theorem tgs_nil : TGs_ K gNil [] ρ ρ := fun σ vs B H s sd h Q q => by
  cases h
  exact ⟨rfl, q σ sd⟩
theorem tgs_cons {g : TG} {gs : TGs} {ds : List PyData} {ρ1 : En} (h1 : TG_ K g d ρ ρ1) (h2 : TGs_ K gs ds ρ1 ρ') : TGs_ K (gCons g gs) (d :: ds) ρ ρ' := fun σ vs B H s sd h Q q => by
  obtain ⟨v, r, rfl, a, t⟩ := h.inv1
  exact ⟨v, r, rfl, h1 σ v B H s sd a _ fun σ' s' => h2 σ' r B H s s' t Q q⟩
theorem tg_tup {gs : TGs} {ds : List PyData} {n : Nat} (h : TGs_ K gs ds ρ ρ') (hn : ds.length = n := by rfl) : TG_ K (gTup K n gs) (.tuple ds) ρ ρ' := fun σ v B H s sd hd Q q => by
  cases hd with
  | tup ha hs => exact ⟨_, _, rfl, SqT.of (s _ _ ha), hs.len.trans hn, h σ _ B H s sd hs Q q⟩
theorem xs_par {i j : Nat} {ta : TA} (h : EA K ta ρ [x, y]) : XS K (tPar i j ta) ρ (.nx ((ρ.set i (some x)).set j (some y))) := fun σ B H D s sd m =>
  h σ B H s sd _ fun vs B1 H1 l1 d1 => by
    obtain ⟨v, r, rfl, a, t⟩ := d1.inv1
    obtain ⟨u, r2, rfl, a2, t2⟩ := t.inv1
    cases t2
    exact ⟨v, u, rfl, m _ B1 H1 l1 (((sd.up l1.ek).put i a).put j a2)⟩
theorem picked_all (ds : List PyData) (g : PyData → PyData) : picked ds (fun _ => true) g = ds.map g := by
  unfold picked
  rw [List.filter_eq_self.mpr (fun _ _ => rfl)]
/-- all([t for x in xs]) -/
theorem ed_allL {tl : TE} {j : Nat} {vs : List Nat} {ds : List PyData} (p : PyData → Bool) (h : ED K tl ρ (.list ds)) (hj : j ∈ vs) (hz : ds.length ≤ 40000)
    (he : ∀ d, d ∈ ds → ED K te ((wipeD ρ vs).set j (some d)) (.bool (p d))) :
    ED K (tCB (rAll K) (tCons (tLc (iList K tl) (gName j) tYes te vs) tNil)) ρ (.bool (ds.all p)) := by
  have h1 := ed_lcL (te := te) (tt := tYes) (fun _ => true) (fun d => .bool (p d)) h hj hz (fun _ _ => et_yes) (fun d m _ => he d m)
  rw [picked_all] at h1
  have e : (ds.map fun d => PyData.bool (p d)) = (ds.map p).map PyData.bool := by rw [List.map_map]; rfl
  have e2 : ds.all p = (ds.map p).all id := by rw [List.all_map]; rfl
  rw [e] at h1
  rw [e2]
  exact ed_cb (ea_cons h1 ea_nil) rc_all
end
end TD

set_option maxHeartbeats 4000000
/-! # G7: what is drawn: a generator's list stands in one slot and turns; nothing known leans on it -/
namespace TD
open PySem PySem.Spec PyProof.Rows L2
open Evl (Ex)
/-- at g a generator that may be asked n times more -/
def GenAt (g : Addr) (n : Nat) (H : Hp) : Prop := ∃ a b c : Int, H g = some (.lst [.int a, .int b, .int c]) ∧ 0 ≤ a ∧ (0 ≤ b ∧ b < 2147483647) ∧ 0 ≤ c ∧ c + (n : Int) ≤ 1000000000
theorem GenAt.less {g : Addr} {n m : Nat} {H : Hp} (h : GenAt g n H) (e : m ≤ n) : GenAt g m H := by
  obtain ⟨a, b, c, h1, h2, h3, h4, h5⟩ := h
  exact ⟨a, b, c, h1, h2, h3, h4, by omega⟩
theorem GenAt.ex {g : Addr} {n : Nat} {H H' : Hp} (h : GenAt g n H) (e : Ex H H') : GenAt g n H' := by
  obtain ⟨a, b, c, h1, r⟩ := h
  exact ⟨a, b, c, e g _ h1, r⟩
theorem GenAt.some {g : Addr} {n : Nat} {H : Hp} (h : GenAt g n H) : H g ≠ none := by
  obtain ⟨a, b, c, h1, r⟩ := h
  rw [h1]
  exact fun z => nomatch z
structure LeG (g : Addr) (B H B' H' : Hp) : Prop where
  ex : ∀ a o, a ≠ g → H a = some o → H' a = some o
  ek : Ex B B'
  sub : Ex B' H'
  old : ∀ a, B a = none → H a ≠ none → B' a = none
theorem LeG.of {g : Addr} {B H B' H' : Hp} (l : Le B H B' H') : LeG g B H B' H' := ⟨fun a o _ => l.ex a o, l.ek, l.sub, l.old⟩
theorem LeG.tr {g : Addr} {B H B1 H1 B2 H2 : Hp} (a : LeG g B H B1 H1) (b : LeG g B1 H1 B2 H2) (s : H1 g ≠ none) : LeG g B H B2 H2 :=
  ⟨fun x o n h => b.ex x o n (a.ex x o n h), a.ek.trans b.ek, b.sub, fun x h1 h2 => b.old x (a.old x h1 h2) (fun z => by
    by_cases q : x = g
    · subst q
      exact s z
    · cases q2 : H x with
      | none => exact h2 q2
      | some o =>
        rw [a.ex x o q q2] at z
        cases z)⟩
section
variable (K : Fg)
def EG (j : Nat) (te : TE) (ρ : En) (n : Nat) (P : PyData → Prop) (m : Nat) : Prop := ∀ g σ B H, Ex B H → B g = none → GenAt g n H → σ[j]? = some (some (.ref g)) → SD K B σ ρ →
  ∀ Q : VK, (∀ v d B' H', LeG g B H B' H' → GenAt g m H' → Da K B' v d → P d → Q v H') → te σ H Q
def EGA (j : Nat) (ta : TA) (ρ : En) (n : Nat) (P : List PyData → Prop) (m : Nat) : Prop := ∀ g σ B H, Ex B H → B g = none → GenAt g n H → σ[j]? = some (some (.ref g)) → SD K B σ ρ →
  ∀ Q : List V → Hp → Prop, (∀ vs ds B' H', LeG g B H B' H' → GenAt g m H' → Das K B' vs ds → P ds → Q vs H') → ta σ H Q
def EGT (j : Nat) (tt : TT) (ρ : En) (n : Nat) (P : Bool → Prop) (m : Nat) : Prop := ∀ g σ B H, Ex B H → B g = none → GenAt g n H → σ[j]? = some (some (.ref g)) → SD K B σ ρ →
  ∀ Q : Bool → Hp → Prop, (∀ b B' H', LeG g B H B' H' → GenAt g m H' → P b → Q b H') → tt σ H Q
/-- the promise of a def that draws: at most c times; what it may be asked, what it then hands back -/
def SpG (c : Nat) (Pre : List PyData → Prop) (R : List PyData → PyData → Prop) : Sp := fun vs H Q _ => ∃ g ws B ds n, vs = .ref g :: ws ∧ Ex B H ∧ B g = none ∧ GenAt g (n + c) H ∧ Das K B ws ds ∧ Pre ds ∧
  ∀ v d B' H', LeG g B H B' H' → GenAt g n H' → Da K B' v d → R ds d → Q v H'
end
section
variable {K : Fg} {j : Nat} {ρ ρ' : En} {ta tb te : TE} {tt : TT} {n m k : Nat} {P P1 P2 P3 : PyData → Prop}
theorem LeG.g {g : Addr} {B H B' H' : Hp} (l : LeG g B H B' H') (h : B g = none) (s : H g ≠ none) : B' g = none := l.old g h s
theorem eg_of {d : PyData} (h : ED K te ρ d) : EG K j te ρ n (fun x => x = d) n := fun g σ B H s hg ga hs sd Q q => h σ B H s sd Q fun v B' H' l hd => q v d B' H' (LeG.of l) (ga.ex l.ex) hd rfl
theorem egt_of {b : Bool} (h : ET K tt ρ b) : EGT K j tt ρ n (fun x => x = b) n := fun g σ B H s hg ga hs sd Q q => h σ B H s sd Q fun B' H' l => q b B' H' (LeG.of l) (ga.ex l.ex) rfl
theorem ega_of {ta : TA} {ds : List PyData} (h : EA K ta ρ ds) : EGA K j ta ρ n (fun x => x = ds) n := fun g σ B H s hg ga hs sd Q q => h σ B H s sd Q fun v B' H' l hd => q v ds B' H' (LeG.of l) (ga.ex l.ex) hd rfl
theorem eg_to (h : EG K j te ρ n P m) (hp : ∀ d, P d → P1 d) : EG K j te ρ n P1 m := fun g σ B H s hg ga hs sd Q q => h g σ B H s hg ga hs sd Q fun v d B' H' l g2 hd p => q v d B' H' l g2 hd (hp d p)
theorem eg_less (h : EG K j te ρ n P m) (e : k ≤ m) : EG K j te ρ n P k := fun g σ B H s hg ga hs sd Q q => h g σ B H s hg ga hs sd Q fun v d B' H' l g2 hd p => q v d B' H' l (g2.less e) hd p
theorem eg_more (h : EG K j te ρ n P m) (e : n ≤ k) : EG K j te ρ k P m := fun g σ B H s hg ga hs sd Q q => h g σ B H s hg (ga.less e) hs sd Q q
theorem ega_nil : EGA K j tNil ρ n (fun ds => ds = []) n := ega_of ea_nil
theorem ega_cons {tr : TA} {Ps : List PyData → Prop} (h : EG K j te ρ n P m) (hr : EGA K j tr ρ m Ps k) : EGA K j (tCons te tr) ρ n (fun ds => ∃ d r, ds = d :: r ∧ P d ∧ Ps r) k := fun g σ B H s hg ga hs sd Q q =>
  h g σ B H s hg ga hs sd _ fun v d B1 H1 l1 g1 d1 p1 => hr g σ B1 H1 l1.sub (l1.g hg ga.some) g1 hs (sd.up l1.ek) _ fun vs ds B2 H2 l2 g2 d2 p2 =>
    q (v :: vs) (d :: ds) B2 H2 (l1.tr l2 g1.some) g2 (.cons (d1.ex l2.ek) d2) ⟨d, ds, rfl, p1, p2⟩
theorem eg_op {r : R2} (h1 : EG K j ta ρ n P1 m) (h2 : EG K j tb ρ m P2 k) (hr : ∀ x y, P1 x → P2 y → ∃ z, R2D K r x y z ∧ P z) : EG K j (tOp r ta tb) ρ n P k := fun g σ B H s hg ga hs sd Q q =>
  h1 g σ B H s hg ga hs sd _ fun v x B1 H1 l1 g1 d1 p1 => h2 g σ B1 H1 l1.sub (l1.g hg ga.some) g1 hs (sd.up l1.ek) _ fun u y B2 H2 l2 g2 d2 p2 => by
    obtain ⟨z, hz, pz⟩ := hr x y p1 p2
    exact hz v u B2 H2 l2.sub (d1.ex l2.ek) d2 Q fun t B3 H3 l3 d3 => q t z B3 H3 ((l1.tr l2 g1.some).tr (LeG.of l3) g2.some) (g2.ex l3.ex) d3 pz
theorem egt_test (h : EG K j te ρ n P m) {Pb : Bool → Prop} (hp : ∀ d, P d → ∃ b, d = .bool b ∧ Pb b) : EGT K j (tTest te) ρ n Pb m := fun g σ B H s hg ga hs sd Q q =>
  h g σ B H s hg ga hs sd _ fun v d B1 H1 l1 g1 d1 p1 => by
    obtain ⟨b, rfl, pb⟩ := hp d p1
    cases d1
    exact ⟨b, rfl, q b B1 H1 l1 g1 pb⟩
theorem eg_call {c : Nat} {Pre : List PyData → Prop} {R : List PyData → PyData → Prop} {tl : TA} {E : XK} {Ps : List PyData → Prop} (h : EGA K j tl ρ n Ps (m + c)) (hp : ∀ ds, Ps ds → Pre ds) :
    EG K j (tCall (SpG K c Pre R) [] E (tCons (tVar j) tl)) ρ n (fun d => ∃ ds, Ps ds ∧ R ds d) m := fun g σ B H s hg ga hs sd Q q => by
  refine ⟨.ref g, hs, ?_⟩
  refine h g σ B H s hg ga hs sd _ fun vs ds B1 H1 l1 g1 d1 p1 => ?_
  show SpG K c Pre R ((.ref g :: vs) ++ []) H1 Q E
  rw [List.append_nil]
  exact ⟨g, vs, B1, ds, m, rfl, l1.sub, l1.g hg ga.some, g1, d1, hp ds p1, fun v d B2 H2 l2 g2 d2 r2 => q v d B2 H2 (l1.tr l2 g1.some) g2 d2 ⟨ds, p1, r2⟩⟩
theorem leG_new {g : Addr} {B H : Hp} {p : Addr} {o : HO} (s : Ex B H) (h : H p = none) : LeG g B H (upd B p o) (upd H p o) := LeG.of (Le.new s h)
theorem eg_tup {tl : TA} {Ps : List PyData → Prop} (h : EGA K j tl ρ n Ps m) (hl : ∀ ds, Ps ds → ds.length ≤ 100000) : EG K j (tTup tl) ρ n (fun d => ∃ ds, d = .tuple ds ∧ Ps ds) m := fun g σ B H s hg ga hs sd Q q =>
  h g σ B H s hg ga hs sd _ fun vs ds B1 H1 l1 g1 d1 p1 => ⟨das_big d1 (hl ds p1), fun p hp => q _ (.tuple ds) _ _ (l1.tr (leG_new l1.sub hp) g1.some) (g1.ex (Ex.new hp)) (.tup upd_same (d1.ex (Le.new (o := .tup vs) l1.sub hp).ek)) ⟨ds, rfl, p1⟩⟩
theorem eg_lst {tl : TA} {Ps : List PyData → Prop} (h : EGA K j tl ρ n Ps m) (hl : ∀ ds, Ps ds → ds.length ≤ 100000) : EG K j (tLst tl) ρ n (fun d => ∃ ds, d = .list ds ∧ Ps ds) m := fun g σ B H s hg ga hs sd Q q =>
  h g σ B H s hg ga hs sd _ fun vs ds B1 H1 l1 g1 d1 p1 => ⟨das_big d1 (hl ds p1), fun p hp => q _ (.list ds) _ _ (l1.tr (leG_new l1.sub hp) g1.some) (g1.ex (Ex.new hp)) (.lst upd_same (d1.ex (Le.new (o := .lst vs) l1.sub hp).ek)) ⟨ds, rfl, p1⟩⟩
/-! ### a comprehension over range(n) that draws: J i out holds behind i turns -/
def Cg (K : Fg) (g : Addr) (B H : Hp) (D : Addr) (out : List PyData) (H' : Hp) : Prop := ∃ B' acc, LeG g B H B' H' ∧ B' D = none ∧ H' D = some (.lst acc) ∧ Das K B' acc out
theorem wipe_keep {σ : L2.St} {j : Nat} : ∀ {vs : List Nat}, j ∉ vs → (L2.wipe σ vs)[j]? = σ[j]?
  | [], _ => rfl
  | v :: vs, h => by
    rw [List.mem_cons, not_or] at h
    show ((L2.wipe σ vs).set v none)[j]? = _
    rw [List.getElem?_set_ne (Ne.symm h.1)]
    exact wipe_keep h.2
theorem eg_lcR1 {tl : TA} {i0 : Nat} {vs : List Nat} {N c c2 : Nat} {Pn : List PyData → Prop} (J : Nat → List PyData → Prop) {Pt : Nat → Bool → Prop} {Pe : Nat → PyData → Prop}
    (h : EGA K j tl ρ n Pn (m + N * c)) (hn : ∀ ds, Pn ds → ∃ t : Nat, ds = [.int t] ∧ t ≤ N) (hN : N ≤ 40000) (hi : i0 ∈ vs) (hj : j ∉ vs)
    (ht : ∀ (i k : Nat), i < N → EGT K j tt ((wipeD ρ vs).set i0 (some (.int (i : Int)))) (k + c) (Pt i) (k + c2))
    (he : ∀ (i k : Nat), i < N → EG K j te ((wipeD ρ vs).set i0 (some (.int (i : Int)))) (k + c2) (Pe i) k)
    (j0 : J 0 []) (j1 : ∀ i out d, i < N → out.length ≤ i → J i out → Pt i true → Pe i d → J (i + 1) (out ++ [d])) (j2 : ∀ i out, i < N → J i out → Pt i false → J (i + 1) out) :
    EG K j (tLc (iRng1 tl) (gName i0) tt te vs) ρ n (fun d => ∃ t out, t ≤ N ∧ Pn [.int (t : Nat)] ∧ d = .list out ∧ out.length ≤ t ∧ J t out) m := fun g σ B H s hg ga hs sd Q q =>
  h g σ B H s hg ga hs sd _ fun us ds B1 H1 l1 g1 d1 p1 => by
    obtain ⟨t, rfl, htN⟩ := hn ds p1
    cases d1 with
    | cons h1 h2 =>
      cases h1
      cases h2
      refine ⟨(t : Int), rfl, by omega, by omega, fun D hD => ?_⟩
      have et : ((t : Int)).toNat = t := Int.toNat_natCast t
      have hDg : D ≠ g := fun z => by
        rw [z] at hD
        exact g1.some hD
      have hg1 := l1.g hg ga.some
      rw [et]
      refine lc_range (lo := 0) (n := t) (fun i H' => ∃ out, Cg K g B1 H1 D out H' ∧ GenAt g (m + (N - i) * c) H' ∧ out.length ≤ i ∧ J i out) ⟨[], ⟨B1, [], ⟨fun a o _ e => Ex.new hD a o e, Ex.refl B1, l1.sub.trans (Ex.new hD), fun _ z _ => z⟩, Evl.fresh_back l1.sub hD, upd_same, .nil⟩, g1.ex (Ex.new hD), Nat.le_refl _, j0⟩
        (fun i H' hit ⟨out, ⟨B', acc, l, nD, eD, ho⟩, gi, hol, hJ⟩ => ?_) (fun H' ⟨out, ⟨B', acc, l, nD, eD, ho⟩, gi, hol, hJ⟩ => ?_)
      · have hiN : i < N := by omega
        have e0 : (0 : Int) + (i : Int) = (i : Int) := Int.zero_add _
        refine ⟨?_, ?_⟩
        · exact wipe_set vs σ i0 _ L2.wipe (fun _ => rfl) (fun _ _ _ => rfl) hi |>.trans (wipe_none vs)
        · rw [e0]
          have sd' : SD K B' ((L2.wipe σ vs).set i0 (some (.int (i : Int)))) ((wipeD ρ vs).set i0 (some (.int (i : Int)))) := (((sd.up l1.ek).up l.ek).wipe vs).put i0 (.int _)
          have nji : i0 ≠ j := fun z => hj (z ▸ hi)
          have hs' : ((L2.wipe σ vs).set i0 (some (.int (i : Int))))[j]? = some (some (.ref g)) := by
            rw [List.getElem?_set_ne nji, wipe_keep hj]
            exact hs
          have ef : m + (N - i) * c = (m + (N - (i + 1)) * c) + c := by
            have : N - i = (N - (i + 1)) + 1 := by omega
            rw [this, Nat.add_mul]
            omega
          have hgB : B' g = none := l.g hg1 g1.some
          rw [ef] at gi
          refine ht i _ hiN g _ B' H' l.sub hgB gi hs' sd' _ fun b B3 H3 l3 g3 pb => ?_
          have n3 : B3 D = none := l3.old D nD (fun z => by rw [eD] at z; cases z)
          have e3 := l3.ex D _ hDg eD
          have ll3 : LeG g B1 H1 B3 H3 := l.tr l3 gi.some
          cases b with
          | false => exact ⟨out, ⟨B3, acc, ll3, n3, e3, ho.ex l3.ek⟩, g3.less (by omega), by omega, j2 i out hiN hJ pb⟩
          | true =>
            show te _ H3 _
            refine he i _ hiN g _ B3 H3 l3.sub (l3.g hgB gi.some) g3 hs' (sd'.up l3.ek) _ fun v d B4 H4 l4 g4 d4 p4 => ?_
            have n4 : B4 D = none := l4.old D n3 (fun z => by rw [e3] at z; cases z)
            have e4 := l4.ex D _ hDg e3
            have ll4 : LeG g B1 H1 B4 H4 := ll3.tr l4 g3.some
            have hol2 : (out ++ [d]).length ≤ i + 1 := by
              rw [List.length_append, List.length_singleton]
              omega
            refine ⟨acc, e4, Evl.sz_lt (by rw [ho.len]; omega), out ++ [d], ⟨B4, acc ++ [v], ⟨fun a o na z => ?_, ll4.ek, fun a o z => ?_, ll4.old⟩, n4, upd_same, (ho.ex (l3.ek.trans l4.ek)).app (.cons d4 .nil)⟩, ?_, hol2, j1 i out d hiN hol hJ pb p4⟩
            · by_cases w : a = D
              · subst w
                rw [hD] at z
                cases z
              · rw [upd_ne w]
                exact ll4.ex a o na z
            · rw [upd_ne (ne_of_none z n4)]
              exact l4.sub a o z
            · obtain ⟨a, b, c3, z, r⟩ := g4
              exact ⟨a, b, c3, by rw [upd_ne (Ne.symm hDg)]; exact z, r⟩
      · have k : Ex B' (upd B' D (.lst acc)) := fun a o z => by
          rw [upd_ne (ne_of_none z nD)]
          exact z
        refine q (.ref D) (.list out) (upd B' D (.lst acc)) H' (l1.tr ⟨l.ex, l.ek.trans k, fun a o z => ?_, fun a z1 z2 => ?_⟩ g1.some) (gi.less (by omega)) (.lst upd_same (ho.ex k)) ⟨t, out, htN, p1, rfl, hol, hJ⟩
        · by_cases w : a = D
          · subst w
            rw [upd_same] at z
            cases z
            exact eD
          · rw [upd_ne w] at z
            exact l.sub a o z
        · rw [upd_ne (fun w => z2 (by rw [w]; exact hD))]
          exact l.old a z1 z2
end
end TD

set_option maxHeartbeats 4000000
/-! # G8: what is what, as plain functions of data -/
namespace TD
open PySem PySem.Spec PyProof.Rows L2
def isWhole (d : PyData) : Bool := isT "int" d && !isT "bool" d
def isCount : PyData → Bool
  | .int i => decide (0 ≤ i)
  | _ => false
def isTup (n : Int) : PyData → Bool
  | .tuple ds => decide ((ds.length : Int) = n)
  | _ => false
def fitsRoom (r : Int) : PyData → Bool
  | .int i => decide (0 ≤ i) && decide (i < r)
  | _ => false
def asc (r : Int) : Int → List PyData → Bool
  | _, [] => true
  | a, .int i :: ds => (decide (0 ≤ i) && decide (i < r)) && (decide (a < i) && asc r i ds)
  | _, _ :: _ => false
def fitsLights (r : Int) : PyData → Bool
  | .list ds => asc r (-1) ds
  | _ => false
def fitsPresses (r : Int) : PyData → Bool
  | .list ds => ds.all (fitsLights r)
  | _ => false
def isShift : PyData → Bool
  | .int i => decide (-1 ≤ i) && decide (i ≤ 1)
  | _ => false
def fitsDoor (r : Int) : PyData → Bool
  | .tuple [n, m, s] => fitsLights r n && (fitsRoom r m && isShift s)
  | _ => false
def fitsLevel2 : PyData → PyData → Bool
  | .int r, .list ds => decide (1 ≤ r) && ds.all (fitsDoor r)
  | _, _ => false
def fitsLevel : PyData → Bool
  | .tuple [a, b] => fitsLevel2 a b
  | _ => false
theorem whole_int {d : PyData} (h : isWhole d = true) : ∃ i, d = .int i := by
  cases d <;> first | exact ⟨_, rfl⟩ | (revert h; decide) | (revert h; unfold isWhole isT; simp)
/-- lists that are looked through item by item are at most so long -/
def Sm (d : PyData) : Prop := ∀ ds, (d = .list ds ∨ d = .tuple ds) → ds.length ≤ 30000
theorem asc_up {r r' : Int} (h : r ≤ r') : ∀ {a : Int} {ds : List PyData}, asc r a ds = true → asc r' a ds = true
  | _, [], _ => rfl
  | a, .int i :: ds, e => by
    have e' : ((decide (0 ≤ i) && decide (i < r)) && (decide (a < i) && asc r i ds)) = true := e
    simp only [Bool.and_eq_true, decide_eq_true_eq] at e'
    show ((decide (0 ≤ i) && decide (i < r')) && (decide (a < i) && asc r' i ds)) = true
    simp only [Bool.and_eq_true, decide_eq_true_eq]
    exact ⟨⟨e'.1.1, by omega⟩, e'.2.1, asc_up h e'.2.2⟩
theorem asc_snoc {r : Int} (h0 : 0 ≤ r) : ∀ {a : Int} {ds : List PyData}, a < r → asc r a ds = true → asc (r + 1) a (ds ++ [.int r]) = true
  | a, [], ha, _ => by
    show ((decide (0 ≤ r) && decide (r < r + 1)) && (decide (a < r) && true)) = true
    simp only [Bool.and_eq_true, decide_eq_true_eq]
    exact ⟨⟨h0, by omega⟩, ha, trivial⟩
  | a, .int i :: ds, ha, e => by
    have e' : ((decide (0 ≤ i) && decide (i < r)) && (decide (a < i) && asc r i ds)) = true := e
    simp only [Bool.and_eq_true, decide_eq_true_eq] at e'
    show ((decide (0 ≤ i) && decide (i < r + 1)) && (decide (a < i) && asc (r + 1) i (ds ++ [.int r]))) = true
    simp only [Bool.and_eq_true, decide_eq_true_eq]
    exact ⟨⟨e'.1.1, by omega⟩, e'.2.1, asc_snoc h0 e'.1.2 e'.2.2⟩
theorem asc_len {r : Int} : ∀ {a : Int} {ds : List PyData}, asc r a ds = true → ds ≠ [] → (ds.length : Int) ≤ r - a - 1
  | a, [], _, h => (h rfl).elim
  | a, .int i :: ds, e, _ => by
    have e' : ((decide (0 ≤ i) && decide (i < r)) && (decide (a < i) && asc r i ds)) = true := e
    simp only [Bool.and_eq_true, decide_eq_true_eq] at e'
    cases ds with
    | nil =>
      show (1 : Int) ≤ _
      omega
    | cons d ds =>
      have ih := asc_len e'.2.2 (by simp)
      have el : (((PyData.int i :: d :: ds).length : Nat) : Int) = ((d :: ds).length : Int) + 1 := by simp
      rw [el]
      omega
end TD

namespace TD
open PySem PySem.Spec PyProof.Rows L2
/-- the i-th statement of the row's text -/
def topS (i : Nat) : Stmt := PySem.Challenge.pw_timedoors_k05_errors_by_their_classes.main.body.getD i (.Pass ⟨0, 0, 0, 0⟩)
end TD

set_option maxHeartbeats 4000000
namespace TD
open PySem PySem.Spec PyProof.Rows L2
open Evl (Ex)
/-! # what the law draws -/
structure Bg (mg : Str → Option Value) : Prop where
  int : mg "int" = none
  len : mg "len" = none
  max : mg "max" = none
  sum : mg "sum" = none
  range : mg "range" = none
section
variable {X : Cx}
/-- a power of a great number -/
theorem op_powB : OpR X (binaryOp .Pow) (rI (fun i j => i = 10 ^ 60 ∧ j = 10) fun i j => .int (i ^ j.toNat)) := opI fun i j t u s Q E hc q => by
  obtain ⟨rfl, rfl⟩ := hc
  exact PySem.AutoIntOps.pow_4 (by decide) (by decide) (by decide) (by decide) (by decide +kernel) q
end
def rInt1 : List V → Hp → VK → Prop := fun xs H Q => (∃ i, xs = [.int i] ∧ Q (.int i) H) ∨ ∃ k, xs = [.bl k] ∧ Q (.int (if k then 1 else 0)) H
section
variable {P : Program} {w : World} {K : Fg} {mg : Str → Option Value} {base : Heap}
theorem rc_int {i : Int} : RcD K rInt1 [.int i] (.int i) := fun vs B H s h Q q => by
  obtain ⟨v, r, rfl, a, t⟩ := h.inv1
  cases a
  cases t
  exact .inl ⟨i, rfl, q _ B H (Le.rfl' s) (.int _)⟩
def hashV (s i : Int) : Int := ((((s * 1140671 + 27644437 * i * i + 131 * i + 19) % 2147483629) * ((s * 1140671 + 27644437 * i * i + 131 * i + 19) % 2147483629) + 62089 * i + 32416187) % 2147483587) * 48271 % 2147483647
theorem hashV_in (s i : Int) : 0 ≤ hashV s i ∧ hashV s i < 2147483647 := ⟨Int.emod_nonneg _ (by decide), Int.emod_lt_of_pos _ (by decide)⟩
abbrev s__law_hash : Stmt := topS 22
def R__law_hash : List PyData → PyData → Prop := fun ds d => ∃ s i : Int, ds = [.int s, .int i] ∧ (0 ≤ s ∧ s < 2147483647) ∧ (0 ≤ i ∧ i ≤ 1000000000) ∧ d = .int (hashV s i)
theorem f__law_hash (T : Bg mg) (a : At K mg "_law_hash" s__law_hash) : Fc P w K mg base "_law_hash" ["_law_seed", "_law_index"] 1 (SpR K R__law_hash) := by
  have S : FnScope ["_law_seed", "_law_index", "_law_mixed"] ["_law_seed", "_law_index"] (defScope s__law_hash) := ⟨rfl, rfl, rfl, by decide +kernel, rfl, by decide +kernel, by decide +kernel⟩
  refine fc_mk a S (fun _ _ _ _ _ _ us hl => match us, hl with | [_, _], _ => rfl) (by rintro _ _ ⟨s, i, rfl, _⟩; rfl) fun f cdv A outer s H E gu hr => ⟨_, (pss_cons (ps_set (i := 2) S.nd rfl (by first | exact Or.inl rfl | exact Or.inr rfl) (pe_op op_mod (pe_callTy call_int1 (by rfl) T.int (by decide +kernel) (pa_cons (pe_op op_add (pe_op op_add (pe_op op_add (pe_op op_mul (pv 0) pe_int) (pe_op op_mul (pe_op op_mul pe_int (pv 1)) (pv 1))) (pe_op op_mul pe_int (pv 1))) pe_int) pa_nil)) pe_int))
  (pss_cons (ps_set (i := 2) S.nd rfl (by first | exact Or.inl rfl | exact Or.inr rfl) (pe_op op_mod (pe_callTy call_int1 (by rfl) T.int (by decide +kernel) (pa_cons (pe_op op_add (pe_op op_add (pe_op op_mul (pv 2) (pv 2)) (pe_op op_mul pe_int (pv 1))) pe_int) pa_nil)) pe_int))
  (pss_one (ps_ret (pe_op op_mod (pe_callTy call_int1 (by rfl) T.int (by decide +kernel) (pa_cons (pe_op op_mul (pv 2) pe_int) pa_nil)) pe_int))))), ?_⟩
  rintro _ _ ⟨s, i, rfl, hs, hi, rfl⟩
  have m1 : ∀ {x y : Int}, (-(2 ^ 64) < x ∧ x < 2 ^ 64) → CMul x y := fun h => .inl h
  have m2 : ∀ {x y : Int}, (-(2 ^ 64) < y ∧ y < 2 ^ 64) → CMul x y := fun h => .inr h
  have q1 := Int.emod_nonneg (s * 1140671 + 27644437 * i * i + 131 * i + 19) (show (2147483629 : Int) ≠ 0 by decide)
  have q2 := Int.emod_lt_of_pos (s * 1140671 + 27644437 * i * i + 131 * i + 19) (show (0 : Int) < 2147483629 by decide)
  have i64 : -(2 ^ 64) < i ∧ i < 2 ^ 64 := ⟨by omega, by omega⟩
  refine xr_ret (xs_seq (xs_asg (ed_op (ed_cb (ea_cons (ed_op (ed_op (ed_op (ed_op (ed_var rfl) ed_int (r_IC (m2 (by decide)))) (ed_op (ed_op ed_int (ed_var rfl) (r_IC (m1 (by decide)))) (ed_var rfl) (r_IC (m2 i64))) r_Ii) (ed_op ed_int (ed_var rfl) (r_IC (m1 (by decide)))) r_Ii) ed_int r_Ii) ea_nil) rc_int) ed_int (r_IC (show (0 : Int) < _ by decide)))) ?_)
  refine xs_seq (xs_asg (ed_op (ed_cb (ea_cons (ed_op (ed_op (ed_op (ed_var rfl) (ed_var rfl) (r_IC (m1 ⟨by omega, by omega⟩))) (ed_op ed_int (ed_var rfl) (r_IC (m1 (by decide)))) r_Ii) ed_int r_Ii) ea_nil) rc_int) ed_int (r_IC (show (0 : Int) < _ by decide)))) ?_
  exact xs_ret (ed_op (ed_cb (ea_cons (ed_op (ed_var rfl) ed_int (r_IC (m2 (by decide)))) ea_nil) rc_int) ed_int (r_IC (show (0 : Int) < _ by decide)))
/-! ## the generator asked once -/
theorem bits_le {m : Int} (h : 1 ≤ m ∧ m ≤ 10 ^ 30) : Builtin.Int.intBits m ≤ 100 := intBits_le_iff.mpr (by
  have : m.natAbs ≤ 10 ^ 30 := by omega
  exact Nat.lt_of_le_of_lt this (by decide))
def preRnd : List PyData → Prop := fun ds => ∃ m : Int, ds = [.int m] ∧ 1 ≤ m ∧ m ≤ 10 ^ 30
def R_rnd : List PyData → PyData → Prop := fun ds d => ∃ m i : Int, ds = [.int m] ∧ d = .int i ∧ 0 ≤ i ∧ i < m
abbrev s__law_random : Stmt := topS 23
theorem f__law_random (T : Bg mg) (a : At K mg "_law_random" s__law_random) (c__law_hash : Fc P w K mg base "_law_hash" ["_law_seed", "_law_index"] 1 (SpR K R__law_hash)) : Fc P w K mg base "_law_random" ["_law_generator_here", "_law_bound"] 2 (SpG K 5 preRnd R_rnd) := by
  have S : FnScope ["_law_generator_here", "_law_bound", "_law_drawn", "_law_turn"] ["_law_generator_here", "_law_bound"] (defScope s__law_random) := ⟨rfl, rfl, rfl, by decide +kernel, rfl, by decide +kernel, by decide +kernel⟩
  obtain ⟨f, fd, F, hm⟩ := a
  refine ⟨f, fd, hm, F.kp, F.binds (fun _ _ _ _ _ _ us hl => match us, hl with | [_, _], _ => rfl), fnG F S ?_ ?_⟩
  · rintro vs H Q E ⟨g, ws, B, ds, n, rfl, _, _, _, hd, ⟨m, rfl, _⟩, _⟩
    have e := hd.len
    simp at e ⊢
    exact e
  intro cdv A outer s H vs Q E gu hr ⟨g, ws, B, ds, n, ev, sx, hg, ga, hd, ⟨m, ed, hm1, hm2⟩, q⟩
  subst ev ed
  obtain ⟨v, r, rfl, dv, dr⟩ := hd.inv1
  cases dv
  cases dr
  have hc : (cxOf CX0 P w K mg base ["_law_generator_here", "_law_bound", "_law_drawn", "_law_turn"] "_law_random" (defScope s__law_random) f cdv A outer s H E).nox.calm = true := rfl
  suffices h : ∃ t, PSs (cxOf CX0 P w K mg base ["_law_generator_here", "_law_bound", "_law_drawn", "_law_turn"] "_law_random" (defScope s__law_random) f cdv A outer s H E).nox (defBody s__law_random) t ∧ t { nx := fun _ H' => Q .non H', rt := Q } (L2.start ["_law_generator_here", "_law_bound", "_law_drawn", "_law_turn"] [.ref g, .int m]) H by
    obtain ⟨t, h1, h2⟩ := h
    exact ⟨t, h1.nox, h2⟩
  refine ⟨_, (pss_cons (ps_if (pt_cmpR op_gt (pe_ix ix_list (pv 0) pe_int (fun _ _ => rfl)) pe_int (nomark _)) (pss_cons (ps_set (i := 2) S.nd rfl (by first | exact Or.inl rfl | exact Or.inr rfl) (pe_op op_mod (pe_callTy call_int1 (by rfl) T.int (by decide +kernel) (pa_cons (pe_ix ix_list (pv 0) pe_int (fun _ _ => rfl)) pa_nil)) (pv 1)))
  (pss_cons (ps_asg (pe_op op_fdivW (pe_ix ix_list (pv 0) pe_int (fun _ _ => rfl)) (pv 1)) (pg_sub (pv 0) pe_int set_list))
  (pss_one (ps_ret (pv 2))))) pss_nil)
  (pss_cons (ps_set (i := 2) S.nd rfl (by first | exact Or.inl rfl | exact Or.inr rfl) pe_int)
  (pss_cons (ps_for PassesOwn.never hc (pi_range1 (by rfl) T.range (pa_cons (pe_op op_add pe_int (pe_op op_fdiv (pe_bits (pv 1)) pe_int)) pa_nil)) (pg_name (i := 3) S.nd rfl (by first | exact Or.inl rfl | exact Or.inr rfl))
    (pss_cons (ps_asg (pe_op op_add (pe_ix ix_list (pv 0) pe_int (fun _ _ => rfl)) pe_int) (pg_sub (pv 0) pe_int set_list))
  (pss_one (ps_set (i := 2) S.nd rfl (by first | exact Or.inl rfl | exact Or.inr rfl) (pe_op op_add (pe_op op_mul (pv 2) pe_int) (pe_f c__law_hash gu (hr.mono (by decide)) (by rfl) (pa_cons (pe_ix ix_list (pv 0) pe_int (fun _ _ => rfl)) (pa_cons (pe_ix ix_list (pv 0) pe_int (fun _ _ => rfl)) pa_nil))))))))
  (pss_one (ps_ret (pe_op op_mod (pe_callTy call_int1 (by rfl) T.int (by decide +kernel) (pa_cons (pv 2) pa_nil)) (pv 1))))))), ?_⟩
  obtain ⟨a, b, c, eg, ha, hb, hc0, hcn⟩ := ga
  have ex0 : ∀ (x y z : Int) (H' : Hp), (∀ p o, p ≠ g → H p = some o → H' p = some o) → H' g = some (.lst [.int x, .int y, .int z]) → 0 ≤ x → (0 ≤ y ∧ y < 2147483647) → 0 ≤ z → z + (n : Int) ≤ 1000000000 → ∀ i : Int, 0 ≤ i → i < m → Q (.int i) H' := by
    intro x y z H' k e h1 h2 h3 h4 i h5 h6
    refine q (.int i) (.int i) B H' ⟨k, Ex.refl B, fun p o hp => ?_, fun _ h _ => h⟩ ⟨x, y, z, e, h1, h2, h3, h4⟩ (.int i) ⟨m, i, rfl, rfl, h5, h6⟩
    have np : p ≠ g := fun z => by
      rw [z, hg] at hp
      cases hp
    exact k p o np (sx p o hp)
  have mlog : m.natAbs.log2 < 9000 := by
    have h1 : m.natAbs < 2 ^ 100 := Nat.lt_of_le_of_lt (show m.natAbs ≤ 10 ^ 30 by omega) (by decide)
    exact Nat.lt_of_lt_of_le (PySem.Flt.log2_lt_of (by decide) h1) (by decide)
  -- if generator[0] > 0
  refine ⟨.ref g, rfl, g, _, 0, .int a, rfl, rfl, SqL.of eg, atI_nat (j := 0) rfl, a, 0, rfl, rfl, _, rfl, ite2 (fun h => ?_) (fun h => ?_)⟩
  · have h0 := of_decide_eq_true h
    refine ⟨.ref g, rfl, g, _, 0, .int a, rfl, rfl, SqL.of eg, atI_nat (j := 0) rfl, .inl ⟨a, rfl, .int m, rfl, a, m, rfl, rfl, (show (0 : Int) < m by omega), ?_⟩⟩
    refine ⟨.ref g, rfl, g, _, 0, .int a, rfl, rfl, SqL.of eg, atI_nat (j := 0) rfl, .int m, rfl, a, m, rfl, rfl, ⟨by omega, mlog⟩, .ref g, rfl, g, _, 0, 0, rfl, rfl, eg, rfl, ?_⟩
    refine ⟨.int (a % m), rfl, ?_⟩
    exact ex0 (a / m) b c _ (fun p o np e => by rw [upd_ne np]; exact e) upd_same (Int.ediv_nonneg ha (by omega)) hb hc0 (by omega) _ (Int.emod_nonneg _ (by omega)) (Int.emod_lt_of_pos _ (by omega))
  · -- the hash's turns
    have hbits := bits_le ⟨hm1, hm2⟩
    have hl : (0 : Int) ≤ (Builtin.Int.intBits m : Int) / 30 ∧ (Builtin.Int.intBits m : Int) / 30 ≤ 3 := by omega
    generalize hk : (Builtin.Int.intBits m : Int) / 30 = k at hl
    refine ⟨.int m, rfl, m, rfl, _, 30, rfl, rfl, ⟨by decide, by decide⟩, 1, _, rfl, rfl, _, rfl, ?_, ?_, ?_⟩
    · rw [hk]
      omega
    · rw [hk]
      omega
    rw [hk]
    refine for_range (lo := 0) (n := (1 + k).toNat) (fun i σ' H' => ∃ (dr c' : Int) (o : Option V), σ' = [some (.ref g), some (.int m), some (.int dr), o] ∧ H' g = some (.lst [.int a, .int b, .int c']) ∧ (0 ≤ c' ∧ c' ≤ c + (i : Int)) ∧ ∀ p o, p ≠ g → H p = some o → H' p = some o)
      ⟨0, c, none, rfl, eg, ⟨hc0, by omega⟩, fun p o _ e => e⟩ ?_ ?_
    · rintro i σ' H' hi ⟨dr, c', o, rfl, e, hc', kp⟩
      have e1 : (upd H' g (.lst [.int a, .int b, .int (c' + 1)])) g = some (.lst [.int a, .int b, .int (c' + 1)]) := upd_same
      refine ⟨.ref g, rfl, g, _, 2, .int c', rfl, rfl, SqL.of e, atI_nat (j := 2) rfl, c', 1, rfl, rfl, .ref g, rfl, g, _, 2, 2, rfl, rfl, e, rfl, ?_⟩
      refine ⟨.int dr, rfl, dr, _, rfl, rfl, .inr (by decide), .ref g, rfl, g, _, 1, .int b, rfl, rfl, SqL.of e1, atI_nat (j := 1) rfl, .ref g, rfl, g, _, 2, .int (c' + 1), rfl, rfl, SqL.of e1, atI_nat (j := 2) rfl, ?_⟩
      refine ⟨_, [.int b, .int (c' + 1)], .int (hashV b (c' + 1)), Ex.refl _, .cons (.int _) (.cons (.int _) .nil), ⟨b, c' + 1, rfl, hb, ⟨by omega, by omega⟩, rfl⟩, ?_⟩
      intro v B3 H3 l3 d3
      cases d3
      refine ⟨_, _, rfl, rfl, _, c' + 1, _, rfl, l3.ex g _ e1, ⟨by omega, by omega⟩, fun p o np z => l3.ex p o ?_⟩
      rw [upd_ne np]
      exact kp p o np z
    · rintro σ' H' ⟨dr, c', o, rfl, e, hc', kp⟩
      refine ⟨.int dr, rfl, .inl ⟨dr, rfl, .int m, rfl, dr, m, rfl, rfl, (show (0 : Int) < m by omega), ?_⟩⟩
      exact ex0 a b c' _ kp e ha hb hc'.1 (by omega) _ (Int.emod_nonneg _ (by omega)) (Int.emod_lt_of_pos _ (by omega))
/-! ## the seed, the generator -/
abbrev s__law_cell : Stmt := topS 24
def spCell (K : Fg) : Sp := fun vs H Q _ => ∃ (s : Addr) (ns : List Int) (i : Int), vs = [.ref s, .int i] ∧ SqL K H s (ns.map V.int) ∧ 0 ≤ i ∧ i ≤ 1000 ∧ ∀ (z : Int) H', Ex H H' → Q (.int z) H'
theorem f__law_cell (T : Bg mg) (a : At K mg "_law_cell" s__law_cell) : Fc P w K mg base "_law_cell" ["_law_script", "_law_index"] 1 (spCell K) := by
  have S : FnScope ["_law_script", "_law_index"] ["_law_script", "_law_index"] (defScope s__law_cell) := ⟨rfl, rfl, rfl, by decide +kernel, rfl, by decide +kernel, by decide +kernel⟩
  obtain ⟨f, fd, F, hm⟩ := a
  refine ⟨f, fd, hm, F.kp, F.binds (fun _ _ _ _ _ _ us hl => match us, hl with | [_, _], _ => rfl), fnG F S ?_ ?_⟩
  · rintro vs H Q E ⟨s, ns, i, rfl, _⟩
    rfl
  intro cdv A outer s H vs Q E gu hr ⟨sc, ns, i, ev, hS, h0, h1, q⟩
  subst ev
  have hc : (cxOf CX0 P w K mg base ["_law_script", "_law_index"] "_law_cell" (defScope s__law_cell) f cdv A outer s H E).nox.calm = true := rfl
  suffices h : ∃ t, PSs (cxOf CX0 P w K mg base ["_law_script", "_law_index"] "_law_cell" (defScope s__law_cell) f cdv A outer s H E).nox (defBody s__law_cell) t ∧ t { nx := fun _ H' => Q .non H', rt := Q } (L2.start ["_law_script", "_law_index"] [.ref sc, .int i]) H by
    obtain ⟨t, h1, h2⟩ := h
    exact ⟨t, h1.nox, h2⟩
  refine ⟨_, (pss_cons (ps_if (pt_cmpR op_lt (pv 1) (pe_callB call_len_seq (by rfl) T.len (by decide +kernel) (pa_cons (pv 0) pa_nil)) (nomark _)) (pss_one (ps_ret (pe_ix ix_list (pv 0) (pv 1) (fun _ _ => rfl)))) pss_nil)
  (pss_one (ps_ret (pe_op op_mod (pe_callB (cr_sum hc) (by rfl) T.sum (by decide +kernel) (pa_cons (pe_slice sl_list (pv 0) po_none (po_some pe_int)) pa_nil)) pe_int)))), ?_⟩
  refine ⟨.int i, rfl, .ref sc, rfl, sc, _, rfl, .inl hS, i, _, rfl, rfl, _, rfl, ite2 (fun h => ?_) (fun h => ?_)⟩
  · have hi := of_decide_eq_true h
    rw [List.length_map] at hi
    obtain ⟨j, rfl⟩ : ∃ j : Nat, i = j := ⟨i.toNat, by omega⟩
    have hj : j < ns.length := by omega
    have e : (ns.map V.int)[j]? = some (.int ns[j]) := by
      rw [List.getElem?_map, List.getElem?_eq_getElem hj]
      rfl
    exact ⟨.ref sc, rfl, .int j, rfl, sc, _, j, _, rfl, rfl, hS, atI_nat e, q _ H (Ex.refl H)⟩
  · refine ⟨.ref sc, rfl, 1, rfl, sc, _, rfl, hS, fun p hp => ?_⟩
    have e : cutV (ns.map V.int) none (some 1) = (ns.take 1).map V.int := by
      rw [List.map_take]
      unfold cutV
      rw [show HT.sIx (ns.map V.int).length 0 none = 0 from HT.sIx_none _ _, show HT.sIx (ns.map V.int).length (ns.map V.int).length (some 1) = min 1 (ns.map V.int).length from HT.sIx_nat _ _ 1]
      simp
    refine ⟨p, ns.take 1, rfl, SqL.of (by rw [upd_same, e]), _, 1000003, rfl, rfl, (show (0 : Int) < 1000003 by decide), ?_⟩
    exact q _ _ (Ex.new hp)
abbrev s__law_generator : Stmt := topS 25
def spGen (K : Fg) : Sp := fun vs H Q _ => ∃ (s : Addr) (ns : List Int) (i : Int), vs = [.ref s, .int i] ∧ SqL K H s (ns.map V.int) ∧ 0 ≤ i ∧ i ≤ 1000 ∧ ∀ (g : Addr) H', H g = none → Ex H H' → GenAt g 900000000 H' → Q (.ref g) H'
theorem f__law_generator (T : Bg mg) (a : At K mg "_law_generator" s__law_generator) (c__law_cell : Fc P w K mg base "_law_cell" ["_law_script", "_law_index"] 1 (spCell K)) : Fc P w K mg base "_law_generator" ["_law_script", "_law_index"] 2 (spGen K) := by
  have S : FnScope ["_law_script", "_law_index", "_law_seed"] ["_law_script", "_law_index"] (defScope s__law_generator) := ⟨rfl, rfl, rfl, by decide +kernel, rfl, by decide +kernel, by decide +kernel⟩
  obtain ⟨f, fd, F, hm⟩ := a
  refine ⟨f, fd, hm, F.kp, F.binds (fun _ _ _ _ _ _ us hl => match us, hl with | [_, _], _ => rfl), fnG F S ?_ ?_⟩
  · rintro vs H Q E ⟨s, ns, i, rfl, _⟩
    rfl
  intro cdv A outer s H vs Q E gu hr ⟨sc, ns, i, ev, hS, h0, h1, q⟩
  subst ev
  have hc : (cxOf CX0 P w K mg base ["_law_script", "_law_index", "_law_seed"] "_law_generator" (defScope s__law_generator) f cdv A outer s H E).nox.calm = true := rfl
  suffices h : ∃ t, PSs (cxOf CX0 P w K mg base ["_law_script", "_law_index", "_law_seed"] "_law_generator" (defScope s__law_generator) f cdv A outer s H E).nox (defBody s__law_generator) t ∧ t { nx := fun _ H' => Q .non H', rt := Q } (L2.start ["_law_script", "_law_index", "_law_seed"] [.ref sc, .int i]) H by
    obtain ⟨t, h1, h2⟩ := h
    exact ⟨t, h1.nox, h2⟩
  refine ⟨_, (pss_cons (ps_set (i := 2) S.nd rfl (by first | exact Or.inl rfl | exact Or.inr rfl) (pe_f c__law_cell gu (hr.mono (by decide)) (by rfl) (pa_cons (pv 0) (pa_cons (pv 1) pa_nil))))
  (pss_one (ps_ret (pe_lst (pa_cons (pe_op op_mod (pe_callTy call_int1 (by rfl) T.int (by decide +kernel) (pa_cons (pe_callB (call_max2 hc) (by rfl) T.max (by decide +kernel) (pa_cons (pe_op op_sub (pv 2) (pe_op op_pow pe_int pe_int)) (pa_cons pe_int pa_nil))) pa_nil)) (pe_op op_powB (pe_op op_pow pe_int pe_int) pe_int)) (pa_cons (pe_op op_mod (pe_callTy call_int1 (by rfl) T.int (by decide +kernel) (pa_cons (pv 2) pa_nil)) pe_int) (pa_cons (pe_op op_mul pe_int (pv 1)) pa_nil))))))), ?_⟩
  refine ⟨.ref sc, rfl, .int i, rfl, sc, ns, i, rfl, hS, h0, h1, fun z H1 e1 => ?_⟩
  have pos : (0 : Int) < (10 ^ 60) ^ Int.toNat 10 := by decide +kernel
  refine ⟨.int z, rfl, 10, 18, rfl, rfl, ⟨by decide, by decide, by decide⟩, z, _, rfl, rfl, _, 0, rfl, .inl ⟨_, rfl, 10, 60, rfl, rfl, ⟨by decide, by decide, by decide⟩, _, 10, rfl, rfl, ⟨rfl, rfl⟩, _, _, rfl, rfl, pos, ?_⟩⟩
  refine ⟨.int z, rfl, .inl ⟨z, rfl, z, 2147483647, rfl, rfl, (show (0 : Int) < 2147483647 by decide), .int i, rfl, 1000, i, rfl, rfl, .inl ⟨by decide, by decide⟩, by show 3 ≤ sizeLine; decide, fun g hg => ?_⟩⟩
  refine q g _ (Evl.fresh_back e1 hg) (e1.trans (Ex.new hg)) ⟨_, _, _, upd_same, Int.emod_nonneg _ (Int.ne_of_gt pos), ⟨Int.emod_nonneg _ (by decide), Int.emod_lt_of_pos _ (by decide)⟩, by omega, by omega⟩
end
end TD

set_option maxHeartbeats 4000000
/-! # E0: an own exception class called with keywords, its __init__ walked as a def -/
namespace TDX
open PySem PySem.W PySem.Calls PySem.HandSPX
section
variable {prog : Program} {w : World} {A : Around} {E : Value → Shared → Prop} {R : Result → Shared → Prop} {h : Heap} {g : Array GenState} {d : Drawn} {t : Nat} {os : OsState}
variable {nm q : Str} {C N : Addr} {bs bm bmB : List Value} {hdct : Bool} {sn : List Str} {sub : List Value} {ab : Bool} {col : Option Bool} {dd : Option Addr} {k0 k1 k2 k3 k5 : Option Value} {B newId initId : String}
variable {rest : List Value} {kw : List (Str × Value)}
theorem checkKw {M : Model} (F : ExcBaseFacts B newId initId bmB) (hT : ∀ X : String, bm.contains (.type X) = bmB.contains (.type X)) {Q : Unit → Shared → Prop}
    (at_ : h.get? C = some (excClassObj nm q C N bs bm hdct sn sub ab col dd k0 k1 k2 k3 k5 newId)) (z : Q () ⟨h, g, d, t, os⟩) :
    wpAny M A (checkBuiltinCall newId ⟨.ref C :: rest, kw⟩) Q E ⟨h, g, d, t, os⟩ := by
  have inB : (Value.ref C :: bm).contains (.type B) = true := by
    rw [List.contains_cons, hT, F.hasB, Bool.or_true]
  have star := F.noStar
  simp only [checkBuiltinCall, F.newKind, F.newSplit, F.newRow]
  repeat
    first
    | refine wpAny_loadPart_at at_ ?_
    | (refine wpAny_isSubtype_exc at_ ?_
       rw [inB])
    | refine wpAny_staticBase_exc at_ ?_
    | refine wpAny_madeBy_exc at_ ?_
    | simp only [bne_self_eq_false, Bool.false_eq_true, if_false]
    | wp_step
  exact z
theorem newKw (F : ExcBaseFacts B newId initId bmB) (hT : ∀ X : String, bm.contains (.type X) = bmB.contains (.type X))
    (at_ : h.get? C = some (excClassObj nm q C N bs bm hdct sn sub ab col dd k0 k1 k2 k3 k5 newId)) (few : rest.length ≤ sizeLine)
    (z : R (.ok (.ret (.ref (h.objs.size + 1)))) ⟨(h.push (kdv_tup rest)).push (excO C h.objs.size), g, d, t, os⟩) :
    codeAny (model prog w) A (.builtin newId ⟨.ref C :: rest, kw⟩) R ⟨h, g, d, t, os⟩ := by
  have ends := F.ends
  have inB : (Value.ref C :: bm).contains (.type B) = true := by
    rw [List.contains_cons, hT, F.hasB, Bool.or_true]
  have inA : (Value.ref C :: bm).contains (.type "AttributeError") = false := by
    rw [List.contains_cons, hT, F.noAttr]
    rfl
  have inN : (Value.ref C :: bm).contains (.type "NameError") = false := by
    rw [List.contains_cons, hT, F.noName]
    rfl
  refine codeAny_builtinAt F.entry ?_
  unfold Builtin.«BaseException.__new__»
  refine wpAt_bind ?_
  show wpAt _ _ _ (stack >>= _) _ _ _
  refine wpAt_bind (wpAt_stack fun p below => wpAt_of_wpAny ?_)
  wp_walk
  refine wpAt_of_wpAny ?_
  rw [F.owner]
  repeat
    first
    | with_reducible refine wpAny_madeHere_exc F.canon at_ ?_
    | with_reducible refine wpAny_loadPart_at at_ ?_
    | (with_reducible refine wpAny_isSubtype_exc at_ ?_
       first
       | rw [inB]
       | rw [inA]
       | rw [inN])
    | wp_step
  show R _ _
  rw [Heap.size_push]
  exact z
theorem typeCallKw (F : ExcBaseFacts B newId initId bmB) (hT : ∀ X : String, bm.contains (.type X) = bmB.contains (.type X)) {fI : Addr} {Q : PySem.Fin → Shared → Prop}
    (at_ : h.get? C = some (excClassObj nm q C N bs bm hdct sn sub ab col dd k0 k1 k2 k3 k5 newId)) (few : rest.length ≤ sizeLine)
    (ini : Looks (model prog w) h (typeLookup (.ref C) "__init__") (some (.ref fI))) (bnd : ∀ self, Looks (model prog w) h (bindSpecial (.ref fI) self) (.ref fI, [self]))
    (z : codeAny (model prog w) A (.call (.ref fI) ⟨.ref (h.objs.size + 1) :: rest, kw⟩)
      (fun r s2 => match r with | .ok (.ret v) => v = .none ∧ Q (.done (.ret (.ref (h.objs.size + 1)))) s2 | .ok _ => False | .error e => E e s2)
      ⟨(h.push (kdv_tup rest)).push (excO C h.objs.size), g, d, t, os⟩) :
    wpAny (model prog w) A (Builtin.«type.__call__» ⟨.ref C :: rest, kw⟩) Q E ⟨h, g, d, t, os⟩ := by
  repeat
    first
    | with_reducible refine wpAny_loadPart_at at_ ?_
    | with_reducible refine wpAny_madeBy_exc at_ ?_
    | wp_step
  refine codeAny_call_builtin_code (Code.quiet_builtin _ F.quiet) (checkKw F hT at_ ?_)
  refine newKw F hT at_ few ?_
  show wpAny _ _ _ _ _ _
  have keep : ∀ b o, h.get? b = some o → ((h.push (kdv_tup rest)).push (excO C h.objs.size)).get? b = some o :=
    fun b o e => Heap.get?_push_of_some _ (Heap.get?_push_of_some _ e)
  have at2 := keep _ _ at_
  have new : ((h.push (kdv_tup rest)).push (excO C h.objs.size)).get? (h.objs.size + 1) = some (excO C h.objs.size) := by heap_get
  have own : (Value.ref C :: bm).contains (.ref C) = true := by simp
  have ini2 := ini.keeps keep
  have bnd2 := (bnd (.ref (h.objs.size + 1))).keeps keep
  unfold isInstance
  repeat
    first
    | with_reducible refine wpAny_loadPart_at new ?_
    | (with_reducible refine wpAny_isSubtype_exc at2 ?_
       rw [own])
    | wp_step
  show wpAny _ _ (typeLookup (.ref C) _) _ _ _
  refine ini2.at ?_
  refine wpAny_holding (wpAny_bind (bnd2.at ?_))
  refine wpAny_bind (wpAny_call (codeAny_mono z ?_))
  intro r s2 y
  match r, y with
  | .error e, y => exact y
  | .ok .next, y => exact y.elim
  | .ok .brk, y => exact y.elim
  | .ok .cont, y => exact y.elim
  | .ok (.ret v), ⟨ev, y⟩ =>
    subst ev
    first
    | exact wpAny_pure (wpAny_pure y)
    | (wp_walk
       exact y)
theorem callKw (F : ExcBaseFacts B newId initId bmB) (hT : ∀ X : String, bm.contains (.type X) = bmB.contains (.type X)) {fI : Addr}
    (at_ : h.get? C = some (excClassObj nm q C N bs bm hdct sn sub ab col dd k0 k1 k2 k3 k5 newId)) (few : rest.length ≤ sizeLine)
    (ini : Looks (model prog w) h (typeLookup (.ref C) "__init__") (some (.ref fI))) (bnd : ∀ self, Looks (model prog w) h (bindSpecial (.ref fI) self) (.ref fI, [self]))
    (z : codeAny (model prog w) (A.under (.builtin "type.__call__" ⟨.ref C :: rest, kw⟩)) (.call (.ref fI) ⟨.ref (h.objs.size + 1) :: rest, kw⟩) (InitBack (h.objs.size + 1) R)
      ⟨(h.push (kdv_tup rest)).push (excO C h.objs.size), g, d, t, os⟩) :
    codeAny (model prog w) A (.call (.ref C) ⟨rest, kw⟩) R ⟨h, g, d, t, os⟩ := by
  have look := tc_lookup
  have bind := tc_bind (.ref C)
  have isType : (⟨h, g, d, t, os⟩ : Shared).TypeIs (.ref C) "type" := ⟨_, at_, rfl⟩
  refine codeAny_of_tree ?_
  show wpAny _ _ (callAny (.ref C) _) _ _ _
  repeat
    any_goals
      first
      | assumption
      | with_reducible refine wpAny_loadPart_at at_ ?_
      | wp_step
  refine ⟨rfl, ?_⟩
  refine codeAny_call_builtin_at (Code.quiet_builtin _ (by decide +kernel)) entry_typeCall ?_
  refine wpAny_check_type_call_sub at_ (typeCallKw F hT at_ few ini bnd ?_)
  refine codeAny_mono z ?_
  intro r s2 y
  match r, y with
  | .error e, y => exact y
  | .ok .next, y => exact y
  | .ok .brk, y => exact y
  | .ok .cont, y => exact y
  | .ok (.ret v), y => exact y
end
end TDX

set_option maxHeartbeats 4000000
/-! # E1: exceptions as values: made, asked for their class, read -/
namespace TD
open PySem PySem.Spec PyProof.Rows L2
open Evl (Ex)
/-- at a: an exception of the class at C that keeps v in its field -/
def ExV (H : Hp) (a C : Addr) (v : V) : Prop := ∃ d, H a = some (exo a C (some d)) ∧ H d = some (exd d [(("value" : Str), v)])
theorem ExV.ex {H H' : Hp} {a C : Addr} {v : V} (e : Ex H H') (h : ExV H a C v) : ExV H' a C v := let ⟨d, h1, h2⟩ := h; ⟨d, e _ _ h1, e _ _ h2⟩
/-- what the written part says of such a class -/
structure Exc (K : Fg) (C fI : Addr) : Prop where
  o : OexC K C
  no : PySem.W.findIn K (.ref C) "value" = some none
  ini : PySem.W.findIn K (.ref C) "__init__" = some (some (.ref fI))
  tI : PySem.W.typeIn K (.ref fI) = some (.type "function")
  x : ExcC K C
/-- self.value = value -/
def spIni (K : Fg) : Sp := fun vs H Q _ => ∃ a C v, vs = [.ref a, v] ∧ OexC K C ∧ PySem.W.findIn K (.ref C) "value" = some none ∧ H a = some (exo a C none) ∧ ∀ dx, H dx = none → dx ≠ a → Q .non (upd (upd H dx (exd dx [(("value" : Str), v)])) a (exo a C (some dx)))
section
variable {X : Cx} {pins : List (Addr × Obj)} {σ : L2.St} {H : Hp} {s : Shared} {C fI : Addr} {fd : FuncData} {Q : VK}
theorem run_mk {us : List Value} {kw : List (Str × Value)} {u : Value} {v : V} (T : Exc X.K C fI) (F : FnOk X.prog X.w X.K X.mg X.base CX0 1 fI fd ["self", "value"] (spIni X.K)) (hr : Room 2 X.A)
    (hb : ∀ (s : Shared) (z : Value), X.K.In s.heap → BindsTo s fd ⟨z :: us, kw⟩ ([("self" : Str), "value"].zip [z, u])) (rv : RelV v u) (few : us.length ≤ sizeLine) (I : Inv X pins σ H s)
    (q : ∀ a H', H a = none → Ex H H' → ExV H' a C v → Q (.ref a) H') : wpAny (model X.prog X.w) X.A (call (.ref C) us kw) (EP X pins σ Q) X.xe s := by
  obtain ⟨nm, qn, N, bs, bm, sn, sub, ab, col, dd, k0, k1, k2, k3, k5, hC, hbm⟩ := T.o.cls
  obtain ⟨hp, g, dr, tk, os⟩ := s
  have big : hp.objs.size ≤ hp.objs.size + 1 := Nat.le_succ _
  have free : H (hp.objs.size + 1) = none := I.hok.fresh big
  have keep : ∀ b o, hp.get? b = some o → ((hp.push (PySem.W.kdv_tup us)).push (PySem.HandSPX.excO C hp.objs.size)).get? b = some o :=
    fun b o e => Heap.get?_push_of_some _ (Heap.get?_push_of_some _ e)
  have new : ((hp.push (PySem.W.kdv_tup us)).push (PySem.HandSPX.excO C hp.objs.size)).get? (hp.objs.size + 1) = some (PySem.HandSPX.excO C hp.objs.size) := by heap_get
  have I2 : Inv X pins σ (upd H (hp.objs.size + 1) (exo (hp.objs.size + 1) C none)) ⟨(hp.push (PySem.W.kdv_tup us)).push (PySem.HandSPX.excO C hp.objs.size), g, dr, tk, os⟩ :=
    I.laid (t' := tk) keep big (exo_ok new)
  have rel : Vals [V.ref (hp.objs.size + 1), v] [Value.ref (hp.objs.size + 1), u] := .cons rfl (.cons rv .nil)
  refine wpAny_call (TDX.callKw PySem.F.excBase_ValueError (fun Y => PySem.HandSPX.refsVE_contains Y bm hbm) (I.kIn _ _ hC) few (PySem.W.looks_findIn I.kIn T.ini) (fun z => PySem.W.bind_fn I.kIn z T.tI) ?_)
  have room : Room 1 (X.A.under (.builtin "type.__call__" ⟨.ref C :: us, kw⟩)) := hr.make C us kw
  have sp : spIni X.K [V.ref (hp.objs.size + 1), v] (upd H (hp.objs.size + 1) (exo (hp.objs.size + 1) C none))
      (fun r H2 => r = .non ∧ Q (.ref (hp.objs.size + 1)) H2) E0 := by
    refine ⟨_, C, v, rfl, T.o, T.no, upd_same, fun dx hdx ne => ⟨rfl, ?_⟩⟩
    rw [upd_ne ne] at hdx
    refine q _ _ free (fun b o e => ?_) ⟨dx, upd_same, ?_⟩
    · rw [upd_ne (ne_of_none e free), upd_ne (ne_of_none e hdx), upd_ne (ne_of_none e free)]
      exact e
    · rw [upd_ne ne, upd_same]
  refine codeAny_mono (F.run _ X.stack _ _ ⟨Value.ref (hp.objs.size + 1) :: us, kw⟩ [Value.ref (hp.objs.size + 1), u] _ _ E0 room (I2.env0.make C us kw) (hb _ _ I2.kIn) rel sp) ?_
  intro r s2 y
  match r, y with
  | .error e, y => exact False.elim y
  | .ok .next, y => exact y.elim
  | .ok .brk, y => exact y.elim
  | .ok .cont, y => exact y.elim
  | .ok (.ret w2), y =>
    obtain ⟨r2, H2, I3, rr, er, q2⟩ := I2.after y
    subst er
    exact ⟨rr, ⟨.ref (hp.objs.size + 1), H2, I3, rfl, q2⟩⟩
end
theorem mk0_of {H : Hp} {P : Addr → Hp → V → Prop} {R : Addr → Hp → Prop} (h : ∃ v, [V.non] = [v] ∧ ∀ a H', H a = none → Ex H H' → P a H' v → R a H') : ∀ a H', H a = none → Ex H H' → P a H' .non → R a H' := by
  obtain ⟨v, e, h⟩ := h
  injection e with e1 _
  subst e1
  exact h
/-- the ways its __init__ is called -/
structure Bd (K : Fg) (fd : FuncData) : Prop where
  b1 : ∀ (s : Shared) (z u : Value), K.In s.heap → BindsTo s fd ⟨[z, u], []⟩ ([("self" : Str), "value"].zip [z, u])
  b0 : ∀ (s : Shared) (z : Value), K.In s.heap → BindsTo s fd ⟨[z], []⟩ ([("self" : Str), "value"].zip [z, .none])
  bk : ∀ (s : Shared) (z u : Value), K.In s.heap → BindsTo s fd ⟨[z], [(("value" : Str), u)]⟩ ([("self" : Str), "value"].zip [z, u])
/-- the class x at C, whose __init__ keeps what it is given -/
def Mke (P : Program) (w : World) (K : Fg) (mg : Str → Option Value) (base : Heap) (x : Str) (C : Addr) : Prop :=
  ∃ (fI : Addr) (fd : FuncData), mg x = some (.ref C) ∧ Exc K C fI ∧ FnOk P w K mg base CX0 1 fI fd ["self", "value"] (spIni K) ∧ Bd K fd
/-- x(e): e's value v, then a new exception that keeps it -/
def tMke (C : Addr) (ta : TA) : TE := fun σ H Q => ta σ H fun vs H1 => ∃ v, vs = [v] ∧ ∀ a H', H1 a = none → Ex H1 H' → ExV H' a C v → Q (.ref a) H'
section
variable {X : Cx} {C : Addr} {x : Str} {p pos kpos : Pos} {e : Expr} {ta : TA}
theorem pe_mk1 (c : Mke X.prog X.w X.K X.mg X.base x C) (hr : Room 2 X.A) (hg : Gl X x) (ha : PA X [e] ta)
    (d1 : (x == ("__debug__" : Str)) = false := by decide) (d2 : starEach [e] X.env = (false, eval e X.env) :: starEach [] X.env := by rfl) (d3 : (backTo pos (starEach [] X.env)).any (·.1) = false := by rfl) :
    PE X (.Call (.Name x p) [e] [] pos) (tMke C ta) := by
  obtain ⟨fI, fd, hm, T, F, b⟩ := c
  refine ⟨fun pins s σ H Q I h => wpAny_Call_Name_kw (ld_glob I hg hm ?_ d1)⟩
  refine PySem.W.callWith_K (h₀ := X.base) I.ok.mod.kin T.o.kC (thn (ha.run pos pins s σ H _ I h) ?_) d2 d3
  intro us s1 ⟨vs, H1, I1, r, v, ev, q⟩
  subst ev
  obtain ⟨u, eu, ru⟩ := vals1 r
  subst eu
  exact ⟨I1.kIn, run_mk T F hr (fun s z k => b.b1 s z u k) ru (by show 1 ≤ sizeLine; decide) I1 q⟩
theorem pe_mk0 (c : Mke X.prog X.w X.K X.mg X.base x C) (hr : Room 2 X.A) (hg : Gl X x) (d1 : (x == ("__debug__" : Str)) = false := by decide) :
    PE X (.Call (.Name x p) [] [] pos) (tMke C (tCons (tC .non) tNil)) := by
  obtain ⟨fI, fd, hm, T, F, b⟩ := c
  refine ⟨fun pins s σ H Q I h => wpAny_Call_Name_kw (ld_glob I hg hm ?_ d1)⟩
  exact PySem.W.callWith_K0 I.kIn T.o.kC (run_mk (us := []) (v := .non) T F hr (fun s z k => b.b0 s z k) rfl (Nat.zero_le _) I (mk0_of h))
theorem pe_mkk (c : Mke X.prog X.w X.K X.mg X.base x C) (hr : Room 2 X.A) (hg : Gl X x) (ha : PK X [⟨some "value", e, kpos⟩] ta)
    (d1 : (x == ("__debug__" : Str)) = false := by decide)
    (d2 : (backToKw pos (keywordEach [⟨some "value", e, kpos⟩] X.env)).all (·.1.isSome) = true := by rfl)
    (d3 : (backToKw pos (keywordEach [⟨some "value", e, kpos⟩] X.env)).filterMap (·.1) = [("value" : Str)] := by rfl)
    (d4 : ((backTo pos (starEach [] X.env)).any (·.1) || (backToKw pos (keywordEach [⟨some "value", e, kpos⟩] X.env)).any (·.1.isNone)) = false := by rfl) :
    PE X (.Call (.Name x p) [] [⟨some "value", e, kpos⟩] pos) (tMke C ta) := by
  obtain ⟨fI, fd, hm, T, F, b⟩ := c
  refine ⟨fun pins s σ H Q I h => wpAny_Call_Name_kw (ld_glob I hg hm ?_ d1)⟩
  refine PySem.W.callWith_KW0 (h₀ := X.base) I.ok.mod.kin T.o.kC d2 (thn (ha.run pos pins s σ H _ I h) ?_) d4
  intro us s1 ⟨vs, H1, I1, r, v, ev, q⟩
  subst ev
  obtain ⟨u, eu, ru⟩ := vals1 r
  subst eu
  refine ⟨I1.kIn, ?_⟩
  rw [d3]
  exact run_mk (us := []) (kw := [("value", u)]) T F hr (fun s z k => b.bk s z u k) ru (Nat.zero_le _) I1 q
end
/-! ### classes without an __init__ of their own -/
def Mkn (K : Fg) (mg : Str → Option Value) (x : Str) (C : Addr) : Prop := ∃ bmB, ExcBaseFacts "ValueError" "ValueError.__new__" "ValueError.__init__" bmB ∧ PySem.W.excIn K C bmB "ValueError.__new__" = true ∧ mg x = some (.ref C) ∧ PySem.W.keepIn K (.ref C) = true ∧ ExcC K C
def tMkn (C : Addr) (ta : TA) : TE := fun σ H Q => ta σ H fun vs H1 => vs.length ≤ 1000 ∧ ∀ a H', H1 a = none → Ex H1 H' → H' a = some (exo a C none) → Q (.ref a) H'
section
variable {X : Cx} {pins : List (Addr × Obj)} {σ : L2.St} {H : Hp} {s : Shared} {C : Addr} {x : Str} {p pos : Pos} {e : Expr} {es : List Expr} {ta : TA} {Q : VK}
theorem run_mkn {bmB : List Value} {us : List Value} (F : ExcBaseFacts "ValueError" "ValueError.__new__" "ValueError.__init__" bmB) (q : PySem.W.excIn X.K C bmB "ValueError.__new__" = true) (few : us.length ≤ sizeLine) (I : Inv X pins σ H s)
    (h : ∀ a H', H a = none → Ex H H' → H' a = some (exo a C none) → Q (.ref a) H') : wpAny (model X.prog X.w) X.A (call (.ref C) us) (EP X pins σ Q) X.xe s := by
  obtain ⟨hp, g, dr, tk, os⟩ := s
  obtain ⟨bm, N, nm, qn, bs, hdct, sn, sub, ab, col, dd, k0, k1, k2, k3, k5, mN, hC, hN, hni, T⟩ := exc_obj I.kIn q
  refine wpAny_call_exc_subT F T hC hN hni (fun h' a m => ?_) few
  obtain ⟨t, ht, _⟩ := m.there
  have n := I.hok.gone m.new
  exact ⟨.ref a, upd H a (exo a C none), I.laidN (t' := tk) m.keeps m.new n (exo_ok ht), rfl, h a _ n (Ex.new n) upd_same⟩
theorem pe_mkn (c : Mkn X.K X.mg x C) (hg : Gl X x) (ha : PA X (e :: es) ta)
    (d1 : (x == ("__debug__" : Str)) = false := by decide) (d2 : starEach (e :: es) X.env = (false, eval e X.env) :: starEach es X.env := by rfl) (d3 : (backTo pos (starEach es X.env)).any (·.1) = false := by rfl) :
    PE X (.Call (.Name x p) (e :: es) [] pos) (tMkn C ta) := by
  obtain ⟨bmB, F, q, hm, kp, _⟩ := c
  refine ⟨fun pins s σ H Q I h => wpAny_Call_Name_kw (ld_glob I hg hm ?_ d1)⟩
  refine PySem.W.callWith_K (h₀ := X.base) I.ok.mod.kin kp (thn (ha.run pos pins s σ H _ I h) ?_) d2 d3
  intro us s1 ⟨vs, H1, I1, r, hl, k⟩
  have few : us.length ≤ sizeLine := by
    rw [← r.length]
    exact Nat.le_trans hl (by decide)
  exact ⟨I1.kIn, run_mkn F q few I1 k⟩
theorem pe_mkn0 (c : Mkn X.K X.mg x C) (hg : Gl X x) (d1 : (x == ("__debug__" : Str)) = false := by decide) : PE X (.Call (.Name x p) [] [] pos) (tMkn C tNil) := by
  obtain ⟨bmB, F, q, hm, kp, _⟩ := c
  refine ⟨fun pins s σ H Q I h => wpAny_Call_Name_kw (ld_glob I hg hm ?_ d1)⟩
  exact PySem.W.callWith_K0 I.kIn kp (run_mkn (us := []) F q (Nat.zero_le _) I h.2)
end
/-! ### isinstance, the field -/
/-- at a: an exception of the class at C -/
def IsX (H : Hp) (a C : Addr) : Prop := H a = some (exo a C none) ∨ ∃ d fs, H a = some (exo a C (some d)) ∧ H d = some (exd d fs)
theorem IsX.of {H : Hp} {a C : Addr} {v : V} (h : ExV H a C v) : IsX H a C := let ⟨d, h1, h2⟩ := h; .inr ⟨d, _, h1, h2⟩
theorem IsX.ex {H H' : Hp} {a C : Addr} (e : Ex H H') (h : IsX H a C) : IsX H' a C := by
  rcases h with h | ⟨d, fs, h1, h2⟩
  · exact .inl (e _ _ h)
  · exact .inr ⟨d, fs, e _ _ h1, e _ _ h2⟩
def rIsX (K : Fg) : List V → Hp → VK → Prop := fun xs H Q => ∃ (a C : Addr) (c : V) (cv : Value) (b : Bool), xs = [.ref a, c] ∧ IsX H a C ∧ ExcC K C ∧ ClsV c cv ∧ PySem.W.kitOne K (.ref C) cv = some b ∧ Q (.bl b) H
section
variable {X : Cx} {pins : List (Addr × Obj)} {σ : L2.St} {H : Hp} {s : Shared}
theorem cls_some {K : Fg} {C : Addr} (h : PySem.W.hasDictIn K C = true) : (PySem.W.clsIn K C).isSome = true := by
  cases e : PySem.W.clsIn K C with
  | some _ => rfl
  | none =>
    unfold PySem.W.hasDictIn at h
    rw [e] at h
    cases h
theorem isx_at (I : Inv X pins σ H s) {a C : Addr} (h : IsX H a C) : ∃ ox od, PySem.W.InstAt s.heap a ox C od := by
  rcases h with h | ⟨d, fs, h1, h2⟩
  · obtain ⟨t1, e⟩ := exo_at I.hok h
    exact ⟨_, none, e, rfl, rfl, trivial⟩
  · obtain ⟨t1, e⟩ := exo_at I.hok h1
    obtain ⟨mA, hn, _⟩ := exd_at I.hok h2
    obtain ⟨od, ho, _⟩ := lookIn_ns hn
    exact ⟨_, some od, e, rfl, rfl, ho⟩
theorem call_isX : CallR X (.builtin "isinstance") (rIsX X.K) := by
  intro pins s σ H xs us Q I r h
  obtain ⟨a, C, c, cv, b, rfl, hx, T, k, e, q⟩ := h
  obtain ⟨u1, u2, rfl, r1, r2⟩ := vals2 r
  have e2 := k.eq r2
  subst e2
  cases (show u1 = Value.ref a from r1)
  obtain ⟨ox, od, J⟩ := isx_at I hx
  exact PySem.W.kia_one (PySem.W.kitx_exc (ox := ox) (od := od) (cls_some T.hd) T.hg T.hk T.hs T.ha T.hn T.ht T.hm) I.kIn J e (fun z => nomatch z) fun tk => ⟨.bl b, H, I.tok tk, rfl, q⟩
/-- e.value -/
def tVal (K : Fg) (te : TE) : TE := fun σ H Q => te σ H fun x H1 => ∃ a C v, x = .ref a ∧ ExV H1 a C v ∧ ExcC K C ∧ PySem.W.findIn K (.ref C) "value" = some none ∧ Q v H1
theorem pe_value {e : Expr} {te : TE} {pos : Pos} (he : PE X e te) (hb : attributeBase e "value" X.env (eval e X.env) = eval e X.env := by rfl) : PE X (.Attribute e "value" pos) (tVal X.K te) := by
  refine ⟨fun pins s σ H Q I h => attr_of hb (thn (he.run pins s σ H _ I h) ?_)⟩
  intro u s1 ⟨x, H1, I1, rx, a, C, v, ex, ⟨d, h1, h2⟩, T, no, q⟩
  subst ex
  cases (show u = Value.ref a from rx)
  obtain ⟨t1, e1⟩ := exo_at I1.hok h1
  obtain ⟨mA, hn, hr⟩ := exd_at I1.hok h2
  obtain ⟨od, ho, hl⟩ := lookIn_ns hn
  have l : List.lookup ("value" : Str) [(("value" : Str), v)] = some v := by simp [List.lookup]
  obtain ⟨z, hz, rz⟩ := RelO.some_of (v := v) (o := mA "value") (by rw [← l]; exact hr "value")
  have J : PySem.W.InstAt s1.heap a _ C (some od) := ⟨e1, rfl, rfl, ho⟩
  exact HandSPX.exc_get I1.kIn J T.hg T.hk T.hs (PySem.W.findObj_own T.hd no rfl (by rw [hl, hz])) (handed_of rz) ⟨v, H1, I1.tok _, rz, q⟩
end
end TD

set_option maxHeartbeats 4000000
/-! # E2: lists of exceptions; what each of them is -/
namespace TD
open PySem PySem.Spec PyProof.Rows L2
open Evl (Ex Ev EvA EvL EvT RV)
/-- one exception of each class, all with v in the field -/
def AllE (H : Hp) (v : V) : List Addr → List Addr → Prop := Paired fun a C => ExV H a C v
theorem AllE.ex {H H' : Hp} {v : V} (e : Ex H H') : ∀ {as Cs : List Addr}, AllE H v as Cs → AllE H' v as Cs
  | _, _, .nil => .nil
  | _, _, .cons h t => .cons (h.ex e) (AllE.ex e t)
theorem AllE.app {H : Hp} {v : V} : ∀ {as Cs bs Ds : List Addr}, AllE H v as Cs → AllE H v bs Ds → AllE H v (as ++ bs) (Cs ++ Ds)
  | _, _, _, _, .nil, k => k
  | _, _, _, _, .cons h t, k => .cons h (AllE.app t k)
theorem AllE.len {H : Hp} {v : V} : ∀ {as Cs : List Addr}, AllE H v as Cs → as.length = Cs.length
  | _, _, .nil => rfl
  | _, _, .cons h t => congrArg Nat.succ (AllE.len t)
theorem AllE.get {H : Hp} {v : V} : ∀ {as Cs : List Addr} {i : Nat} {a : Addr}, AllE H v as Cs → as[i]? = some a → ∃ C, Cs[i]? = some C ∧ ExV H a C v
  | _, _, _, _, .nil, h => by simp at h
  | _, _, 0, _, .cons h t, e => by
    simp at e
    subst e
    exact ⟨_, rfl, h⟩
  | _, _, i + 1, _, .cons h t, e => AllE.get (i := i) t e
def EvX (ta : TA) (σ : L2.St) (H : Hp) (Cs : List Addr) (v : V) : Prop := ∀ H1, Ex H H1 → ∀ Q : List V → Hp → Prop, (∀ as H2, Ex H1 H2 → AllE H2 v as Cs → Q (as.map V.ref) H2) → ta σ H1 Q
/-- a new list of new ones -/
def EvXL (te : TE) (σ : L2.St) (H : Hp) (Cs : List Addr) (v : V) : Prop := ∀ H1, Ex H H1 → ∀ Q : VK, (∀ l as H2, H1 l = none → Ex H1 H2 → H2 l = some (.lst (as.map V.ref)) → AllE H2 v as Cs → Q (.ref l) H2) → te σ H1 Q
section
variable {K : Fg} {σ : L2.St} {H : Hp} {ta tr : TA} {C : Addr} {Cs Ds : List Addr} {v : V}
theorem ex_nil : EvX tNil σ H [] v := fun H1 _ Q q => q [] H1 (Ex.refl H1) .nil
theorem ex_cons (ha : EvA ta σ H [v]) (hr : EvX tr σ H Cs v) : EvX (tCons (tMke C ta) tr) σ H (C :: Cs) v := fun H1 e Q q =>
  ha H1 e _ fun H2 e2 => ⟨v, rfl, fun a H3 hn e3 h3 => hr H3 ((e.trans e2).trans e3) _ fun as H4 e4 h4 => q (a :: as) H4 ((e2.trans e3).trans e4) (.cons (h3.ex e4) h4)⟩
theorem exl_lst (h : EvX ta σ H Cs v) (hl : Cs.length ≤ 1000) : EvXL (tLst ta) σ H Cs v := fun H1 e Q q =>
  h H1 e _ fun as H2 e2 hA => ⟨by
    rw [List.length_map, hA.len]
    exact Evl.sz_of (by omega), fun p hp => q p as _ (Evl.fresh_back e2 hp) (e2.trans (Ex.new hp)) upd_same (hA.ex (Ex.new hp))⟩
theorem exl_cat {i : Nat} {l : Addr} {as : List Addr} {te : TE} (hv : σ[i]? = some (some (.ref l))) (hl : H l = some (.lst (as.map V.ref))) (hA : AllE H v as Cs) (h : EvXL te σ H Ds v) (hz : Cs.length + Ds.length ≤ 1000) :
    EvXL (tOp rCat (tVar i) te) σ H (Cs ++ Ds) v := fun H1 e Q q =>
  ⟨.ref l, hv, h H1 e _ fun m bs H2 n2 e2 h2 hB => ⟨l, m, _, _, rfl, rfl, e2 _ _ (e _ _ hl), h2, by
    rw [List.length_map, List.length_map, hA.len, hB.len]
    exact Evl.sz_of (by omega), fun p hp => q p (as ++ bs) _ (Evl.fresh_back e2 hp) (e2.trans (Ex.new hp)) (by rw [upd_same, List.map_append]) (((hA.ex (e.trans e2)).app hB).ex (Ex.new hp))⟩⟩
/-! ### what it is -/
/-- C is, is none of each of the classes -/
def KdL (K : Fg) (C : Addr) : List Addr → List Bool → Prop := Paired fun D b => PySem.W.kitOne K (.ref C) (.ref D) = some b
theorem KdL.len {C : Addr} : ∀ {Ds : List Addr} {bs : List Bool}, KdL K C Ds bs → bs.length = Ds.length
  | _, _, .nil => rfl
  | _, _, .cons h t => congrArg Nat.succ (KdL.len t)
theorem ev_isx {a C D : Addr} {b : Bool} {i : Nat} (hv : σ[i]? = some (some (.ref a))) (hx : IsX H a C) (T : ExcC K C) (k : PySem.W.kitOne K (.ref C) (.ref D) = some b) :
    Ev (tCB (rIsX K) (tCons (tVar i) (tCons (tC (.ref D)) tNil))) σ H (.bl b) := fun H1 e Q q =>
  ⟨.ref a, hv, a, C, .ref D, .ref D, b, rfl, hx.ex e, T, .own D, k, q H1 (Ex.refl H1)⟩
theorem ev_isx_ty {a C : Addr} {n : String} {b : Bool} {i : Nat} (hv : σ[i]? = some (some (.ref a))) (hx : IsX H a C) (T : ExcC K C) (k : PySem.W.kitOne K (.ref C) (.type n) = some b) :
    Ev (tCB (rIsX K) (tCons (tVar i) (tCons (tC (.ty n)) tNil))) σ H (.bl b) := fun H1 e Q q =>
  ⟨.ref a, hv, a, C, .ty n, .type n, b, rfl, hx.ex e, T, .ty n, k, q H1 (Ex.refl H1)⟩
theorem el_cat {i : Nat} {l : Addr} {xs ys : List V} {te : TE} (hv : σ[i]? = some (some (.ref l))) (hl : H l = some (.lst xs)) (h : EvL te σ H ys) (hz : xs.length + ys.length ≤ 1000) :
    EvL (tOp rCat (tVar i) te) σ H (xs ++ ys) := fun H1 e Q q =>
  ⟨.ref l, hv, h H1 e _ fun m H2 n2 e2 h2 => ⟨l, m, _, _, rfl, rfl, e2 _ _ (e _ _ hl), h2, Evl.sz_of (by omega), fun p hp => q p _ (Evl.fresh_back e2 hp) (e2.trans (Ex.new hp)) upd_same⟩⟩
end
/-! ### equal to itself; texts many times -/
def rEqW (K : Fg) : R2 := fun x y H Q => rEqA K x y H Q ∨ rEqV K x y H Q
def rMulS : R2 := fun x y H Q => ∃ z n, x = .str z ∧ y = .int n ∧ MulOk z n ∧ Q (.str (Txt.mul z n)) H
section
variable {X : Cx}
theorem op_eqW (sm : ∃ mm, X.base.Ns sysModules mm) (hu : X.A.units + 64 < cLine) : OpR X (compareOp .Eq) (rEqW X.K) := by
  intro pins s σ H x y v u Q I rx ry h
  rcases h with h | h
  · exact op_eqA sm hu pins s σ H x y v u Q I rx ry h
  · exact op_eqV hu pins s σ H x y v u Q I rx ry h
theorem op_mulS : OpR X (binaryOp .Mult) rMulS := by
  intro pins s σ H x y v u Q I rx ry h
  obtain ⟨z, n, rfl, rfl, hm, q⟩ := h
  obtain ⟨t, rfl⟩ := rx
  obtain ⟨t2, rfl⟩ := ry
  exact SB.mul hm fun t' k => ⟨.str _, H, I.tok k, ⟨t', rfl⟩, q⟩
end
end TD

set_option maxHeartbeats 4000000
/-! # E3: what the written part says of such classes, put together -/
namespace TD
open PySem PySem.Spec PyProof.Rows L2
open Evl (Ex Ev EvA EvL EvT RV)
/-- the text of such an __init__ -/
def iA (a1 a2 : Pos) (e : Expr) : Arguments := { posonlyargs := [], args := [{ arg := "self", annotation := none, pos := a1 }, { arg := "value", annotation := none, pos := a2 }], vararg := none, kwonlyargs := [], kw_defaults := [], kwarg := none, defaults := [e] }
def iB (q1 q2 q3 q4 : Pos) : List Stmt := [.Assign [.Attribute (.Name "self" q1) "value" q2] (.Name "value" q3) q4]
def iS : Scope := { kind := .function, names := [(PySem.Str.ofString "self", .local), (PySem.Str.ofString "value", .local)], isGenerator := false, isCoroutine := false, more := [] }
/-- the first statement of a class -/
def clsM : Stmt → Stmt
  | .ClassDef _ _ _ b _ _ _ _ _ _ _ => b.getD 0 (.Pass ⟨0, 0, 0, 0⟩)
  | s => s
abbrev bmV (r : List Value) : List Value := r ++ [.type "ValueError", .type "Exception", .type "BaseException", .type "object"]
/-- C stands as an exception class over the classes r -/
structure Std (K : Fg) (mg : Str → Option Value) (x : Str) (C : Addr) (r : List Value) : Prop where
  gC : mg x = some (.ref C)
  kC : PySem.W.keepIn K (.ref C) = true
  tyC : PySem.W.typeIn K (.ref C) = some (.type "type")
  cls : ∃ nm q N bs sn sub ab col dd k0 k1 k2 k3 k5, K.lookup C = some (excClassObj nm q C N bs (bmV r) true sn sub ab col dd k0 k1 k2 k3 k5 "ValueError.__new__")
  hg : PySem.W.findIn K (.ref C) "__getattribute__" = some (some (.builtin "BaseException.__getattribute__"))
  hk : PySem.W.findIn K (.ref C) "__getattr__" = some none
  ha : PySem.W.findIn K (.ref C) "__class__" = some (some (.builtin "object.__class__"))
  hn : PySem.W.specialIn K (.builtin "object.__class__") "__get__" = some (some (.builtin "getset_descriptor.__get__"))
  ht : PySem.W.takesIn K (.builtin "object.__class__") = some true
section
variable {P : Program} {w : World} {K : Fg} {mg : Str → Option Value} {base : Heap} {x : Str} {C D fI : Addr} {r : List Value}
theorem Std.mro (h : Std K mg x C r) (v : Value) : PySem.W.mroIn K C v = some ((Value.ref C :: bmV r).contains v) := by
  obtain ⟨nm, q, N, bs, sn, sub, ab, col, dd, k0, k1, k2, k3, k5, e⟩ := h.cls
  unfold PySem.W.mroIn PySem.W.clsIn
  rw [e]
  rfl
theorem Std.has (h : Std K mg x C r) : PySem.W.hasDictIn K C = true := by
  obtain ⟨nm, q, N, bs, sn, sub, ab, col, dd, k0, k1, k2, k3, k5, e⟩ := h.cls
  unfold PySem.W.hasDictIn PySem.W.clsIn
  rw [e]
  rfl
theorem Std.isCls (h : Std K mg x C r) : (PySem.W.clsIn K C).isSome = true := by
  obtain ⟨nm, q, N, bs, sn, sub, ab, col, dd, k0, k1, k2, k3, k5, e⟩ := h.cls
  unfold PySem.W.clsIn
  rw [e]
  rfl
theorem bm_has {v : Value} (h : v ∈ bmV r) : (Value.ref C :: bmV r).contains v = true := List.contains_iff_mem.mpr (List.mem_cons_of_mem _ h)
theorem Std.sub (h : Std K mg x C r) {v : Value} (hv : v ∈ bmV r) : PySem.W.subIn K (.ref C) v = some true := by
  show PySem.W.mroIn K C v = some true
  rw [h.mro, bm_has hv]
theorem Std.exc (h : Std K mg x C r) : ExcC K C where
  hg := h.hg
  hk := h.hk
  hs := h.sub (List.mem_append_right _ (by decide))
  hd := h.has
  ha := h.ha
  hn := h.hn
  ht := h.ht
  hm := h.sub (List.mem_append_right _ (by decide))
theorem Std.kitT (h : Std K mg x C r) {T : String} (hT : Value.type T ∈ bmV r) (m : PySem.W.kitMeta T = true) : PySem.W.kitOne K (.ref C) (.type T) = some true := by
  unfold PySem.W.kitOne
  rw [if_neg (by simp)]
  show (if PySem.W.kitMeta T = true then PySem.W.subIn K (.ref C) (.type T) else none) = some true
  rw [if_pos m, h.sub hT]
theorem Std.kit {y : Str} {r' : List Value} (h : Std K mg x C r) (k : Std K mg y D r') (hr : Value.ref D ∉ bmV r) : PySem.W.kitOne K (.ref C) (.ref D) = some (decide (C = D)) := by
  unfold PySem.W.kitOne
  by_cases e : C = D
  · subst e
    rw [if_pos (by simp), decide_eq_true rfl]
  · rw [if_neg (by simpa using e), decide_eq_false e]
    show (if ((PySem.W.clsIn K D).isSome && PySem.W.typeIn K (.ref D) == some (.type "type")) = true then PySem.W.subIn K (.ref C) (.ref D) else none) = some false
    rw [if_pos (by rw [k.isCls, k.tyC]; rfl)]
    show PySem.W.mroIn K C (.ref D) = some false
    rw [h.mro]
    congr 1
    rw [Bool.eq_false_iff]
    intro z
    rcases List.mem_cons.mp (List.contains_iff_mem.mp z) with z | z
    · injection z with z
      exact e z.symm
    · exact hr z
theorem Std.kitUp {y : Str} {r' : List Value} (h : Std K mg x C r) (k : Std K mg y D r') (hr : Value.ref D ∈ bmV r) : PySem.W.kitOne K (.ref C) (.ref D) = some true := by
  unfold PySem.W.kitOne
  by_cases e : C = D
  · subst e
    rw [if_pos (by simp)]
  · rw [if_neg (by simpa using e)]
    show (if ((PySem.W.clsIn K D).isSome && PySem.W.typeIn K (.ref D) == some (.type "type")) = true then PySem.W.subIn K (.ref C) (.ref D) else none) = some true
    rw [if_pos (by rw [k.isCls, k.tyC]; rfl), h.sub hr]
/-! ### the contract of __init__ -/
theorem ini_ok {qual : Str} {a1 a2 q1 q2 q3 q4 : Pos} {e : Expr} {dvs : List V} {fd : FuncData} (F : FunD K "__init__" qual (iA a1 a2 e) (iB q1 q2 q3 q4) iS dvs [] fI fd) : FnOk P w K mg base CX0 1 fI fd ["self", "value"] (spIni K) := by
  have S : FnScope ["self", "value"] ["self", "value"] iS := ⟨rfl, rfl, rfl, by decide +kernel, rfl, by decide +kernel, by decide +kernel⟩
  refine F.ok S (fun vs H Q E h => ?_) (fun cdv A outer s H vs Q E hr h => ⟨_, pss_one (ps_ost (pv 0) (pv 1)), ?_⟩)
  · obtain ⟨a, C, v, rfl, _⟩ := h
    rfl
  · obtain ⟨a, C, v, rfl, T, hno, ha, q⟩ := h
    exact ⟨v, rfl, .ref a, rfl, a, C, rfl, T, hno, .inl ⟨ha, fun dx hn ne => q dx hn ne⟩⟩
theorem ini_bd {qual : Str} {a1 a2 q1 q2 q3 q4 : Pos} {e : Expr} {fd : FuncData} (F : FunD K "__init__" qual (iA a1 a2 e) (iB q1 q2 q3 q4) iS [.non] [] fI fd) : Bd K fd := by
  refine ⟨fun s z u hK => ?_, fun s z hK => ?_, fun s z u hK => ?_⟩
  · obtain ⟨ds, r, b⟩ := F.binds1 (ps := ["self", "value"]) 2 1 (by decide) rfl fun T kV doc pm an cdv ct us its h1 h2 => by
      match us, its, h1, h2 with
      | [_, _], [_], _, _ => exact ⟨_, rfl, rfl⟩
    cases r
    exact b s [z, u] hK rfl
  · obtain ⟨ds, r, b⟩ := F.binds1 (ps := ["self", "value"]) 1 0 (by decide) rfl fun T kV doc pm an cdv ct us its h1 h2 => by
      match us, its, h1, h2 with
      | [_], [_], _, _ => exact ⟨_, rfl, rfl⟩
    obtain ⟨u, rfl, ru⟩ := vals1 (show Vals [V.non] ds from r)
    cases (show u = Value.none from ru)
    exact b s [z] hK rfl
  · obtain ⟨oc, od, dV, kV, doc, pm, an, cdv, ct, osl, rfl, lk, hcd, hD, hW⟩ := F.ex
    rcases hD with ⟨h0, _⟩ | ⟨_, T, o, its, m, rfl, lT, oT, rT⟩
    · cases h0
    · obtain ⟨u2, rfl, ru⟩ := vals1 rT
      refine BindsTo.of_looks fun M => ?_
      have e : ∃ k, bindArgs (PySem.W.fnOf "__init__" qual (iA a1 a2 e) (iB q1 q2 q3 q4) iS (.ref T) kV doc pm an cdv ct) ⟨[z], [(("value" : Str), u)]⟩ = seqItems? (.ref T) >>= k ∧ k (some [u2].toArray) = pure ((["self", "value"] : List Str).zip [z, u]) := ⟨_, rfl, rfl⟩
      obtain ⟨k, e1, e2⟩ := e
      rw [e1]
      exact looks_items hK lT oT (.of_pure e2)
/-- the class x with its __init__ -/
theorem mke_of {qual : Str} {st : Stmt} {fT : Addr} {oc kV doc pm cdv ct : Value} {od an : Option Addr} {osl : Array (Option Value)} {ot : Obj} {n : Nat} (h : Std K mg x C r) (hv : PySem.HandSPX.refsVE (bmV r) = true)
    (sa : PySem.W.findIn K (.ref C) "__setattr__" = some (some (.builtin "object.__setattr__"))) (no : PySem.W.findIn K (.ref C) "value" = some none) (ini : PySem.W.findIn K (.ref C) "__init__" = some (some (.ref fI))) (tI : PySem.W.typeIn K (.ref fI) = some (.type "function"))
    (l1 : K.lookup fI = some ⟨oc, od, .func (PySem.W.fnOf "__init__" qual (defArgs st) (defBody st) (defScope st) (.ref fT) kV doc pm an cdv ct), osl⟩) (c1 : PySem.W.codeIn K cdv qual = true) (k1 : PySem.W.keepIn K (.ref fI) = true)
    (lT : K.lookup fT = some ot) (dT : ot.data = .seq [Value.none].toArray n)
    (hs : ∃ a1 a2 e q1 q2 q3 q4, defArgs st = iA a1 a2 e ∧ defBody st = iB q1 q2 q3 q4 ∧ defScope st = iS) : Mke P w K mg base x C := by
  obtain ⟨a1, a2, e, q1, q2, q3, q4, e1, e2, e3⟩ := hs
  rw [e1, e2, e3] at l1
  have F : FunD K "__init__" qual (iA a1 a2 e) (iB q1 q2 q3 q4) iS [.non] [] fI (PySem.W.fnOf "__init__" qual (iA a1 a2 e) (iB q1 q2 q3 q4) iS (.ref fT) kV doc pm an cdv ct) :=
    ⟨⟨oc, od, .ref fT, kV, doc, pm, an, cdv, ct, osl, rfl, l1, c1, .inr ⟨by decide, fT, ot, [.none], n, rfl, lT, dT, .cons rfl .nil⟩, .inl rfl⟩, k1⟩
  have O : OexC K C := by
    obtain ⟨nm, q, N, bs, sn, sub, ab, col, dd, k0, k1, k2, k3, k5, e⟩ := h.cls
    exact ⟨⟨nm, q, N, bs, _, sn, sub, ab, col, dd, k0, k1, k2, k3, k5, e, hv⟩, sa, h.sub (List.mem_append_right _ (by decide)), h.tyC, h.kC⟩
  exact ⟨fI, _, h.gC, ⟨O, no, ini, tI, h.exc⟩, ini_ok F, ini_bd F⟩
end
/-! ### which of them it is -/
theorem nd_map {α : Type} [DecidableEq α] : ∀ {l : List α} {i : Nat} {c : α} (k : Nat), l.Nodup → l[i]? = some c → l.map (fun d => decide (c = d)) = (List.range' k l.length).map fun j => decide (j = k + i)
  | [], _, _, _, _, h => by simp at h
  | a :: l, 0, c, k, nd, h => by
    simp at h
    subst h
    rw [List.nodup_cons] at nd
    rw [List.map_cons, List.length_cons, List.range'_succ, List.map_cons]
    congr 1
    · rw [decide_eq_true rfl, decide_eq_true (Nat.add_zero k).symm]
    · have e1 : l.map (fun d => decide (a = d)) = l.map (fun _ => false) := List.map_congr_left fun d hd => decide_eq_false fun z => nd.1 (z ▸ hd)
      have e2 : (List.range' (k + 1) l.length).map (fun j => decide (j = k + 0)) = (List.range' (k + 1) l.length).map (fun _ => false) := List.map_congr_left fun j hj => decide_eq_false (by
        have := (List.mem_range'_1.mp hj).1
        omega)
      rw [e1, e2, List.map_const', List.map_const', List.length_range']
  | a :: l, i + 1, c, k, nd, h => by
    rw [List.nodup_cons] at nd
    have hc : l[i]? = some c := by simpa using h
    have ih := nd_map (k + 1) nd.2 hc
    rw [List.map_cons, List.length_cons, List.range'_succ, List.map_cons, ih]
    congr 1
    · have m := List.mem_of_getElem? hc
      rw [decide_eq_false (fun z => nd.1 (by rw [← z]; exact m)), decide_eq_false (by omega)]
    · refine List.map_congr_left fun j _ => ?_
      congr 1
      rw [eq_iff_iff]
      constructor <;> intro z <;> omega
end TD

set_option maxHeartbeats 4000000
/-! # E4: the classes of the document's errors, together -/
namespace TD
open PySem PySem.Spec PyProof.Rows L2
open Evl (Ex Ev EvA EvL EvT RV)
/-- where the classes stand -/
structure Ad where
  InvalidNumber : Addr
  InvalidRoom : Addr
  InvalidLights : Addr
  InvalidLevel : Addr
  InvalidPresses : Addr
  InvalidHistory : Addr
  InvalidRuns : Addr
  InvalidTable : Addr
  InvalidLetters : Addr
  InvalidHouse : Addr
  InvalidWalk : Addr
  InvalidWalks : Addr
  InvalidLayers : Addr
  InvalidText : Addr
  InvalidDeed : Addr
  Unlike : Addr
  TooMany : Addr
  NothingToUndo : Addr
  NothingToRedo : Addr
  DoorError : Addr
def Ad.l17 (A : Ad) : List Addr := [A.InvalidNumber, A.InvalidRoom, A.InvalidLights, A.InvalidLevel, A.InvalidPresses, A.InvalidHistory, A.InvalidRuns, A.InvalidTable, A.InvalidLetters, A.InvalidHouse, A.InvalidWalk, A.InvalidWalks, A.InvalidLayers, A.InvalidText, A.InvalidDeed, A.Unlike, A.TooMany]
def Ad.l19 (A : Ad) : List Addr := [A.InvalidNumber, A.InvalidRoom, A.InvalidLights, A.InvalidLevel, A.InvalidPresses, A.InvalidHistory, A.InvalidRuns, A.InvalidTable, A.InvalidLetters, A.InvalidHouse, A.InvalidWalk, A.InvalidWalks, A.InvalidLayers, A.InvalidText, A.InvalidDeed, A.Unlike, A.TooMany, A.NothingToUndo, A.NothingToRedo]
structure Ck (P : Program) (w : World) (K : Fg) (mg : Str → Option Value) (base : Heap) (A : Ad) : Prop where
  InvalidNumber : Mke P w K mg base "InvalidNumber" A.InvalidNumber
  InvalidRoom : Mke P w K mg base "InvalidRoom" A.InvalidRoom
  InvalidLights : Mke P w K mg base "InvalidLights" A.InvalidLights
  InvalidLevel : Mke P w K mg base "InvalidLevel" A.InvalidLevel
  InvalidPresses : Mke P w K mg base "InvalidPresses" A.InvalidPresses
  InvalidHistory : Mke P w K mg base "InvalidHistory" A.InvalidHistory
  InvalidRuns : Mke P w K mg base "InvalidRuns" A.InvalidRuns
  InvalidTable : Mke P w K mg base "InvalidTable" A.InvalidTable
  InvalidLetters : Mke P w K mg base "InvalidLetters" A.InvalidLetters
  InvalidHouse : Mke P w K mg base "InvalidHouse" A.InvalidHouse
  InvalidWalk : Mke P w K mg base "InvalidWalk" A.InvalidWalk
  InvalidWalks : Mke P w K mg base "InvalidWalks" A.InvalidWalks
  InvalidLayers : Mke P w K mg base "InvalidLayers" A.InvalidLayers
  InvalidText : Mke P w K mg base "InvalidText" A.InvalidText
  InvalidDeed : Mke P w K mg base "InvalidDeed" A.InvalidDeed
  Unlike : Mke P w K mg base "Unlike" A.Unlike
  TooMany : Mke P w K mg base "TooMany" A.TooMany
  NothingToUndo : Mkn K mg "NothingToUndo" A.NothingToUndo
  NothingToRedo : Mkn K mg "NothingToRedo" A.NothingToRedo
  DoorError : Mkn K mg "DoorError" A.DoorError
  s_InvalidNumber : Std K mg "InvalidNumber" A.InvalidNumber [.ref A.DoorError]
  s_InvalidRoom : Std K mg "InvalidRoom" A.InvalidRoom [.ref A.DoorError]
  s_InvalidLights : Std K mg "InvalidLights" A.InvalidLights [.ref A.DoorError]
  s_InvalidLevel : Std K mg "InvalidLevel" A.InvalidLevel [.ref A.DoorError]
  s_InvalidPresses : Std K mg "InvalidPresses" A.InvalidPresses [.ref A.DoorError]
  s_InvalidHistory : Std K mg "InvalidHistory" A.InvalidHistory [.ref A.DoorError]
  s_InvalidRuns : Std K mg "InvalidRuns" A.InvalidRuns [.ref A.DoorError]
  s_InvalidTable : Std K mg "InvalidTable" A.InvalidTable [.ref A.DoorError]
  s_InvalidLetters : Std K mg "InvalidLetters" A.InvalidLetters [.ref A.DoorError]
  s_InvalidHouse : Std K mg "InvalidHouse" A.InvalidHouse [.ref A.DoorError]
  s_InvalidWalk : Std K mg "InvalidWalk" A.InvalidWalk [.ref A.DoorError]
  s_InvalidWalks : Std K mg "InvalidWalks" A.InvalidWalks [.ref A.DoorError]
  s_InvalidLayers : Std K mg "InvalidLayers" A.InvalidLayers [.ref A.DoorError]
  s_InvalidText : Std K mg "InvalidText" A.InvalidText [.ref A.DoorError]
  s_InvalidDeed : Std K mg "InvalidDeed" A.InvalidDeed [.ref A.DoorError]
  s_Unlike : Std K mg "Unlike" A.Unlike [.ref A.DoorError]
  s_TooMany : Std K mg "TooMany" A.TooMany [.ref A.DoorError]
  s_NothingToUndo : Std K mg "NothingToUndo" A.NothingToUndo [.ref A.DoorError]
  s_NothingToRedo : Std K mg "NothingToRedo" A.NothingToRedo [.ref A.DoorError]
  s_DoorError : Std K mg "DoorError" A.DoorError []
  nd : (A.DoorError :: A.l19).Nodup
section
variable {P : Program} {w : World} {K : Fg} {mg : Str → Option Value} {base : Heap} {A : Ad}
theorem Ck.std (M : Ck P w K mg base A) : ∀ C ∈ A.l19, ∃ x, Std K mg x C [.ref A.DoorError] := List.forall_mem_cons.mpr ⟨⟨_, M.s_InvalidNumber⟩, List.forall_mem_cons.mpr ⟨⟨_, M.s_InvalidRoom⟩, List.forall_mem_cons.mpr ⟨⟨_, M.s_InvalidLights⟩, List.forall_mem_cons.mpr ⟨⟨_, M.s_InvalidLevel⟩, List.forall_mem_cons.mpr ⟨⟨_, M.s_InvalidPresses⟩, List.forall_mem_cons.mpr ⟨⟨_, M.s_InvalidHistory⟩, List.forall_mem_cons.mpr ⟨⟨_, M.s_InvalidRuns⟩, List.forall_mem_cons.mpr ⟨⟨_, M.s_InvalidTable⟩, List.forall_mem_cons.mpr ⟨⟨_, M.s_InvalidLetters⟩, List.forall_mem_cons.mpr ⟨⟨_, M.s_InvalidHouse⟩, List.forall_mem_cons.mpr ⟨⟨_, M.s_InvalidWalk⟩, List.forall_mem_cons.mpr ⟨⟨_, M.s_InvalidWalks⟩, List.forall_mem_cons.mpr ⟨⟨_, M.s_InvalidLayers⟩, List.forall_mem_cons.mpr ⟨⟨_, M.s_InvalidText⟩, List.forall_mem_cons.mpr ⟨⟨_, M.s_InvalidDeed⟩, List.forall_mem_cons.mpr ⟨⟨_, M.s_Unlike⟩, List.forall_mem_cons.mpr ⟨⟨_, M.s_TooMany⟩, List.forall_mem_cons.mpr ⟨⟨_, M.s_NothingToUndo⟩, List.forall_mem_cons.mpr ⟨⟨_, M.s_NothingToRedo⟩, fun _ h => nomatch h⟩⟩⟩⟩⟩⟩⟩⟩⟩⟩⟩⟩⟩⟩⟩⟩⟩⟩⟩
theorem Ck.ne (M : Ck P w K mg base A) : ∀ C ∈ A.l19, C ≠ A.DoorError := fun C h e => (List.nodup_cons.mp M.nd).1 (e ▸ h)
theorem kd_all {x : Str} {C D : Addr} {r : List Value} (h : Std K mg x C r) (hr : ∀ d, d ≠ D → Value.ref d ∉ bmV r) : ∀ Ds : List Addr, (∀ d ∈ Ds, ∃ y, Std K mg y d [.ref D]) → (∀ d ∈ Ds, d ≠ D) → KdL K C Ds (Ds.map fun d => decide (C = d))
  | [], _, _ => .nil
  | d :: Ds, h1, h2 => by
    obtain ⟨y, hd⟩ := h1 d (List.mem_cons_self ..)
    exact .cons (h.kit hd (hr d (h2 d (List.mem_cons_self ..)))) (kd_all h hr Ds (fun e he => h1 e (List.mem_cons_of_mem _ he)) (fun e he => h2 e (List.mem_cons_of_mem _ he)))
theorem not_bm {d : Addr} {r : List Value} (h : Value.ref d ∉ r) : Value.ref d ∉ bmV r := fun z => by
  rcases List.mem_append.mp z with z | z
  · exact h z
  · simp at z
/-- the i-th class: which of the nineteen it is -/
theorem Ck.kinds (M : Ck P w K mg base A) {i : Nat} {C : Addr} (h : A.l19[i]? = some C) : KdL K C A.l19 ((List.range 19).map fun j => decide (j = i)) := by
  obtain ⟨x, hx⟩ := M.std C (List.mem_of_getElem? h)
  have k := kd_all hx (D := A.DoorError) (fun d hd => not_bm (by simpa using hd)) A.l19 M.std M.ne
  have e := nd_map 0 (List.nodup_cons.mp M.nd).2 h
  have e2 : (List.range 19).map (fun j => decide (j = i)) = (List.range' 0 A.l19.length).map (fun j => decide (j = 0 + i)) := by
    rw [Nat.zero_add, List.range_eq_range']
    rfl
  rw [e2, ← e]
  exact k
theorem Ck.kinds0 (M : Ck P w K mg base A) : KdL K A.DoorError A.l19 ((List.range 19).map fun _ => false) := by
  have k := kd_all M.s_DoorError (D := A.DoorError) (fun d hd => not_bm (by simp)) A.l19 M.std M.ne
  have e : (A.l19.map fun d => decide (A.DoorError = d)) = A.l19.map fun _ => false := List.map_congr_left fun d hd => decide_eq_false fun z => M.ne d hd z.symm
  rw [e] at k
  exact k
theorem Ck.isD (M : Ck P w K mg base A) {C : Addr} (h : C ∈ A.l19) : PySem.W.kitOne K (.ref C) (.ref A.DoorError) = some true := by
  obtain ⟨x, hx⟩ := M.std C h
  exact hx.kitUp M.s_DoorError (List.mem_append_left _ (List.mem_singleton.mpr rfl))
theorem Ck.isV (M : Ck P w K mg base A) {C : Addr} (h : C ∈ A.l19) : PySem.W.kitOne K (.ref C) (.type "ValueError") = some true := by
  obtain ⟨x, hx⟩ := M.std C h
  exact hx.kitT (List.mem_append_right _ (by decide)) (by decide +kernel)
theorem Ck.dV (M : Ck P w K mg base A) : PySem.W.kitOne K (.ref A.DoorError) (.type "ValueError") = some true := M.s_DoorError.kitT (List.mem_append_right _ (by decide)) (by decide +kernel)
theorem Ck.exc (M : Ck P w K mg base A) {C : Addr} (h : C ∈ A.l19) : ExcC K C := let ⟨_, hx⟩ := M.std C h; hx.exc
end
/-! ### enumerate -/
theorem for_enum {K : PySem.W.Frag} {a : Addr} {xs : List V} {g : TG} {tb : TS} {D : Ends} {σ : L2.St} {H : Hp} (Pv : Nat → L2.St → Hp → Prop) (h0 : Pv 0 σ H) (hl : ∀ i σ H, i ≤ xs.length → Pv i σ H → SqL K H a xs)
    (hs : ∀ i x T σ H, xs[i]? = some x → Pv i σ H → H T = none → g (.ref T) σ (upd H T (.tup [.int (i : Nat), x])) fun σ2 H2 => tb { D with nx := Pv (i + 1), ct := Pv (i + 1), bk := D.nx } σ2 H2) (hd : ∀ σ H, Pv xs.length σ H → D.nx σ H) :
    ∃ W : Nat → Nat → L2.St → Hp → Prop, (∃ m, W 0 m σ H) ∧ ∀ i m σ H, W i m σ H →
      ((Ite K a).stop i H ∧ D.nx σ H) ∨ ((Ite K a).go i H ∧ ∃ N : L2.St → Hp → Prop, (∀ σ' H', N σ' H' → ∃ m', m' < m ∧ W (i + 1) m' σ' H') ∧ ∀ x H', (Ite K a).yld i H x H' → g x σ H' fun σ2 H2 => tb { D with nx := N, ct := N, bk := D.nx } σ2 H2) := by
  refine ⟨fun i m σ H => m = xs.length - i ∧ i ≤ xs.length ∧ Pv i σ H, ⟨xs.length, by simp, Nat.zero_le _, h0⟩, ?_⟩
  rintro i m σ H ⟨rfl, hi, p⟩
  have q := hl i σ H hi p
  by_cases hlt : i < xs.length
  · refine .inr ⟨⟨xs, xs[i], q, by simp [hlt]⟩, Pv (i + 1), fun σ' H' p' => ⟨xs.length - (i + 1), by omega, rfl, hlt, p'⟩, fun x H' y => ?_⟩
    obtain ⟨T, z, rfl, hT, rfl, y⟩ := y
    exact hs i z T σ H (y xs q) p hT
  · have e : i = xs.length := by omega
    subst e
    exact .inl ⟨⟨xs, q, Nat.le_refl _⟩, hd σ H p⟩
/-- a pair unpacked into two names -/
theorem g_pair {K : PySem.W.Frag} {i j : Nat} {T : Addr} {x y : V} {σ : L2.St} {H : Hp} {Q : L2.St → Hp → Prop} (h : H T = some (.tup [x, y])) (q : Q ((σ.set i (some x)).set j (some y)) H) : gTup K 2 (gCons (gName i) (gCons (gName j) gNil)) (.ref T) σ H Q :=
  ⟨T, _, rfl, Evl.st_of h, rfl, _, _, rfl, _, _, rfl, rfl, q⟩
/-! ### the promises of the law's defs -/
def spMade (A : Ad) : Sp := fun vs H Q _ => ∃ v, vs = [v] ∧ ∀ l as H', H l = none → Ex H H' → H' l = some (.lst (as.map V.ref)) → AllE H' v as A.l17 → Q (.ref l) H'
def spEmpty (A : Ad) : Sp := fun vs H Q _ => vs = [] ∧ ∀ l as H', H l = none → Ex H H' → H' l = some (.lst (as.map V.ref)) → AllE H' .non as A.l17 → Q (.ref l) H'
def spKinds (K : Fg) (A : Ad) : Sp := fun vs H Q _ => ∃ a C bs, vs = [.ref a] ∧ IsX H a C ∧ ExcC K C ∧ KdL K C A.l19 bs ∧ ∀ l H', H l = none → Ex H H' → H' l = some (.lst (bs.map V.bl)) → Q (.ref l) H'
/-- a value that is like itself and may be printed -/
def Vok (K : Fg) (H : Hp) (v : V) : Prop := (∃ d, Da K H v d ∧ Fine d) ∧ ∀ H', Ex H H' → ∀ Q : VK, Q (.bl true) H' → rEqW K v v H' Q
theorem Vok.ex {K : Fg} {H H' : Hp} {v : V} (e : Ex H H') (h : Vok K H v) : Vok K H' v := by
  obtain ⟨⟨d, h1, h2⟩, h3⟩ := h
  exact ⟨⟨d, h1.ex e, h2⟩, fun H2 e2 => h3 H2 (e.trans e2)⟩
def spRow (K : Fg) (A : Ad) : Sp := fun vs H Q _ => ∃ l as v, vs = [.ref l, v] ∧ H l = some (.lst (as.map V.ref)) ∧ AllE H v as A.l17 ∧ Vok K H v ∧ ∀ H', Ex H H' → Q (.bl true) H'
def spLaw (K : Fg) : Sp := fun vs H Q _ => ∃ (s : Addr) (ns : List Int), vs = [.ref s] ∧ SqL K H s (ns.map V.int) ∧ ∀ H', Q (.bl true) H'
section
variable {σ : L2.St} {H : Hp} {te : TE} {tz : TS} {D : Ends} {i : Nat} {Cs : List Addr} {v : V}
theorem q_asgX (h : EvXL te σ H Cs v) (k : ∀ l as H1, H l = none → Ex H H1 → H1 l = some (.lst (as.map V.ref)) → AllE H1 v as Cs → tz D (σ.set i (some (.ref l))) H1) : tSeq (tAsg te (gName i)) tz D σ H := h H (Ex.refl H) _ k
theorem s_retX (h : EvXL te σ H Cs v) (k : ∀ l as H1, H l = none → Ex H H1 → H1 l = some (.lst (as.map V.ref)) → AllE H1 v as Cs → D.rt (.ref l) H1) : tRet te D σ H := h H (Ex.refl H) _ k
theorem exl_is {Ds : List Addr} (h : EvXL te σ H Cs v) (e : Cs = Ds) : EvXL te σ H Ds v := e ▸ h
end
end TD

set_option maxHeartbeats 4000000
namespace TD
open PySem PySem.Spec PyProof.Rows L2
open Evl (Ex Ev EvA EvL EvT RV)
/-! # law_k05's own defs -/
structure B5 (mg : Str → Option Value) : Prop where
  isinstance : mg "isinstance" = none
  ValueError : mg "ValueError" = none
  enumerate : mg "enumerate" = none
  range : mg "range" = none
  repr : mg "repr" = none
  len : mg "len" = none
section
variable {P : Program} {w : World} {K : Fg} {mg : Str → Option Value} {base : Heap} {A : Ad}
abbrev s__law_made : Stmt := topS 26
theorem f__law_made (M : Ck P w K mg base A) (a : At K mg "_law_made" s__law_made) : Fc P w K mg base "_law_made" ["_law_value"] 3 (spMade A) := by
  have S : FnScope ["_law_value", "_law_found"] ["_law_value"] (defScope s__law_made) := ⟨rfl, rfl, rfl, by decide +kernel, rfl, by decide +kernel, by decide +kernel⟩
  obtain ⟨f, fd, F, hm⟩ := a
  refine ⟨f, fd, hm, F.kp, F.binds (fun _ _ _ _ _ _ us hl => match us, hl with | [_], _ => rfl), fnG F S ?_ ?_⟩
  · rintro vs H Q E ⟨v, rfl, _⟩
    rfl
  intro cdv Ar outer s H vs Q E gu hr ⟨v, ev, q⟩
  subst ev
  have hc : (cxOf CX0 P w K mg base ["_law_value", "_law_found"] "_law_made" (defScope s__law_made) f cdv Ar outer s H E).nox.calm = true := rfl
  suffices h : ∃ t, PSs (cxOf CX0 P w K mg base ["_law_value", "_law_found"] "_law_made" (defScope s__law_made) f cdv Ar outer s H E).nox (defBody s__law_made) t ∧ t { nx := fun _ H' => Q .non H', rt := Q } (L2.start ["_law_value", "_law_found"] [v]) H by
    obtain ⟨t, h1, h2⟩ := h
    exact ⟨t, h1.nox, h2⟩
  refine ⟨_, (pss_cons (ps_set (i := 1) S.nd rfl (by first | exact Or.inl rfl | exact Or.inr rfl) (pe_lst (pa_cons (pe_mk1 M.InvalidNumber (hr.mono (by decide)) (by rfl) (pa_cons (pv 0) pa_nil)) (pa_cons (pe_mk1 M.InvalidRoom (hr.mono (by decide)) (by rfl) (pa_cons (pv 0) pa_nil)) (pa_cons (pe_mk1 M.InvalidLights (hr.mono (by decide)) (by rfl) (pa_cons (pv 0) pa_nil)) (pa_cons (pe_mk1 M.InvalidLevel (hr.mono (by decide)) (by rfl) (pa_cons (pv 0) pa_nil)) (pa_cons (pe_mk1 M.InvalidPresses (hr.mono (by decide)) (by rfl) (pa_cons (pv 0) pa_nil)) pa_nil)))))))
  (pss_cons (ps_set (i := 1) S.nd rfl (by first | exact Or.inl rfl | exact Or.inr rfl) (pe_op op_cat (pv 1) (pe_lst (pa_cons (pe_mk1 M.InvalidHistory (hr.mono (by decide)) (by rfl) (pa_cons (pv 0) pa_nil)) (pa_cons (pe_mk1 M.InvalidRuns (hr.mono (by decide)) (by rfl) (pa_cons (pv 0) pa_nil)) (pa_cons (pe_mk1 M.InvalidTable (hr.mono (by decide)) (by rfl) (pa_cons (pv 0) pa_nil)) (pa_cons (pe_mk1 M.InvalidLetters (hr.mono (by decide)) (by rfl) (pa_cons (pv 0) pa_nil)) (pa_cons (pe_mk1 M.InvalidHouse (hr.mono (by decide)) (by rfl) (pa_cons (pv 0) pa_nil)) (pa_cons (pe_mk1 M.InvalidWalk (hr.mono (by decide)) (by rfl) (pa_cons (pv 0) pa_nil)) pa_nil)))))))))
  (pss_one (ps_ret (pe_op op_cat (pv 1) (pe_lst (pa_cons (pe_mk1 M.InvalidWalks (hr.mono (by decide)) (by rfl) (pa_cons (pv 0) pa_nil)) (pa_cons (pe_mk1 M.InvalidLayers (hr.mono (by decide)) (by rfl) (pa_cons (pv 0) pa_nil)) (pa_cons (pe_mk1 M.InvalidText (hr.mono (by decide)) (by rfl) (pa_cons (pv 0) pa_nil)) (pa_cons (pe_mk1 M.InvalidDeed (hr.mono (by decide)) (by rfl) (pa_cons (pv 0) pa_nil)) (pa_cons (pe_mk1 M.Unlike (hr.mono (by decide)) (by rfl) (pa_cons (pv 0) pa_nil)) (pa_cons (pe_mk1 M.TooMany (hr.mono (by decide)) (by rfl) (pa_cons (pv 0) pa_nil)) pa_nil)))))))))))), ?_⟩
  refine q_asgX (Cs := _) (v := v) (exl_lst (ex_cons (Evl.ea_cons (Evl.ev_var rfl) Evl.ea_nil) (ex_cons (Evl.ea_cons (Evl.ev_var rfl) Evl.ea_nil) (ex_cons (Evl.ea_cons (Evl.ev_var rfl) Evl.ea_nil) (ex_cons (Evl.ea_cons (Evl.ev_var rfl) Evl.ea_nil) (ex_cons (Evl.ea_cons (Evl.ev_var rfl) Evl.ea_nil) ex_nil))))) (Nat.le_of_ble_eq_true rfl)) fun l1 a1 H1 n1 e1 h1 k1 => ?_
  refine q_asgX (v := v) (exl_cat rfl h1 k1 (exl_lst (ex_cons (Evl.ea_cons (Evl.ev_var rfl) Evl.ea_nil) (ex_cons (Evl.ea_cons (Evl.ev_var rfl) Evl.ea_nil) (ex_cons (Evl.ea_cons (Evl.ev_var rfl) Evl.ea_nil) (ex_cons (Evl.ea_cons (Evl.ev_var rfl) Evl.ea_nil) (ex_cons (Evl.ea_cons (Evl.ev_var rfl) Evl.ea_nil) (ex_cons (Evl.ea_cons (Evl.ev_var rfl) Evl.ea_nil) ex_nil)))))) (Nat.le_of_ble_eq_true rfl)) (Nat.le_of_ble_eq_true rfl)) fun l2 a2 H2 n2 e2 h2 k2 => ?_
  refine s_retX (v := v) (exl_is (Ds := A.l17) (exl_cat rfl h2 k2 (exl_lst (ex_cons (Evl.ea_cons (Evl.ev_var rfl) Evl.ea_nil) (ex_cons (Evl.ea_cons (Evl.ev_var rfl) Evl.ea_nil) (ex_cons (Evl.ea_cons (Evl.ev_var rfl) Evl.ea_nil) (ex_cons (Evl.ea_cons (Evl.ev_var rfl) Evl.ea_nil) (ex_cons (Evl.ea_cons (Evl.ev_var rfl) Evl.ea_nil) (ex_cons (Evl.ea_cons (Evl.ev_var rfl) Evl.ea_nil) ex_nil)))))) (Nat.le_of_ble_eq_true rfl)) (Nat.le_of_ble_eq_true rfl)) rfl) fun l as H' n e h k => ?_
  exact q l as H' (Evl.fresh_back (e1.trans e2) n) ((e1.trans e2).trans e) h k
abbrev s__law_by_name : Stmt := topS 27
theorem f__law_by_name (M : Ck P w K mg base A) (a : At K mg "_law_by_name" s__law_by_name) : Fc P w K mg base "_law_by_name" ["_law_value"] 3 (spMade A) := by
  have S : FnScope ["_law_value", "_law_found"] ["_law_value"] (defScope s__law_by_name) := ⟨rfl, rfl, rfl, by decide +kernel, rfl, by decide +kernel, by decide +kernel⟩
  obtain ⟨f, fd, F, hm⟩ := a
  refine ⟨f, fd, hm, F.kp, F.binds (fun _ _ _ _ _ _ us hl => match us, hl with | [_], _ => rfl), fnG F S ?_ ?_⟩
  · rintro vs H Q E ⟨v, rfl, _⟩
    rfl
  intro cdv Ar outer s H vs Q E gu hr ⟨v, ev, q⟩
  subst ev
  have hc : (cxOf CX0 P w K mg base ["_law_value", "_law_found"] "_law_by_name" (defScope s__law_by_name) f cdv Ar outer s H E).nox.calm = true := rfl
  suffices h : ∃ t, PSs (cxOf CX0 P w K mg base ["_law_value", "_law_found"] "_law_by_name" (defScope s__law_by_name) f cdv Ar outer s H E).nox (defBody s__law_by_name) t ∧ t { nx := fun _ H' => Q .non H', rt := Q } (L2.start ["_law_value", "_law_found"] [v]) H by
    obtain ⟨t, h1, h2⟩ := h
    exact ⟨t, h1.nox, h2⟩
  refine ⟨_, (pss_cons (ps_set (i := 1) S.nd rfl (by first | exact Or.inl rfl | exact Or.inr rfl) (pe_lst (pa_cons (pe_mkk M.InvalidNumber (hr.mono (by decide)) (by rfl) (pk_cons (pv 0) pk_nil)) (pa_cons (pe_mkk M.InvalidRoom (hr.mono (by decide)) (by rfl) (pk_cons (pv 0) pk_nil)) (pa_cons (pe_mkk M.InvalidLights (hr.mono (by decide)) (by rfl) (pk_cons (pv 0) pk_nil)) (pa_cons (pe_mkk M.InvalidLevel (hr.mono (by decide)) (by rfl) (pk_cons (pv 0) pk_nil)) pa_nil))))))
  (pss_cons (ps_set (i := 1) S.nd rfl (by first | exact Or.inl rfl | exact Or.inr rfl) (pe_op op_cat (pv 1) (pe_lst (pa_cons (pe_mkk M.InvalidPresses (hr.mono (by decide)) (by rfl) (pk_cons (pv 0) pk_nil)) (pa_cons (pe_mkk M.InvalidHistory (hr.mono (by decide)) (by rfl) (pk_cons (pv 0) pk_nil)) (pa_cons (pe_mkk M.InvalidRuns (hr.mono (by decide)) (by rfl) (pk_cons (pv 0) pk_nil)) (pa_cons (pe_mkk M.InvalidTable (hr.mono (by decide)) (by rfl) (pk_cons (pv 0) pk_nil)) (pa_cons (pe_mkk M.InvalidLetters (hr.mono (by decide)) (by rfl) (pk_cons (pv 0) pk_nil)) pa_nil))))))))
  (pss_cons (ps_set (i := 1) S.nd rfl (by first | exact Or.inl rfl | exact Or.inr rfl) (pe_op op_cat (pv 1) (pe_lst (pa_cons (pe_mkk M.InvalidHouse (hr.mono (by decide)) (by rfl) (pk_cons (pv 0) pk_nil)) (pa_cons (pe_mkk M.InvalidWalk (hr.mono (by decide)) (by rfl) (pk_cons (pv 0) pk_nil)) (pa_cons (pe_mkk M.InvalidWalks (hr.mono (by decide)) (by rfl) (pk_cons (pv 0) pk_nil)) (pa_cons (pe_mkk M.InvalidLayers (hr.mono (by decide)) (by rfl) (pk_cons (pv 0) pk_nil)) pa_nil)))))))
  (pss_one (ps_ret (pe_op op_cat (pv 1) (pe_lst (pa_cons (pe_mkk M.InvalidText (hr.mono (by decide)) (by rfl) (pk_cons (pv 0) pk_nil)) (pa_cons (pe_mkk M.InvalidDeed (hr.mono (by decide)) (by rfl) (pk_cons (pv 0) pk_nil)) (pa_cons (pe_mkk M.Unlike (hr.mono (by decide)) (by rfl) (pk_cons (pv 0) pk_nil)) (pa_cons (pe_mkk M.TooMany (hr.mono (by decide)) (by rfl) (pk_cons (pv 0) pk_nil)) pa_nil))))))))))), ?_⟩
  refine q_asgX (Cs := _) (v := v) (exl_lst (ex_cons (Evl.ea_cons (Evl.ev_var rfl) Evl.ea_nil) (ex_cons (Evl.ea_cons (Evl.ev_var rfl) Evl.ea_nil) (ex_cons (Evl.ea_cons (Evl.ev_var rfl) Evl.ea_nil) (ex_cons (Evl.ea_cons (Evl.ev_var rfl) Evl.ea_nil) ex_nil)))) (Nat.le_of_ble_eq_true rfl)) fun l1 a1 H1 n1 e1 h1 k1 => ?_
  refine q_asgX (v := v) (exl_cat rfl h1 k1 (exl_lst (ex_cons (Evl.ea_cons (Evl.ev_var rfl) Evl.ea_nil) (ex_cons (Evl.ea_cons (Evl.ev_var rfl) Evl.ea_nil) (ex_cons (Evl.ea_cons (Evl.ev_var rfl) Evl.ea_nil) (ex_cons (Evl.ea_cons (Evl.ev_var rfl) Evl.ea_nil) (ex_cons (Evl.ea_cons (Evl.ev_var rfl) Evl.ea_nil) ex_nil))))) (Nat.le_of_ble_eq_true rfl)) (Nat.le_of_ble_eq_true rfl)) fun l2 a2 H2 n2 e2 h2 k2 => ?_
  refine q_asgX (v := v) (exl_cat rfl h2 k2 (exl_lst (ex_cons (Evl.ea_cons (Evl.ev_var rfl) Evl.ea_nil) (ex_cons (Evl.ea_cons (Evl.ev_var rfl) Evl.ea_nil) (ex_cons (Evl.ea_cons (Evl.ev_var rfl) Evl.ea_nil) (ex_cons (Evl.ea_cons (Evl.ev_var rfl) Evl.ea_nil) ex_nil)))) (Nat.le_of_ble_eq_true rfl)) (Nat.le_of_ble_eq_true rfl)) fun l3 a3 H3 n3 e3 h3 k3 => ?_
  refine s_retX (v := v) (exl_is (Ds := A.l17) (exl_cat rfl h3 k3 (exl_lst (ex_cons (Evl.ea_cons (Evl.ev_var rfl) Evl.ea_nil) (ex_cons (Evl.ea_cons (Evl.ev_var rfl) Evl.ea_nil) (ex_cons (Evl.ea_cons (Evl.ev_var rfl) Evl.ea_nil) (ex_cons (Evl.ea_cons (Evl.ev_var rfl) Evl.ea_nil) ex_nil)))) (Nat.le_of_ble_eq_true rfl)) (Nat.le_of_ble_eq_true rfl)) rfl) fun l as H' n e h k => ?_
  exact q l as H' (Evl.fresh_back ((e1.trans e2).trans e3) n) (((e1.trans e2).trans e3).trans e) h k
abbrev s__law_empty : Stmt := topS 28
theorem f__law_empty (M : Ck P w K mg base A) (a : At K mg "_law_empty" s__law_empty) : Fc P w K mg base "_law_empty" [] 3 (spEmpty A) := by
  have S : FnScope ["_law_found"] [] (defScope s__law_empty) := ⟨rfl, rfl, rfl, by decide +kernel, rfl, by decide +kernel, by decide +kernel⟩
  obtain ⟨f, fd, F, hm⟩ := a
  refine ⟨f, fd, hm, F.kp, F.binds (fun _ _ _ _ _ _ us hl => match us, hl with | [], _ => rfl), fnG F S ?_ ?_⟩
  · rintro vs H Q E ⟨rfl, _⟩
    rfl
  intro cdv Ar outer s H vs Q E gu hr ⟨ev, q⟩
  subst ev
  have hc : (cxOf CX0 P w K mg base ["_law_found"] "_law_empty" (defScope s__law_empty) f cdv Ar outer s H E).nox.calm = true := rfl
  suffices h : ∃ t, PSs (cxOf CX0 P w K mg base ["_law_found"] "_law_empty" (defScope s__law_empty) f cdv Ar outer s H E).nox (defBody s__law_empty) t ∧ t { nx := fun _ H' => Q .non H', rt := Q } (L2.start ["_law_found"] []) H by
    obtain ⟨t, h1, h2⟩ := h
    exact ⟨t, h1.nox, h2⟩
  refine ⟨_, (pss_cons (ps_set (i := 0) S.nd rfl (by first | exact Or.inl rfl | exact Or.inr rfl) (pe_lst (pa_cons (pe_mk0 M.InvalidNumber (hr.mono (by decide)) (by rfl)) (pa_cons (pe_mk0 M.InvalidRoom (hr.mono (by decide)) (by rfl)) (pa_cons (pe_mk0 M.InvalidLights (hr.mono (by decide)) (by rfl)) (pa_cons (pe_mk0 M.InvalidLevel (hr.mono (by decide)) (by rfl)) (pa_cons (pe_mk0 M.InvalidPresses (hr.mono (by decide)) (by rfl)) (pa_cons (pe_mk0 M.InvalidHistory (hr.mono (by decide)) (by rfl)) (pa_cons (pe_mk0 M.InvalidRuns (hr.mono (by decide)) (by rfl)) pa_nil)))))))))
  (pss_one (ps_ret (pe_op op_cat (pv 0) (pe_lst (pa_cons (pe_mk0 M.InvalidTable (hr.mono (by decide)) (by rfl)) (pa_cons (pe_mk0 M.InvalidLetters (hr.mono (by decide)) (by rfl)) (pa_cons (pe_mk0 M.InvalidHouse (hr.mono (by decide)) (by rfl)) (pa_cons (pe_mk0 M.InvalidWalk (hr.mono (by decide)) (by rfl)) (pa_cons (pe_mk0 M.InvalidWalks (hr.mono (by decide)) (by rfl)) (pa_cons (pe_mk0 M.InvalidLayers (hr.mono (by decide)) (by rfl)) (pa_cons (pe_mk0 M.InvalidText (hr.mono (by decide)) (by rfl)) (pa_cons (pe_mk0 M.InvalidDeed (hr.mono (by decide)) (by rfl)) (pa_cons (pe_mk0 M.Unlike (hr.mono (by decide)) (by rfl)) (pa_cons (pe_mk0 M.TooMany (hr.mono (by decide)) (by rfl)) pa_nil))))))))))))))), ?_⟩
  refine q_asgX (Cs := _) (v := .non) (exl_lst (ex_cons (Evl.ea_cons Evl.ev_c Evl.ea_nil) (ex_cons (Evl.ea_cons Evl.ev_c Evl.ea_nil) (ex_cons (Evl.ea_cons Evl.ev_c Evl.ea_nil) (ex_cons (Evl.ea_cons Evl.ev_c Evl.ea_nil) (ex_cons (Evl.ea_cons Evl.ev_c Evl.ea_nil) (ex_cons (Evl.ea_cons Evl.ev_c Evl.ea_nil) (ex_cons (Evl.ea_cons Evl.ev_c Evl.ea_nil) ex_nil))))))) (Nat.le_of_ble_eq_true rfl)) fun l1 a1 H1 n1 e1 h1 k1 => ?_
  refine s_retX (v := .non) (exl_is (Ds := A.l17) (exl_cat rfl h1 k1 (exl_lst (ex_cons (Evl.ea_cons Evl.ev_c Evl.ea_nil) (ex_cons (Evl.ea_cons Evl.ev_c Evl.ea_nil) (ex_cons (Evl.ea_cons Evl.ev_c Evl.ea_nil) (ex_cons (Evl.ea_cons Evl.ev_c Evl.ea_nil) (ex_cons (Evl.ea_cons Evl.ev_c Evl.ea_nil) (ex_cons (Evl.ea_cons Evl.ev_c Evl.ea_nil) (ex_cons (Evl.ea_cons Evl.ev_c Evl.ea_nil) (ex_cons (Evl.ea_cons Evl.ev_c Evl.ea_nil) (ex_cons (Evl.ea_cons Evl.ev_c Evl.ea_nil) (ex_cons (Evl.ea_cons Evl.ev_c Evl.ea_nil) ex_nil)))))))))) (Nat.le_of_ble_eq_true rfl)) (Nat.le_of_ble_eq_true rfl)) rfl) fun l as H' n e h k => ?_
  exact q l as H' (Evl.fresh_back e1 n) (e1.trans e) h k
end
end TD

set_option maxHeartbeats 4000000
namespace TD
open PySem PySem.Spec PyProof.Rows L2
open Evl (Ex Ev EvA EvL EvT RV)
section
variable {P : Program} {w : World} {K : Fg} {mg : Str → Option Value} {base : Heap} {A : Ad}
theorem kdl_cons {C D : Addr} {Ds : List Addr} {bs : List Bool} (h : KdL K C (D :: Ds) bs) : ∃ b r, bs = b :: r ∧ PySem.W.kitOne K (.ref C) (.ref D) = some b ∧ KdL K C Ds r := by
  cases h with
  | cons h t => exact ⟨_, _, rfl, h, t⟩
theorem kdl_nil {C : Addr} {bs : List Bool} (h : KdL K C [] bs) : bs = [] := by
  cases h
  rfl
abbrev s__law_kinds : Stmt := topS 29
theorem f__law_kinds (T : B5 mg) (M : Ck P w K mg base A) (a : At K mg "_law_kinds" s__law_kinds) : Fc P w K mg base "_law_kinds" ["_law_error"] 1 (spKinds K A) := by
  have S : FnScope ["_law_error", "_law_found"] ["_law_error"] (defScope s__law_kinds) := ⟨rfl, rfl, rfl, by decide +kernel, rfl, by decide +kernel, by decide +kernel⟩
  obtain ⟨f, fd, F, hm⟩ := a
  refine ⟨f, fd, hm, F.kp, F.binds (fun _ _ _ _ _ _ us hl => match us, hl with | [_], _ => rfl), fnG F S ?_ ?_⟩
  · rintro vs H Q E ⟨a, C, bs, rfl, _⟩
    rfl
  intro cdv Ar outer s H vs Q E gu hr ⟨x, C, bs, ev, hx, T2, hk, q⟩
  subst ev
  have hc : (cxOf CX0 P w K mg base ["_law_error", "_law_found"] "_law_kinds" (defScope s__law_kinds) f cdv Ar outer s H E).nox.calm = true := rfl
  suffices h : ∃ t, PSs (cxOf CX0 P w K mg base ["_law_error", "_law_found"] "_law_kinds" (defScope s__law_kinds) f cdv Ar outer s H E).nox (defBody s__law_kinds) t ∧ t { nx := fun _ H' => Q .non H', rt := Q } (L2.start ["_law_error", "_law_found"] [.ref x]) H by
    obtain ⟨t, h1, h2⟩ := h
    exact ⟨t, h1.nox, h2⟩
  refine ⟨_, (pss_cons (ps_set (i := 1) S.nd rfl (by first | exact Or.inl rfl | exact Or.inr rfl) (pe_lst (pa_cons (pe_callB call_isX (by rfl) T.isinstance (by decide +kernel) (pa_cons (pv 0) (pa_cons (pe_glob (v := .ref A.InvalidNumber) (by rfl) M.s_InvalidNumber.gC rfl) pa_nil))) (pa_cons (pe_callB call_isX (by rfl) T.isinstance (by decide +kernel) (pa_cons (pv 0) (pa_cons (pe_glob (v := .ref A.InvalidRoom) (by rfl) M.s_InvalidRoom.gC rfl) pa_nil))) (pa_cons (pe_callB call_isX (by rfl) T.isinstance (by decide +kernel) (pa_cons (pv 0) (pa_cons (pe_glob (v := .ref A.InvalidLights) (by rfl) M.s_InvalidLights.gC rfl) pa_nil))) pa_nil)))))
  (pss_cons (ps_set (i := 1) S.nd rfl (by first | exact Or.inl rfl | exact Or.inr rfl) (pe_op op_cat (pv 1) (pe_lst (pa_cons (pe_callB call_isX (by rfl) T.isinstance (by decide +kernel) (pa_cons (pv 0) (pa_cons (pe_glob (v := .ref A.InvalidLevel) (by rfl) M.s_InvalidLevel.gC rfl) pa_nil))) (pa_cons (pe_callB call_isX (by rfl) T.isinstance (by decide +kernel) (pa_cons (pv 0) (pa_cons (pe_glob (v := .ref A.InvalidPresses) (by rfl) M.s_InvalidPresses.gC rfl) pa_nil))) pa_nil)))))
  (pss_cons (ps_set (i := 1) S.nd rfl (by first | exact Or.inl rfl | exact Or.inr rfl) (pe_op op_cat (pv 1) (pe_lst (pa_cons (pe_callB call_isX (by rfl) T.isinstance (by decide +kernel) (pa_cons (pv 0) (pa_cons (pe_glob (v := .ref A.InvalidHistory) (by rfl) M.s_InvalidHistory.gC rfl) pa_nil))) (pa_cons (pe_callB call_isX (by rfl) T.isinstance (by decide +kernel) (pa_cons (pv 0) (pa_cons (pe_glob (v := .ref A.InvalidRuns) (by rfl) M.s_InvalidRuns.gC rfl) pa_nil))) (pa_cons (pe_callB call_isX (by rfl) T.isinstance (by decide +kernel) (pa_cons (pv 0) (pa_cons (pe_glob (v := .ref A.InvalidTable) (by rfl) M.s_InvalidTable.gC rfl) pa_nil))) pa_nil))))))
  (pss_cons (ps_set (i := 1) S.nd rfl (by first | exact Or.inl rfl | exact Or.inr rfl) (pe_op op_cat (pv 1) (pe_lst (pa_cons (pe_callB call_isX (by rfl) T.isinstance (by decide +kernel) (pa_cons (pv 0) (pa_cons (pe_glob (v := .ref A.InvalidLetters) (by rfl) M.s_InvalidLetters.gC rfl) pa_nil))) (pa_cons (pe_callB call_isX (by rfl) T.isinstance (by decide +kernel) (pa_cons (pv 0) (pa_cons (pe_glob (v := .ref A.InvalidHouse) (by rfl) M.s_InvalidHouse.gC rfl) pa_nil))) (pa_cons (pe_callB call_isX (by rfl) T.isinstance (by decide +kernel) (pa_cons (pv 0) (pa_cons (pe_glob (v := .ref A.InvalidWalk) (by rfl) M.s_InvalidWalk.gC rfl) pa_nil))) pa_nil))))))
  (pss_cons (ps_set (i := 1) S.nd rfl (by first | exact Or.inl rfl | exact Or.inr rfl) (pe_op op_cat (pv 1) (pe_lst (pa_cons (pe_callB call_isX (by rfl) T.isinstance (by decide +kernel) (pa_cons (pv 0) (pa_cons (pe_glob (v := .ref A.InvalidWalks) (by rfl) M.s_InvalidWalks.gC rfl) pa_nil))) (pa_cons (pe_callB call_isX (by rfl) T.isinstance (by decide +kernel) (pa_cons (pv 0) (pa_cons (pe_glob (v := .ref A.InvalidLayers) (by rfl) M.s_InvalidLayers.gC rfl) pa_nil))) (pa_cons (pe_callB call_isX (by rfl) T.isinstance (by decide +kernel) (pa_cons (pv 0) (pa_cons (pe_glob (v := .ref A.InvalidText) (by rfl) M.s_InvalidText.gC rfl) pa_nil))) pa_nil))))))
  (pss_cons (ps_set (i := 1) S.nd rfl (by first | exact Or.inl rfl | exact Or.inr rfl) (pe_op op_cat (pv 1) (pe_lst (pa_cons (pe_callB call_isX (by rfl) T.isinstance (by decide +kernel) (pa_cons (pv 0) (pa_cons (pe_glob (v := .ref A.InvalidDeed) (by rfl) M.s_InvalidDeed.gC rfl) pa_nil))) (pa_cons (pe_callB call_isX (by rfl) T.isinstance (by decide +kernel) (pa_cons (pv 0) (pa_cons (pe_glob (v := .ref A.Unlike) (by rfl) M.s_Unlike.gC rfl) pa_nil))) (pa_cons (pe_callB call_isX (by rfl) T.isinstance (by decide +kernel) (pa_cons (pv 0) (pa_cons (pe_glob (v := .ref A.TooMany) (by rfl) M.s_TooMany.gC rfl) pa_nil))) pa_nil))))))
  (pss_one (ps_ret (pe_op op_cat (pv 1) (pe_lst (pa_cons (pe_callB call_isX (by rfl) T.isinstance (by decide +kernel) (pa_cons (pv 0) (pa_cons (pe_glob (v := .ref A.NothingToUndo) (by rfl) M.s_NothingToUndo.gC rfl) pa_nil))) (pa_cons (pe_callB call_isX (by rfl) T.isinstance (by decide +kernel) (pa_cons (pv 0) (pa_cons (pe_glob (v := .ref A.NothingToRedo) (by rfl) M.s_NothingToRedo.gC rfl) pa_nil))) pa_nil)))))))))))), ?_⟩
  clear T
  have T := T2
  obtain ⟨b0, r0, e0_, k0, hk0⟩ := kdl_cons hk
  subst e0_
  obtain ⟨b1, r1, e1_, k1, hk1⟩ := kdl_cons hk0
  subst e1_
  obtain ⟨b2, r2, e2_, k2, hk2⟩ := kdl_cons hk1
  subst e2_
  obtain ⟨b3, r3, e3_, k3, hk3⟩ := kdl_cons hk2
  subst e3_
  obtain ⟨b4, r4, e4_, k4, hk4⟩ := kdl_cons hk3
  subst e4_
  obtain ⟨b5, r5, e5_, k5, hk5⟩ := kdl_cons hk4
  subst e5_
  obtain ⟨b6, r6, e6_, k6, hk6⟩ := kdl_cons hk5
  subst e6_
  obtain ⟨b7, r7, e7_, k7, hk7⟩ := kdl_cons hk6
  subst e7_
  obtain ⟨b8, r8, e8_, k8, hk8⟩ := kdl_cons hk7
  subst e8_
  obtain ⟨b9, r9, e9_, k9, hk9⟩ := kdl_cons hk8
  subst e9_
  obtain ⟨b10, r10, e10_, k10, hk10⟩ := kdl_cons hk9
  subst e10_
  obtain ⟨b11, r11, e11_, k11, hk11⟩ := kdl_cons hk10
  subst e11_
  obtain ⟨b12, r12, e12_, k12, hk12⟩ := kdl_cons hk11
  subst e12_
  obtain ⟨b13, r13, e13_, k13, hk13⟩ := kdl_cons hk12
  subst e13_
  obtain ⟨b14, r14, e14_, k14, hk14⟩ := kdl_cons hk13
  subst e14_
  obtain ⟨b15, r15, e15_, k15, hk15⟩ := kdl_cons hk14
  subst e15_
  obtain ⟨b16, r16, e16_, k16, hk16⟩ := kdl_cons hk15
  subst e16_
  obtain ⟨b17, r17, e17_, k17, hk17⟩ := kdl_cons hk16
  subst e17_
  obtain ⟨b18, r18, e18_, k18, hk18⟩ := kdl_cons hk17
  subst e18_
  have hz := kdl_nil hk18
  subst hz
  refine Evl.q_asgL (Evl.el_lst (Evl.ea_cons (ev_isx rfl (hx.ex (Ex.refl H)) T k0) (Evl.ea_cons (ev_isx rfl (hx.ex (Ex.refl H)) T k1) (Evl.ea_cons (ev_isx rfl (hx.ex (Ex.refl H)) T k2) Evl.ea_nil))) (Nat.le_of_ble_eq_true rfl)) fun l1 H1 n1 e1 h1 => ?_
  refine Evl.q_asgL (el_cat rfl h1 (Evl.el_lst (Evl.ea_cons (ev_isx rfl (hx.ex e1) T k3) (Evl.ea_cons (ev_isx rfl (hx.ex e1) T k4) Evl.ea_nil)) (Nat.le_of_ble_eq_true rfl)) (Nat.le_of_ble_eq_true rfl)) fun l2 H2 n2 e2 h2 => ?_
  refine Evl.q_asgL (el_cat rfl h2 (Evl.el_lst (Evl.ea_cons (ev_isx rfl (hx.ex (e1.trans e2)) T k5) (Evl.ea_cons (ev_isx rfl (hx.ex (e1.trans e2)) T k6) (Evl.ea_cons (ev_isx rfl (hx.ex (e1.trans e2)) T k7) Evl.ea_nil))) (Nat.le_of_ble_eq_true rfl)) (Nat.le_of_ble_eq_true rfl)) fun l3 H3 n3 e3 h3 => ?_
  refine Evl.q_asgL (el_cat rfl h3 (Evl.el_lst (Evl.ea_cons (ev_isx rfl (hx.ex ((e1.trans e2).trans e3)) T k8) (Evl.ea_cons (ev_isx rfl (hx.ex ((e1.trans e2).trans e3)) T k9) (Evl.ea_cons (ev_isx rfl (hx.ex ((e1.trans e2).trans e3)) T k10) Evl.ea_nil))) (Nat.le_of_ble_eq_true rfl)) (Nat.le_of_ble_eq_true rfl)) fun l4 H4 n4 e4 h4 => ?_
  refine Evl.q_asgL (el_cat rfl h4 (Evl.el_lst (Evl.ea_cons (ev_isx rfl (hx.ex (((e1.trans e2).trans e3).trans e4)) T k11) (Evl.ea_cons (ev_isx rfl (hx.ex (((e1.trans e2).trans e3).trans e4)) T k12) (Evl.ea_cons (ev_isx rfl (hx.ex (((e1.trans e2).trans e3).trans e4)) T k13) Evl.ea_nil))) (Nat.le_of_ble_eq_true rfl)) (Nat.le_of_ble_eq_true rfl)) fun l5 H5 n5 e5 h5 => ?_
  refine Evl.q_asgL (el_cat rfl h5 (Evl.el_lst (Evl.ea_cons (ev_isx rfl (hx.ex ((((e1.trans e2).trans e3).trans e4).trans e5)) T k14) (Evl.ea_cons (ev_isx rfl (hx.ex ((((e1.trans e2).trans e3).trans e4).trans e5)) T k15) (Evl.ea_cons (ev_isx rfl (hx.ex ((((e1.trans e2).trans e3).trans e4).trans e5)) T k16) Evl.ea_nil))) (Nat.le_of_ble_eq_true rfl)) (Nat.le_of_ble_eq_true rfl)) fun l6 H6 n6 e6 h6 => ?_
  refine Evl.s_retL (el_cat rfl h6 (Evl.el_lst (Evl.ea_cons (ev_isx rfl (hx.ex (((((e1.trans e2).trans e3).trans e4).trans e5).trans e6)) T k17) (Evl.ea_cons (ev_isx rfl (hx.ex (((((e1.trans e2).trans e3).trans e4).trans e5).trans e6)) T k18) Evl.ea_nil)) (Nat.le_of_ble_eq_true rfl)) (Nat.le_of_ble_eq_true rfl)) fun l H7 n7 e7 h7 => ?_
  exact q l H7 (Evl.fresh_back (((((e1.trans e2).trans e3).trans e4).trans e5).trans e6) n7) ((((((e1.trans e2).trans e3).trans e4).trans e5).trans e6).trans e7) h7
end
end TD

set_option maxHeartbeats 4000000
namespace TD
open PySem PySem.Spec PyProof.Rows L2
open Evl (Ex Ev EvA EvL EvT RV)
section
variable {P : Program} {w : World} {K : Fg} {mg : Str → Option Value} {base : Heap} {A : Ad}
theorem no_of {x : Str} {C : Addr} (h : Mke P w K mg base x C) : PySem.W.findIn K (.ref C) "value" = some none := let ⟨_, _, _, e, _⟩ := h; e.no
theorem Ck.no (M : Ck P w K mg base A) : ∀ C ∈ A.l17, PySem.W.findIn K (.ref C) "value" = some none := List.forall_mem_cons.mpr ⟨no_of M.InvalidNumber, List.forall_mem_cons.mpr ⟨no_of M.InvalidRoom, List.forall_mem_cons.mpr ⟨no_of M.InvalidLights, List.forall_mem_cons.mpr ⟨no_of M.InvalidLevel, List.forall_mem_cons.mpr ⟨no_of M.InvalidPresses, List.forall_mem_cons.mpr ⟨no_of M.InvalidHistory, List.forall_mem_cons.mpr ⟨no_of M.InvalidRuns, List.forall_mem_cons.mpr ⟨no_of M.InvalidTable, List.forall_mem_cons.mpr ⟨no_of M.InvalidLetters, List.forall_mem_cons.mpr ⟨no_of M.InvalidHouse, List.forall_mem_cons.mpr ⟨no_of M.InvalidWalk, List.forall_mem_cons.mpr ⟨no_of M.InvalidWalks, List.forall_mem_cons.mpr ⟨no_of M.InvalidLayers, List.forall_mem_cons.mpr ⟨no_of M.InvalidText, List.forall_mem_cons.mpr ⟨no_of M.InvalidDeed, List.forall_mem_cons.mpr ⟨no_of M.Unlike, List.forall_mem_cons.mpr ⟨no_of M.TooMany, fun _ h => nomatch h⟩⟩⟩⟩⟩⟩⟩⟩⟩⟩⟩⟩⟩⟩⟩⟩⟩
theorem l17_19 {i : Nat} {C : Addr} (h : A.l17[i]? = some C) : A.l19[i]? = some C := by
  have e : A.l19 = A.l17 ++ [A.NothingToUndo, A.NothingToRedo] := rfl
  obtain ⟨hi, _⟩ := List.getElem?_eq_some_iff.mp h
  rw [e, List.getElem?_append_left hi]
  exact h
theorem boot_ValueError : bootBuiltins "ValueError" = some (.type "ValueError") := by decide +kernel
/-! ### lists of yes and no -/
def rowB (i : Nat) : List Bool := (List.range 19).map fun j => decide (j = i)
theorem row_eq : ∀ i < 19, PyData.eqv (.list ((rowB i).map PyData.bool)) (.list ((rowB i).map PyData.bool)) = true ∧ SeqAt.shaped (.list ((rowB i).map PyData.bool)) = true := by decide +kernel
theorem das_bl {B : Hp} : ∀ bs : List Bool, Das K B (bs.map V.bl) (bs.map PyData.bool)
  | [] => .nil
  | b :: bs => .cons (.bl b) (das_bl bs)
theorem rv_neB {bs : List Bool} {p q : Addr} {H : Hp} (hp : H p = some (.lst (bs.map V.bl))) (hq : H q = some (.lst (bs.map V.bl))) (h1 : PyData.eqv (.list (bs.map PyData.bool)) (.list (bs.map PyData.bool)) = true) (h2 : SeqAt.shaped (.list (bs.map PyData.bool)) = true) :
    RV (rNeA K) (.ref p) (.ref q) H (.bl false) := fun H1 e Q k => ⟨_, _, .lst (e _ _ hp) (das_bl bs), .lst (e _ _ hq) (das_bl bs), h2, h2, by
      rw [h1]
      exact k H1 (Ex.refl H1)⟩
theorem given_row {i : Nat} : Evl.given 19 (fun _ => true) (fun j => V.bl (decide (V.int (j : Int) = V.int (i : Int)))) = (rowB i).map V.bl := by
  unfold Evl.given rowB
  rw [List.filter_eq_self.mpr (fun _ _ => rfl), List.map_map]
  refine List.map_congr_left fun j _ => ?_
  show V.bl (decide (V.int (j : Int) = V.int (i : Int))) = V.bl (decide (j = i))
  congr 1
  simp only [V.int.injEq, Int.ofNat_inj]
section
variable {σ : L2.St} {H : Hp} {te : TE}
theorem el_kinds {i : Nat} {a C : Addr} {bs : List Bool} {E : XK} (hv : σ[i]? = some (some (.ref a))) (hx : IsX H a C) (T : ExcC K C) (hk : KdL K C A.l19 bs) : EvL (tCall (spKinds K A) [] E (tCons (tVar i) tNil)) σ H (bs.map V.bl) := fun H1 e Q q =>
  ⟨.ref a, hv, a, C, bs, rfl, hx.ex e, T, hk, fun l H' n e2 h => q l H' n e2 h⟩
theorem ev_value {i : Nat} {a C : Addr} {v : V} (hv : σ[i]? = some (some (.ref a))) (hx : ExV H a C v) (T : ExcC K C) (no : PySem.W.findIn K (.ref C) "value" = some none) : Ev (tVal K (tVar i)) σ H v := fun H1 e Q q =>
  ⟨.ref a, hv, a, C, v, rfl, hx.ex e, T, no, q H1 (Ex.refl H1)⟩
theorem ev_repr {v : V} {d : PyData} (h : Ev te σ H v) (hd : Da K H v d) (hf : Fine d) : Ev (tCB (rRepr K) (tCons te tNil)) σ H (.str d.shown) := fun H1 e Q q =>
  h H1 e _ fun H2 e2 => ⟨v, d, rfl, hd.ex (e.trans e2), hf, q H2 e2⟩
theorem rv_W {v : V} (h : Vok K H v) : RV (rEqW K) v v H (.bl true) := fun H1 e Q q => h.2 H1 e Q (q H1 (Ex.refl H1))
end
abbrev s__law_row_right : Stmt := topS 30
theorem f__law_row_right (T : B5 mg) (sm : ∃ mm, base.Ns sysModules mm) (M : Ck P w K mg base A) (a : At K mg "_law_row_right" s__law_row_right) (c__law_kinds : Fc P w K mg base "_law_kinds" ["_law_error"] 1 (spKinds K A)) :
    Fc P w K mg base "_law_row_right" ["_law_made_here", "_law_value"] 2 (spRow K A) := by
  have S : FnScope ["_law_made_here", "_law_value", "_law_at", "_law_error", "_law_place"] ["_law_made_here", "_law_value"] (defScope s__law_row_right) := ⟨rfl, rfl, rfl, by decide +kernel, rfl, by decide +kernel, by decide +kernel⟩
  obtain ⟨f, fd, F, hm⟩ := a
  refine ⟨f, fd, hm, F.kp, F.binds (fun _ _ _ _ _ _ us hl => match us, hl with | [_, _], _ => rfl), fnG F S ?_ ?_⟩
  · rintro vs H Q E ⟨l, as, v, rfl, _⟩
    rfl
  intro cdv Ar outer s H vs Q E gu hr ⟨l, as, v, ev, hl, hA, hV, q⟩
  subst ev
  have hc : (cxOf CX0 P w K mg base ["_law_made_here", "_law_value", "_law_at", "_law_error", "_law_place"] "_law_row_right" (defScope s__law_row_right) f cdv Ar outer s H E).nox.calm = true := rfl
  have hu64 : (cxOf CX0 P w K mg base ["_law_made_here", "_law_value", "_law_at", "_law_error", "_law_place"] "_law_row_right" (defScope s__law_row_right) f cdv Ar outer s H E).nox.A.units + 64 < cLine := hr.units
  have hu : (cxOf CX0 P w K mg base ["_law_made_here", "_law_value", "_law_at", "_law_error", "_law_place"] "_law_row_right" (defScope s__law_row_right) f cdv Ar outer s H E).nox.A.units + 200 < cLine := Nat.lt_of_le_of_lt (Nat.add_le_add_right (Nat.le_add_right _ _) _) hr.un
  suffices h : ∃ t, PSs (cxOf CX0 P w K mg base ["_law_made_here", "_law_value", "_law_at", "_law_error", "_law_place"] "_law_row_right" (defScope s__law_row_right) f cdv Ar outer s H E).nox (defBody s__law_row_right) t ∧ t { nx := fun _ H' => Q .non H', rt := Q } (L2.start ["_law_made_here", "_law_value", "_law_at", "_law_error", "_law_place"] [.ref l, v]) H by
    obtain ⟨t, h1, h2⟩ := h
    exact ⟨t, h1.nox, h2⟩
  refine ⟨_, (pss_cons (ps_for PassesOwn.never hc (pi_enum (by rfl) T.enumerate (pa_cons (pv 0) pa_nil)) (pg_tup hc (pgs_cons (pg_name (i := 2) S.nd rfl (by first | exact Or.inl rfl | exact Or.inr rfl)) (pgs_cons (pg_name (i := 3) S.nd rfl (by first | exact Or.inl rfl | exact Or.inr rfl)) pgs_nil)))
    (pss_cons (ps_if (PW.pt (pw_or (pt_not (pt_val (pe_callB call_isX (by rfl) T.isinstance (by decide +kernel) (pa_cons (pv 3) (pa_cons (pe_glob (v := .ref A.DoorError) (by rfl) M.s_DoorError.gC rfl) pa_nil))))) (pw_or1 (pt_not (pt_val (pe_callB call_isX (by rfl) T.isinstance (by decide +kernel) (pa_cons (pv 3) (pa_cons (pe_bltn (v := .ty "ValueError") (by rfl) T.ValueError boot_ValueError rfl) pa_nil)))))))) (pss_one (ps_ret pe_bl)) pss_nil)
  (pss_cons (ps_if (pt_cmpR (op_neA sm hu64) (pe_f c__law_kinds gu (hr.mono (by decide)) (by rfl) (pa_cons (pv 3) pa_nil)) (pe_lc (own := [("_law_place", 4)]) hc S.nd (pi_range1 (by rfl) T.range (pa_cons pe_int pa_nil)) (blkOk_by (N := ["_law_made_here", "_law_value", "_law_at", "_law_error", "_law_place"]) (sc := defScope s__law_row_right) (by decide +kernel)) (fun _ _ _ _ _ => (pg_name (i := 4) S.nd rfl (by first | exact Or.inl rfl | exact Or.inr rfl))) (fun _ _ _ _ _ => pts_nil) (fun _ _ _ _ _ => (pe_cmpR op_eq (pv 4) (pv 2) (nomark _)))) (nomark _)) (pss_one (ps_ret pe_bl)) pss_nil)
  (pss_one (ps_if (PW.pt (pw_or (pt_not (pt_cmpR (op_eqW sm hu64) (pe_value (pv 3)) (pv 1) (nomark _))) (pw_or1 (pt_cmpR op_ne (pe_callB (call_reprA sm gu hu) (by rfl) T.repr (by decide +kernel) (pa_cons (pe_value (pv 3)) pa_nil)) (pe_callB (call_reprA sm gu hu) (by rfl) T.repr (by decide +kernel) (pa_cons (pv 1) pa_nil)) (nomark _))))) (pss_one (ps_ret pe_bl)) pss_nil)))))
  (pss_one (ps_ret (pe_cmpR op_eq (pe_callB call_len_seq (by rfl) T.len (by decide +kernel) (pa_cons (pv 0) pa_nil)) pe_int (nomark _))))), ?_⟩
  have len17 : as.length = 17 := hA.len
  refine ⟨.ref l, rfl, l, as.map V.ref, rfl, Evl.sq_of hl, ?_⟩
  refine for_enum (xs := as.map V.ref) (fun i σ' H' => ∃ o2 o3 o4, σ' = [some (.ref l), some v, o2, o3, o4] ∧ Ex H H') ⟨none, none, none, rfl, Ex.refl H⟩ (fun i σ' H' _ ⟨_, _, _, _, e⟩ => Evl.sq_of (e _ _ hl)) ?_ ?_
  · rintro i x t σ' H' hi ⟨o2, o3, o4, rfl, e⟩ ht
    rw [List.getElem?_map] at hi
    obtain ⟨ad, ha, rfl⟩ := Option.map_eq_some_iff.mp hi
    obtain ⟨C, hC, hx⟩ := hA.get ha
    have m17 := List.mem_of_getElem? hC
    have h19 := l17_19 hC
    have m19 := List.mem_of_getElem? h19
    have hi19 : i < 19 := (List.getElem?_eq_some_iff.mp h19).1
    have TC := M.exc m19
    have e2 : Ex H (upd H' t (.tup [.int (i : Nat), .ref ad])) := e.trans (Ex.new ht)
    refine g_pair upd_same ?_
    generalize upd H' t (.tup [.int (i : Nat), .ref ad]) = H2 at e2
    have hx2 := hx.ex e2
    have ix2 := IsX.of hx2
    refine Evl.q_when (Evl.et_is (Evl.et_or (Evl.et_not (Evl.et_B (ev_isx (b := true) rfl ix2 TC (M.isD m19)))) fun _ => Evl.et_not (Evl.et_B (ev_isx_ty (b := true) rfl ix2 TC (M.isV m19)))) (show (!true || !true) = false from rfl)) (fun z => Bool.noConfusion z) fun _ H3 e3 => ?_
    have ix3 := ix2.ex e3
    refine Evl.q_when (b := false) (Evl.et_test (Evl.ev_opLL (el_kinds rfl ix3 TC (M.kinds h19)) (by
      have z := Evl.el_lcR1 (σ := [some (.ref l), some v, some (.int (i : Int)), some (.ref ad), o4]) (H := H3) (t := tYes) (j := 4) (vs := [4]) (te := tOp rEq (tVar 4) (tVar 2)) (n := 19) (fun _ => true) (fun j => V.bl (decide (V.int (j : Int) = V.int (i : Int)))) (Evl.ea_cons Evl.ev_c Evl.ea_nil) ⟨by decide, by decide⟩ (fun _ => rfl) (fun _ _ _ _ H4 _ Q q => q H4 (Ex.refl H4)) (fun j H4 _ _ _ => Evl.ev_op (Evl.ev_var rfl) (Evl.ev_var rfl) (Evl.rv_eq rfl))
      rw [show (19 : Int).toNat = 19 from rfl, given_row] at z
      exact z) fun p q' H4 hp hq _ => rv_neB hp hq (row_eq i hi19).1 (row_eq i hi19).2)) (fun z => Bool.noConfusion z) fun _ H5 e5 => ?_
    have ex5 : Ex H H5 := (e2.trans e3).trans e5
    have hx5 := hx.ex ex5
    have hV5 := hV.ex ex5
    obtain ⟨d, hd, hf⟩ := hV5.1
    refine Evl.s_when (b := false) (Evl.et_is (Evl.et_or (Evl.et_not (Evl.et_test (Evl.ev_op (ev_value rfl hx5 TC (M.no C m17)) (Evl.ev_var rfl) (rv_W hV5)))) fun _ => Evl.et_test (Evl.ev_op (ev_repr (ev_value rfl hx5 TC (M.no C m17)) hd hf) (ev_repr (Evl.ev_var rfl) hd hf) (Evl.rv_ne rfl))) (by simp)) (fun z => Bool.noConfusion z) fun _ H6 e6 => ?_
    exact ⟨_, _, _, rfl, ex5.trans e6⟩
  · rintro σ' H' ⟨o2, o3, o4, rfl, e⟩
    dsimp only
    refine Evl.s_ret (v := .bl true) ?_ fun H1 e1 => q H1 (e.trans e1)
    refine Evl.ev_is (Evl.ev_op (Evl.ev_len (Evl.ev_var rfl) (Evl.sq_of (e _ _ hl))) Evl.ev_c (Evl.rv_eq rfl)) ?_
    rw [List.length_map, len17]
    rfl
end
end TD

set_option maxHeartbeats 4000000
namespace TD
open PySem PySem.Spec PyProof.Rows L2
open Evl (Ex Ev EvA EvL EvT RV)
section
variable {P : Program} {w : World} {K : Fg} {mg : Str → Option Value} {base : Heap} {A : Ad}
/-- where the rule stands within a comprehension -/
theorem op_neAK {X : Cx} (hK : X.K = K) (sm : ∃ mm, X.base.Ns sysModules mm) (hu : X.A.units + 64 < cLine) : OpR X (compareOp .NotEq) (rNeA K) := hK ▸ op_neA sm hu
theorem pe_valueK {X : Cx} {e : Expr} {te : TE} {pos : Pos} (hK : X.K = K) (he : PE X e te) (hb : attributeBase e "value" X.env (eval e X.env) = eval e X.env := by rfl) : PE X (.Attribute e "value" pos) (tVal K te) := hK ▸ pe_value he hb
/-! ### the values -/
theorem Vok.of {H : Hp} {v : V} {d : PyData} (h : Da K H v d) (hf : Fine d) (hs : SeqAt.shaped d = true) (he : PyData.eqv d d = true) : Vok K H v :=
  ⟨⟨d, h, hf⟩, fun H' e Q q => .inl ⟨d, d, h.ex e, h.ex e, hs, hs, by rw [he]; exact q⟩⟩
theorem big_log {n : Int} (h : 0 ≤ n ∧ n < 10 ^ 30) : decide (n.natAbs.log2 < 1920) = true := by
  refine decide_eq_true ?_
  have h1 : n.natAbs < 2 ^ 100 := Nat.lt_of_lt_of_le (show n.natAbs < 10 ^ 30 by omega) (by decide)
  exact Nat.lt_of_lt_of_le (PySem.Flt.log2_lt_of (by decide) h1) (by decide)
theorem fine_int {n : Int} (h : 0 ≤ n ∧ n < 10 ^ 30) : Fine (.int n) := ⟨big_log h, Nat.zero_le _, Nat.le_of_ble_eq_true rfl⟩
theorem fine_tup {n : Int} (h : 0 ≤ n ∧ n < 10 ^ 30) : Fine (.tuple [.str "x", .list [.int n]]) := by
  refine ⟨?_, ?_, ?_⟩
  · have z := big_log h
    simp only [PyData.showable, PyData.showableAll, Bool.and_true, Bool.true_and]
    exact z
  · simp [PyData.depth, PyData.depthAll]
  · simp only [sz, szs]
    have e : (reprText "x").length = 3 := by decide +kernel
    omega
theorem eq_int (n : Int) : PyData.eqv (.int n) (.int n) = true := by simp [PyData.eqv]
theorem eq_tup (n : Int) : PyData.eqv (.tuple [.str "x", .list [.int n]]) (.tuple [.str "x", .list [.int n]]) = true := by simp [PyData.eqv, PyData.eqvAll]
theorem eq_l2 (n : Int) : PyData.eqv (.list [.int n, .int 1]) (.list [.int n, .int 1]) = true := by simp [PyData.eqv, PyData.eqvAll]
theorem sh_tup (n : Int) : SeqAt.shaped (.tuple [.str "x", .list [.int n]]) = true := by
  have e : PyData.canLay0 (.str "x") = true := by decide +kernel
  unfold SeqAt.shaped
  have e2 : PyData.canLay0 (.tuple [.str "x", .list [.int n]]) = true := by
    simp only [PyData.canLay0, PyData.canLayAll0, Bool.and_true] at e ⊢
    exact e
  rw [e2]
  simp [PyData.depth, PyData.depthAll]
theorem sh_l2 (n : Int) : SeqAt.shaped (.list [.int n, .int 1]) = true := by
  unfold SeqAt.shaped
  simp [PyData.canLay0, PyData.canLayAll0, PyData.depth, PyData.depthAll]
theorem vok_str {H : Hp} {i : Int} (h : 0 ≤ i ∧ i < 3) : Vok K H (.str (Txt.mul "ab" i)) := by
  have c : i = 0 ∨ i = 1 ∨ i = 2 := by omega
  rcases c with rfl | rfl | rfl
  · exact .of (.str _) ⟨rfl, Nat.zero_le _, by decide +kernel⟩ (by decide +kernel) (by decide +kernel)
  · exact .of (.str _) ⟨rfl, Nat.zero_le _, by decide +kernel⟩ (by decide +kernel) (by decide +kernel)
  · exact .of (.str _) ⟨rfl, Nat.zero_le _, by decide +kernel⟩ (by decide +kernel) (by decide +kernel)
theorem mul_ok {i : Int} (h : 0 ≤ i ∧ i < 3) : MulOk ("ab" : Str) i := mulOk_of 2 2 (by decide +kernel) (by omega) (by omega) (by decide) (by decide)
theorem vok_dic {H : Hp} {a : Addr} (h : H a = some (.dK [(.inr "a", .int 1)])) : Vok K H (.ref a) :=
  ⟨⟨_, .dic h (.cons (.int 1) .nil), ⟨by decide +kernel, by decide +kernel, by decide +kernel⟩⟩, fun H' e Q q => .inr ⟨2, by decide, .inr ⟨a, a, _, _, rfl, rfl, e _ _ h, e _ _ h, rfl, fun p hp => by
    rw [List.mem_singleton] at hp
    subst hp
    exact ⟨.int 1, rfl, .inl ⟨rfl, rfl⟩⟩⟩, q⟩⟩
/-! ### a list's own place changes, the errors stay -/
theorem ExV.upd {H : Hp} {a C p : Addr} {v : V} {xs : List V} {o : HO} (hp : H p = some (.lst xs)) (h : ExV H a C v) : ExV (upd H p o) a C v := by
  obtain ⟨d, h1, h2⟩ := h
  refine ⟨d, ?_, ?_⟩
  · rw [upd_ne (fun z => by rw [z, hp] at h1; cases h1)]
    exact h1
  · rw [upd_ne (fun z => by rw [z, hp] at h2; cases h2)]
    exact h2
theorem AllE.upd {H : Hp} {p : Addr} {v : V} {xs : List V} {o : HO} (hp : H p = some (.lst xs)) : ∀ {as Cs : List Addr}, AllE H v as Cs → AllE (upd H p o) v as Cs
  | _, _, .nil => .nil
  | _, _, .cons h t => .cons (h.upd hp) (AllE.upd hp t)
theorem given_no (n : Nat) (v : Nat → V) : Evl.given n (fun _ => false) v = [] := by
  unfold Evl.given
  simp
theorem given_row2 {i : Nat} : Evl.given 19 (fun _ => true) (fun j => V.bl (decide (V.int (j : Int) = V.int (17 + (i : Int))))) = (rowB (17 + i)).map V.bl := by
  have e : ((17 + i : Nat) : Int) = 17 + (i : Int) := by omega
  rw [← given_row, e]
section
variable {σ : L2.St} {H : Hp} {tm : TE}
theorem ev_row {j : Nat} {x : V} {E E' : XK} (hv : σ[j]? = some (some x)) (hV : Vok K H x) : Ev (tCall (spRow K A) [] E (tCons (tCall (spMade A) [] E' (tCons (tVar j) tNil)) (tCons (tVar j) tNil))) σ H (.bl true) := fun H1 e Q q =>
  ⟨x, hv, x, rfl, fun l as H2 n e2 hl hA => ⟨x, hv, l, as, x, rfl, hl, hA, hV.ex (e.trans e2), fun H3 e3 => q H3 (e2.trans e3)⟩⟩
theorem ev_row0 {E E' : XK} (hV : Vok K H .non) : Ev (tCall (spRow K A) [] E (tCons (tCall (spEmpty A) [] E' tNil) (tCons (tC .non) tNil))) σ H (.bl true) := fun H1 e Q q =>
  ⟨rfl, fun l as H2 n e2 hl hA => ⟨l, as, .non, rfl, hl, hA, hV.ex (e.trans e2), fun H3 e3 => q H3 (e2.trans e3)⟩⟩
end
abbrev s_law : Stmt := topS 31
set_option pp.deepTerms false in
theorem f_law (T0 : Bg mg) (T : B5 mg) (sm : ∃ mm, base.Ns sysModules mm) (M : Ck P w K mg base A) (c__law_generator : Fc P w K mg base "_law_generator" ["_law_script", "_law_index"] 2 (spGen K)) (c__law_random : Fc P w K mg base "_law_random" ["_law_generator_here", "_law_bound"] 2 (SpG K 5 preRnd R_rnd))
    (c__law_made : Fc P w K mg base "_law_made" ["_law_value"] 3 (spMade A)) (c__law_by_name : Fc P w K mg base "_law_by_name" ["_law_value"] 3 (spMade A)) (c__law_empty : Fc P w K mg base "_law_empty" [] 3 (spEmpty A))
    (c__law_kinds : Fc P w K mg base "_law_kinds" ["_law_error"] 1 (spKinds K A)) (c__law_row_right : Fc P w K mg base "_law_row_right" ["_law_made_here", "_law_value"] 2 (spRow K A))
    {f : Addr} {fd : FuncData} (F : Fun K "law" "law" s_law f fd) : FnG P w K mg base CX0 4 f fd ["_law_script"] (spLaw K) := by
  have S : FnScope ["_law_script", "_law_generator_here", "_law_number", "_law_value", "_law_error", "_law_odd", "_law_grown", "_law_at", "_law_place"] ["_law_script"] (defScope s_law) := ⟨rfl, rfl, rfl, by decide +kernel, rfl, by decide +kernel, by decide +kernel⟩
  refine fnG F S ?_ ?_
  · rintro vs H Q E ⟨sc, ns, rfl, _⟩
    rfl
  intro cdv Ar outer s H vs Q E gu hr ⟨sc, ns, ev, hS, q⟩
  subst ev
  have hc : (cxOf CX0 P w K mg base ["_law_script", "_law_generator_here", "_law_number", "_law_value", "_law_error", "_law_odd", "_law_grown", "_law_at", "_law_place"] "law" (defScope s_law) f cdv Ar outer s H E).nox.calm = true := rfl
  have hu64 : (cxOf CX0 P w K mg base ["_law_script", "_law_generator_here", "_law_number", "_law_value", "_law_error", "_law_odd", "_law_grown", "_law_at", "_law_place"] "law" (defScope s_law) f cdv Ar outer s H E).nox.A.units + 64 < cLine := hr.units
  suffices h : ∃ t, PSs (cxOf CX0 P w K mg base ["_law_script", "_law_generator_here", "_law_number", "_law_value", "_law_error", "_law_odd", "_law_grown", "_law_at", "_law_place"] "law" (defScope s_law) f cdv Ar outer s H E).nox (defBody s_law) t ∧ t { nx := fun _ H' => Q .non H', rt := Q } (L2.start ["_law_script", "_law_generator_here", "_law_number", "_law_value", "_law_error", "_law_odd", "_law_grown", "_law_at", "_law_place"] [.ref sc]) H by
    obtain ⟨t, h1, h2⟩ := h
    exact ⟨t, h1.nox, h2⟩
  refine ⟨_, (pss_cons (ps_set (i := 1) S.nd rfl (by first | exact Or.inl rfl | exact Or.inr rfl) (pe_f c__law_generator gu (hr.mono (by decide)) (by rfl) (pa_cons (pv 0) (pa_cons pe_int pa_nil))))
  (pss_cons (ps_set (i := 2) S.nd rfl (by first | exact Or.inl rfl | exact Or.inr rfl) (pe_f c__law_random gu (hr.mono (by decide)) (by rfl) (pa_cons (pv 1) (pa_cons (pe_op op_pow pe_int pe_int) pa_nil))))
  (pss_cons (ps_for PassesOwn.never hc (pi_list (pe_lst (pa_cons pe_non (pa_cons (pv 2) (pa_cons (pe_op op_mulS pe_str (pe_f c__law_random gu (hr.mono (by decide)) (by rfl) (pa_cons (pv 1) (pa_cons pe_int pa_nil)))) (pa_cons (pe_tup (pa_cons pe_str (pa_cons (pe_lst (pa_cons (pv 2) pa_nil)) pa_nil))) (pa_cons (pe_disp (pps_cons pe_str pe_int pps_nil) rfl rfl (by simp) (by decide)) (pa_cons pe_bl pa_nil)))))))) (pg_name (i := 3) S.nd rfl (by first | exact Or.inl rfl | exact Or.inr rfl))
    (pss_one (ps_if (PW.pt (pw_or (pt_not (pt_val (pe_f c__law_row_right gu (hr.mono (by decide)) (by rfl) (pa_cons (pe_f c__law_made gu (hr.mono (by decide)) (by rfl) (pa_cons (pv 3) pa_nil)) (pa_cons (pv 3) pa_nil))))) (pw_or1 (pt_not (pt_val (pe_f c__law_row_right gu (hr.mono (by decide)) (by rfl) (pa_cons (pe_f c__law_by_name gu (hr.mono (by decide)) (by rfl) (pa_cons (pv 3) pa_nil)) (pa_cons (pv 3) pa_nil)))))))) (pss_one (ps_ret pe_bl)) pss_nil)))
  (pss_cons (ps_if (pt_not (pt_val (pe_f c__law_row_right gu (hr.mono (by decide)) (by rfl) (pa_cons (pe_f0 c__law_empty gu (hr.mono (by decide)) (by rfl)) (pa_cons pe_non pa_nil))))) (pss_one (ps_ret pe_bl)) pss_nil)
  (pss_cons (ps_for PassesOwn.never hc (pi_list (pe_lst (pa_cons (pe_mkn0 M.DoorError (by rfl)) (pa_cons (pe_mkn M.DoorError (by rfl) (pa_cons pe_str (pa_cons (pv 2) pa_nil))) pa_nil)))) (pg_name (i := 4) S.nd rfl (by first | exact Or.inl rfl | exact Or.inr rfl))
    (pss_one (ps_if (PW.pt (pw_or (pt_not (pt_val (pe_callB call_isX (by rfl) T.isinstance (by decide +kernel) (pa_cons (pv 4) (pa_cons (pe_bltn (v := .ty "ValueError") (by rfl) T.ValueError boot_ValueError rfl) pa_nil))))) (pw_or1 (pt_cmpR op_in_seq pe_bl (pe_f c__law_kinds gu (hr.mono (by decide)) (by rfl) (pa_cons (pv 4) pa_nil)) (by with_unfolding_all rfl))))) (pss_one (ps_ret pe_bl)) pss_nil)))
  (pss_cons (ps_set (i := 5) S.nd rfl (by first | exact Or.inl rfl | exact Or.inr rfl) (pe_lst (pa_cons (pv 2) pa_nil)))
  (pss_cons (ps_set (i := 6) S.nd rfl (by first | exact Or.inl rfl | exact Or.inr rfl) (pe_f c__law_made gu (hr.mono (by decide)) (by rfl) (pa_cons (pv 5) pa_nil)))
  (pss_cons (ps_expr (pe_bm PySem.F.plainAttrs_list PySem.F.slot_list_append PySem.F.type_list_append mt_append (pv 5) (pa_cons pe_int pa_nil)))
  (pss_cons (ps_if (pt_cmpR (op_neA sm hu64) (pe_lc (own := [("_law_error", 4)]) hc S.nd (pi_list (pv 6)) (blkOk_by (N := ["_law_script", "_law_generator_here", "_law_number", "_law_value", "_law_error", "_law_odd", "_law_grown", "_law_at", "_law_place"]) (sc := defScope s_law) (by decide +kernel)) (fun _ _ _ _ _ => (pg_name (i := 4) S.nd rfl (by first | exact Or.inl rfl | exact Or.inr rfl))) (fun _ _ _ _ _ => (pts_one (pt_cmpR (op_neAK (K := K) rfl (by exact sm) (by exact hu64)) (pe_valueK (K := K) rfl (pv 4)) (pe_lst (pa_cons (pv 2) (pa_cons pe_int pa_nil))) (nomark _)))) (fun _ _ _ _ _ => (pv 4))) (pe_lst pa_nil) (nomark _)) (pss_one (ps_ret pe_bl)) pss_nil)
  (pss_cons (ps_for PassesOwn.never hc (pi_enum (by rfl) T.enumerate (pa_cons (pe_lst (pa_cons (pe_mkn0 M.NothingToUndo (by rfl)) (pa_cons (pe_mkn0 M.NothingToRedo (by rfl)) pa_nil))) pa_nil)) (pg_tup hc (pgs_cons (pg_name (i := 7) S.nd rfl (by first | exact Or.inl rfl | exact Or.inr rfl)) (pgs_cons (pg_name (i := 4) S.nd rfl (by first | exact Or.inl rfl | exact Or.inr rfl)) pgs_nil)))
    (pss_cons (ps_if (PW.pt (pw_or (pt_not (pt_val (pe_callB call_isX (by rfl) T.isinstance (by decide +kernel) (pa_cons (pv 4) (pa_cons (pe_glob (v := .ref A.DoorError) (by rfl) M.s_DoorError.gC rfl) pa_nil))))) (pw_or1 (pt_not (pt_val (pe_callB call_isX (by rfl) T.isinstance (by decide +kernel) (pa_cons (pv 4) (pa_cons (pe_bltn (v := .ty "ValueError") (by rfl) T.ValueError boot_ValueError rfl) pa_nil)))))))) (pss_one (ps_ret pe_bl)) pss_nil)
  (pss_one (ps_if (pt_cmpR (op_neA sm hu64) (pe_f c__law_kinds gu (hr.mono (by decide)) (by rfl) (pa_cons (pv 4) pa_nil)) (pe_lc (own := [("_law_place", 8)]) hc S.nd (pi_range1 (by rfl) T.range (pa_cons pe_int pa_nil)) (blkOk_by (N := ["_law_script", "_law_generator_here", "_law_number", "_law_value", "_law_error", "_law_odd", "_law_grown", "_law_at", "_law_place"]) (sc := defScope s_law) (by decide +kernel)) (fun _ _ _ _ _ => (pg_name (i := 8) S.nd rfl (by first | exact Or.inl rfl | exact Or.inr rfl))) (fun _ _ _ _ _ => pts_nil) (fun _ _ _ _ _ => (pe_cmpR op_eq (pv 8) (pe_op op_add pe_int (pv 7)) (nomark _)))) (nomark _)) (pss_one (ps_ret pe_bl)) pss_nil))))
  (pss_one (ps_ret pe_bl)))))))))))), ?_⟩
  -- the generator, the number
  refine ⟨.ref sc, rfl, sc, ns, 0, rfl, hS, by decide, by decide, fun g H1 _ _ ga => ?_⟩
  refine ⟨.ref g, rfl, 10, 30, rfl, rfl, ⟨by decide, by decide, by decide⟩, ?_⟩
  refine ⟨g, [.int (10 ^ (30 : Int).toNat)], fun _ => none, [.int (10 ^ (30 : Int).toNat)], 100, rfl, (fun _ _ z => nomatch z), rfl, ga.less (by decide), .cons (.int _) .nil, ⟨_, rfl, by decide, by decide⟩, fun v d B2 H2 l2 ga2 hd r => ?_⟩
  obtain ⟨m, n, em, rfl, hn0, hn1⟩ := r
  have em' : m = 10 ^ (30 : Int).toNat := by
    injection em with em _
    injection em with em
    exact em.symm
  subst em'
  cases hd
  have hn : 0 ≤ n ∧ n < 10 ^ 30 := ⟨hn0, hn1⟩
  clear hn0 hn1 l2
  -- the six values
  refine ⟨.int n, rfl, .ref g, rfl, ?_⟩
  refine ⟨g, [.int 3], fun _ => none, [.int 3], 0, rfl, (fun _ _ z => nomatch z), rfl, ga2.less (by decide), .cons (.int _) .nil, ⟨_, rfl, by decide, by decide⟩, fun v d B3 H3 l3 ga3 hd r => ?_⟩
  obtain ⟨m, i, em, rfl, hi0, hi1⟩ := r
  have em' : m = 3 := by
    injection em with em _
    injection em with em
    exact em.symm
  subst em'
  cases hd
  have hi : 0 ≤ i ∧ i < 3 := ⟨hi0, hi1⟩
  clear hi0 hi1 l3 ga2 ga
  refine ⟨"ab", i, rfl, rfl, mul_ok hi, ?_⟩
  refine ⟨.int n, rfl, by show 1 ≤ sizeLine; decide, fun p hp => ?_⟩
  refine ⟨by show 2 ≤ sizeLine; decide, fun t ht => ?_⟩
  refine fun dc hdc => ⟨upd_same, [(.inr "a", .int 1)], rfl, by decide, ?_⟩
  refine ⟨by show 6 ≤ sizeLine; decide, fun l hl => ?_⟩
  have e4 : Ex H3 (upd H3 p (.lst [.int n])) := Ex.new hp
  have h4 : (upd H3 p (.lst [.int n])) p = some (.lst [.int n]) := upd_same
  generalize upd H3 p (.lst [.int n]) = H4 at *
  have e5 : Ex H4 (upd H4 t (.tup [.str "x", .ref p])) := Ex.new ht
  have h5 : (upd H4 t (.tup [.str "x", .ref p])) t = some (.tup [.str "x", .ref p]) := upd_same
  generalize upd H4 t (.tup [.str "x", .ref p]) = H5 at *
  have e6 : Ex H5 (upd (upd H5 dc (.dK [])) dc (.dK (mergeK [] [(.inr "a", .int 1)]))) := Ex.mut (Ex.new hdc) hdc
  have h6 : (upd (upd H5 dc (.dK [])) dc (.dK (mergeK [] [(.inr "a", .int 1)]))) dc = some (.dK [(.inr "a", .int 1)]) := upd_same
  generalize upd (upd H5 dc (.dK [])) dc (.dK (mergeK [] [(.inr "a", .int 1)])) = H6 at *
  have v1 : Vok K H6 (.non) := .of .non ⟨rfl, Nat.zero_le _, by decide⟩ (by decide +kernel) (by decide +kernel)
  have v2 : Vok K H6 (.int n) := .of (.int n) (fine_int hn) rfl (eq_int n)
  have v3 : Vok K H6 (.str (Txt.mul "ab" i)) := vok_str hi
  have v4 : Vok K H6 (.ref t) := .of (.tup (e6 _ _ h5) (.cons (.str _) (.cons (.lst (e6 _ _ (e5 _ _ h4)) (.cons (.int n) .nil)) .nil))) (fine_tup hn) (sh_tup n) (eq_tup n)
  have v5 : Vok K H6 (.ref dc) := vok_dic h6
  have v6 : Vok K H6 (.bl true) := .of (.bl true) ⟨rfl, Nat.zero_le _, by decide⟩ (by decide +kernel) (by decide +kernel)
  have e7 : Ex H6 (upd H6 l (.lst [.non, .int n, .str (Txt.mul "ab" i), .ref t, .ref dc, .bl true])) := Ex.new hl
  have h7 : (upd H6 l (.lst [.non, .int n, .str (Txt.mul "ab" i), .ref t, .ref dc, .bl true])) l = some (.lst [.non, .int n, .str (Txt.mul "ab" i), .ref t, .ref dc, .bl true]) := upd_same
  have vA : ∀ x ∈ [V.non, .int n, .str (Txt.mul "ab" i), .ref t, .ref dc, .bl true], Vok K H6 x := List.forall_mem_cons.mpr ⟨v1, List.forall_mem_cons.mpr ⟨v2, List.forall_mem_cons.mpr ⟨v3, List.forall_mem_cons.mpr ⟨v4, List.forall_mem_cons.mpr ⟨v5, List.forall_mem_cons.mpr ⟨v6, fun _ h => nomatch h⟩⟩⟩⟩⟩⟩
  clear v2 v3 v4 v5 v6 h6 h5 h4 e4 e5 e6
  generalize upd H6 l (.lst [.non, .int n, .str (Txt.mul "ab" i), .ref t, .ref dc, .bl true]) = H7 at *
  have v0 : Vok K H7 .non := v1.ex e7
  generalize [V.non, .int n, .str (Txt.mul "ab" i), .ref t, .ref dc, .bl true] = xs at *
  refine ⟨l, rfl, ⟨xs, Evl.sq_of h7⟩, ?_⟩
  refine for_list (xs := xs) (fun i σ' H' => ∃ o3, σ' = [some (.ref sc), some (.ref g), some (.int n), o3, none, none, none, none, none] ∧ Ex H7 H') ⟨none, rfl, Ex.refl H7⟩ (fun i σ' H' _ ⟨_, _, e⟩ => Evl.sq_of (e _ _ h7)) ?_ ?_
  · rintro i x σ' H' hi ⟨o3, rfl, e⟩
    have vx := ((vA x (List.mem_of_getElem? hi)).ex e7).ex e
    refine Evl.s_when (b := false) (Evl.et_is (Evl.et_or (Evl.et_not (Evl.et_B (ev_row rfl vx))) fun _ => Evl.et_not (Evl.et_B (ev_row rfl vx))) rfl) (fun z => Bool.noConfusion z) fun _ H8 e8 => ?_
    exact ⟨_, rfl, e.trans e8⟩
  rintro σ' H' ⟨o3, rfl, e⟩
  have v0' := v0.ex e
  clear v0 v1 vA e7 h7 e
  dsimp only
  refine Evl.q_when (b := false) (Evl.et_is (Evl.et_not (Evl.et_B (ev_row0 v0'))) rfl) (fun z => Bool.noConfusion z) fun _ H8 e8 => ?_
  clear v0' e8
  -- the first class by itself
  refine ⟨by show (0 : Nat) ≤ 1000; decide, fun a1 H9 n1 e9 h9 => ?_⟩
  refine ⟨.int n, rfl, by show 2 ≤ 1000; decide, fun a2 H10 n2 e10 h10 => ?_⟩
  refine ⟨by show 2 ≤ sizeLine; decide, fun l2 hl2 => ?_⟩
  have x1 : IsX (upd H10 l2 (.lst [.ref a1, .ref a2])) a1 A.DoorError := IsX.ex (e10.trans (Ex.new hl2)) (.inl h9)
  have x2 : IsX (upd H10 l2 (.lst [.ref a1, .ref a2])) a2 A.DoorError := IsX.ex (Ex.new hl2) (.inl h10)
  have h11 : (upd H10 l2 (.lst [.ref a1, .ref a2])) l2 = some (.lst [.ref a1, .ref a2]) := upd_same
  generalize upd H10 l2 (.lst [.ref a1, .ref a2]) = H11 at *
  have TD0 := M.s_DoorError.exc
  refine ⟨l2, rfl, ⟨[.ref a1, .ref a2], Evl.sq_of h11⟩, ?_⟩
  refine for_list (xs := [.ref a1, .ref a2]) (fun i σ' H' => ∃ o3 o4, σ' = [some (.ref sc), some (.ref g), some (.int n), o3, o4, none, none, none, none] ∧ Ex H11 H') ⟨_, none, rfl, Ex.refl H11⟩ (fun i σ' H' _ ⟨_, _, _, e⟩ => Evl.sq_of (e _ _ h11)) ?_ ?_
  · rintro i x σ' H' hi ⟨o3, o4, rfl, e⟩
    obtain ⟨a, rfl, xa⟩ : ∃ a, x = .ref a ∧ IsX H11 a A.DoorError := by
      rcases List.mem_cons.mp (List.mem_of_getElem? hi) with z | z
      · exact ⟨a1, z, x1⟩
      · exact ⟨a2, List.mem_singleton.mp z, x2⟩
    have xa' := xa.ex e
    refine Evl.s_when (b := false) (Evl.et_is (Evl.et_or (Evl.et_not (Evl.et_B (ev_isx_ty (b := true) rfl xa' TD0 M.dV))) fun _ => Evl.et_test (Evl.ev_opL Evl.ev_c (el_kinds rfl xa' TD0 M.kinds0) fun p H1 hp _ => Evl.rv_isL (Evl.sq_of hp) rfl (by decide))) (by decide)) (fun z => Bool.noConfusion z) fun _ H12 e12 => ?_
    exact ⟨_, _, rfl, e.trans e12⟩
  rintro σ' H12 ⟨o3, o4, rfl, _⟩
  clear x1 x2 h11 h9 h10 e9 e10
  dsimp only
  -- a list kept, then changed
  refine Evl.q_asgL (Evl.el_lst (Evl.ea_cons (Evl.ev_var rfl) Evl.ea_nil) (Nat.le_of_ble_eq_true rfl)) fun p H13 _ _ h13 => ?_
  refine ⟨.ref p, rfl, .ref p, rfl, fun l3 as H14 n14 e14 h14 hA => ?_⟩
  have hp14 := e14 _ _ h13
  refine Evl.q_app hp14 (Evl.ev_var rfl) Evl.ev_c (Nat.le_of_ble_eq_true rfl) fun H15 e15 => ?_
  have hp15 := e15 _ _ hp14
  have np : l3 ≠ p := fun z => by
    rw [z, h13] at n14
    cases n14
  have hA16 := AllE.upd (o := .lst [.int n, .int 1]) hp15 (hA.ex e15)
  have h16 : (upd H15 p (.lst [.int n, .int 1])) l3 = some (.lst (as.map V.ref)) := by
    rw [upd_ne np]
    exact e15 _ _ h14
  have hp16 : (upd H15 p (.lst [.int n, .int 1])) p = some (.lst [.int n, .int 1]) := upd_same
  show tSeq _ _ _ _ (upd H15 p (.lst [.int n, .int 1]))
  generalize upd H15 p (.lst [.int n, .int 1]) = H16 at *
  have len17 : as.length = 17 := hA16.len
  have l2d : ∀ (H : Hp) (p : Addr), H p = some (.lst [.int n, .int 1]) → Da K H (.ref p) (.list [.int n, .int 1]) := fun H p h => .lst h (.cons (.int n) (.cons (.int 1) .nil))
  refine Evl.q_when (b := false) (Evl.et_test (Evl.ev_opLL (by
    have z := Evl.el_lcL (K := K) (σ := [some (.ref sc), some (.ref g), some (.int n), o3, o4, some (.ref p), some (.ref l3), none, none]) (H := H16) (t := tTest (tOp (rNeA K) (tVal K (tVar 4)) (tLst (tCons (tVar 2) (tCons (tC (.int 1)) tNil))))) (j := 4) (vs := [4]) (te := tVar 4) (fun _ => false) (fun _ => V.non) (Evl.ev_var (i := 6) rfl) (Evl.sq_of h16) (by rw [List.length_map]; omega) (fun _ => rfl) (fun i x H17 e17 hi => by
      rw [List.getElem?_map] at hi
      obtain ⟨ad, ha, rfl⟩ := Option.map_eq_some_iff.mp hi
      obtain ⟨C, hC, hx⟩ := hA16.get ha
      have m17 := List.mem_of_getElem? hC
      have TC := M.exc (List.mem_of_getElem? (l17_19 hC))
      exact Evl.et_test (Evl.ev_opL (ev_value rfl (hx.ex e17) TC (M.no C m17)) (Evl.el_lst (Evl.ea_cons (Evl.ev_var rfl) (Evl.ea_cons Evl.ev_c Evl.ea_nil)) (Nat.le_of_ble_eq_true rfl)) fun q' H18 hq e18 => fun H19 e19 Q k => ⟨_, _, l2d H19 p (e19 _ _ (e18 _ _ (e17 _ _ hp16))), l2d H19 q' (e19 _ _ hq), sh_l2 n, sh_l2 n, by
        rw [eq_l2]
        exact k H19 (Ex.refl H19)⟩)) (fun _ _ _ _ _ hf => Bool.noConfusion hf)
    rw [given_no] at z
    exact z) (Evl.el_lst Evl.ea_nil (Nat.le_of_ble_eq_true rfl)) fun p' q' H4 hp' hq' _ => rv_neB (bs := []) hp' hq' rfl rfl)) (fun z => Bool.noConfusion z) fun _ H17 _ => ?_
  -- the two without a field
  refine ⟨by show (0 : Nat) ≤ 1000; decide, fun a1 H9 n1 e9 h9 => ?_⟩
  refine ⟨by show (0 : Nat) ≤ 1000; decide, fun a2 H10 n2 e10 h10 => ?_⟩
  refine ⟨by show 2 ≤ sizeLine; decide, fun l2 hl2 => ?_⟩
  have x1 : IsX (upd H10 l2 (.lst [.ref a1, .ref a2])) a1 A.NothingToUndo := IsX.ex (e10.trans (Ex.new hl2)) (.inl h9)
  have x2 : IsX (upd H10 l2 (.lst [.ref a1, .ref a2])) a2 A.NothingToRedo := IsX.ex (Ex.new hl2) (.inl h10)
  have h11 : (upd H10 l2 (.lst [.ref a1, .ref a2])) l2 = some (.lst [.ref a1, .ref a2]) := upd_same
  generalize upd H10 l2 (.lst [.ref a1, .ref a2]) = H18 at *
  refine ⟨l2, [.ref a1, .ref a2], rfl, Evl.sq_of h11, ?_⟩
  refine for_enum (xs := [.ref a1, .ref a2]) (fun i σ' H' => ∃ o4 o7 o8, σ' = [some (.ref sc), some (.ref g), some (.int n), o3, o4, some (.ref p), some (.ref l3), o7, o8] ∧ Ex H18 H') ⟨_, none, none, rfl, Ex.refl H18⟩ (fun i σ' H' _ ⟨_, _, _, _, e⟩ => Evl.sq_of (e _ _ h11)) ?_ ?_
  · rintro i x t σ' H' hi ⟨o4', o7, o8, rfl, e⟩ ht
    obtain ⟨ad, C, rfl, hx, h19⟩ : ∃ ad C, x = .ref ad ∧ IsX H18 ad C ∧ A.l19[17 + i]? = some C := by
      match i, hi with
      | 0, hi =>
        cases hi
        exact ⟨a1, _, rfl, x1, rfl⟩
      | 1, hi =>
        cases hi
        exact ⟨a2, _, rfl, x2, rfl⟩
      | i + 2, hi => simp at hi
    have m19 := List.mem_of_getElem? h19
    have hi19 : 17 + i < 19 := (List.getElem?_eq_some_iff.mp h19).1
    have TC := M.exc m19
    have e2 : Ex H18 (upd H' t (.tup [.int (i : Nat), .ref ad])) := e.trans (Ex.new ht)
    refine g_pair upd_same ?_
    generalize upd H' t (.tup [.int (i : Nat), .ref ad]) = H2 at e2
    have ix2 := hx.ex e2
    refine Evl.q_when (Evl.et_is (Evl.et_or (Evl.et_not (Evl.et_B (ev_isx (b := true) rfl ix2 TC (M.isD m19)))) fun _ => Evl.et_not (Evl.et_B (ev_isx_ty (b := true) rfl ix2 TC (M.isV m19)))) (show (!true || !true) = false from rfl)) (fun z => Bool.noConfusion z) fun _ H3 e3 => ?_
    have ix3 := ix2.ex e3
    refine Evl.s_when (b := false) (Evl.et_test (Evl.ev_opLL (el_kinds rfl ix3 TC (M.kinds h19)) (by
      have z := Evl.el_lcR1 (σ := [some (.ref sc), some (.ref g), some (.int n), o3, some (.ref ad), some (.ref p), some (.ref l3), some (.int (i : Int)), o8]) (H := H3) (t := tYes) (j := 8) (vs := [8]) (te := tOp rEq (tVar 8) (tOp (rI0 fun i j => .int (i + j)) (tC (.int 17)) (tVar 7))) (n := 19) (fun _ => true) (fun j => V.bl (decide (V.int (j : Int) = V.int (17 + (i : Int))))) (Evl.ea_cons Evl.ev_c Evl.ea_nil) ⟨by decide, by decide⟩ (fun _ => rfl) (fun _ _ _ _ H4 _ Q q => q H4 (Ex.refl H4)) (fun j H4 _ _ _ => Evl.ev_op (Evl.ev_var rfl) (Evl.ev_op Evl.ev_c (Evl.ev_var rfl) Evl.rv_I0) (Evl.rv_eq rfl))
      rw [show (19 : Int).toNat = 19 from rfl, given_row2] at z
      exact z) fun p q' H4 hp hq _ => rv_neB hp hq (row_eq (17 + i) hi19).1 (row_eq (17 + i) hi19).2)) (fun z => Bool.noConfusion z) fun _ H5 e5 => ?_
    exact ⟨_, _, _, rfl, (e2.trans e3).trans e5⟩
  rintro σ' H' ⟨o4', o7, o8, rfl, e⟩
  exact q H'
end
end TD

set_option maxHeartbeats 4000000
namespace TD
open PySem PySem.Spec PyProof.Rows L2
open Evl (Ex Ev EvA EvL EvT RV)
/-! # the end: what the top has written; the law's own head -/
theorem std_mk {K : Fg} {h : Heap} {mg : Str → Option Value} {x : Str} {C : Addr} {r : List Value} (X : K.In h) (G : h.Ns mainGlobals mg) {nm q : Str} {N : Addr} {bs : List Value} {sn : List Str} {sub : List Value} {ab : Bool} {col : Option Bool} {dd : Option Addr} {k0 k1 k2 k3 k5 : Option Value}
    (a1 : PySem.W.nsIn K mainGlobals x = some (some (.ref C)))
    (a2 : K.lookup C = some (excClassObj nm q C N bs (bmV r) true sn sub ab col dd k0 k1 k2 k3 k5 "ValueError.__new__"))
    (a3 : PySem.W.keepIn K (.ref C) = true) (a4 : PySem.W.typeIn K (.ref C) = some (.type "type"))
    (a5 : PySem.W.findIn K (.ref C) "__getattribute__" = some (some (.builtin "BaseException.__getattribute__")))
    (a6 : PySem.W.findIn K (.ref C) "__getattr__" = some none)
    (a7 : PySem.W.findIn K (.ref C) "__class__" = some (some (.builtin "object.__class__")))
    (a8 : PySem.W.specialIn K (.builtin "object.__class__") "__get__" = some (some (.builtin "getset_descriptor.__get__")))
    (a9 : PySem.W.takesIn K (.builtin "object.__class__") = some true) : Std K mg x C r :=
  ⟨PySem.W.mg_of X G a1, a3, a4, ⟨nm, q, N, bs, sn, sub, ab, col, dd, k0, k1, k2, k3, k5, a2⟩, a5, a6, a7, a8, a9⟩
theorem at_mk {K : Fg} {h : Heap} {mg : Str → Option Value} {x : Str} {st : Stmt} {f : Addr} {oc : Value} {od an : Option Addr} {osl : Array (Option Value)} {kV doc pm cdv ct : Value} (X : K.In h) (G : h.Ns mainGlobals mg) (a : PySem.W.nsIn K mainGlobals x = some (some (.ref f)))
    (l : K.lookup f = some ⟨oc, od, .func (PySem.W.fnOf x x (defArgs st) (defBody st) (defScope st) .none kV doc pm an cdv ct), osl⟩) (c : PySem.W.codeIn K cdv x = true) (k : PySem.W.keepIn K (.ref f) = true) : At K mg x st :=
  ⟨f, _, fun_mk l c k, PySem.W.mg_of X G a⟩
def ad : Ad := ⟨45, 65, 85, 105, 125, 145, 165, 185, 205, 225, 245, 265, 285, 305, 325, 345, 365, 377, 389, 24⟩
theorem all_mk {P : Program} {w : World} {K : Fg} {h : Heap} {mg : Str → Option Value} {fa : Addr} (X : K.In h) (G : h.Ns mainGlobals mg) (hfa : mg "law" = some (.ref fa))
    (s_DoorError : Std K mg "DoorError" 24 [])
    (s_InvalidNumber : Std K mg "InvalidNumber" 45 [.ref 24])
    (s_InvalidRoom : Std K mg "InvalidRoom" 65 [.ref 24])
    (s_InvalidLights : Std K mg "InvalidLights" 85 [.ref 24])
    (s_InvalidLevel : Std K mg "InvalidLevel" 105 [.ref 24])
    (s_InvalidPresses : Std K mg "InvalidPresses" 125 [.ref 24])
    (s_InvalidHistory : Std K mg "InvalidHistory" 145 [.ref 24])
    (s_InvalidRuns : Std K mg "InvalidRuns" 165 [.ref 24])
    (s_InvalidTable : Std K mg "InvalidTable" 185 [.ref 24])
    (s_InvalidLetters : Std K mg "InvalidLetters" 205 [.ref 24])
    (s_InvalidHouse : Std K mg "InvalidHouse" 225 [.ref 24])
    (s_InvalidWalk : Std K mg "InvalidWalk" 245 [.ref 24])
    (s_InvalidWalks : Std K mg "InvalidWalks" 265 [.ref 24])
    (s_InvalidLayers : Std K mg "InvalidLayers" 285 [.ref 24])
    (s_InvalidText : Std K mg "InvalidText" 305 [.ref 24])
    (s_InvalidDeed : Std K mg "InvalidDeed" 325 [.ref 24])
    (s_Unlike : Std K mg "Unlike" 345 [.ref 24])
    (s_TooMany : Std K mg "TooMany" 365 [.ref 24])
    (s_NothingToUndo : Std K mg "NothingToUndo" 377 [.ref 24])
    (s_NothingToRedo : Std K mg "NothingToRedo" 389 [.ref 24])
    (m_InvalidNumber : ∀ base : Heap, Std K mg "InvalidNumber" 45 [.ref 24] → Mke P w K mg base "InvalidNumber" 45)
    (m_InvalidRoom : ∀ base : Heap, Std K mg "InvalidRoom" 65 [.ref 24] → Mke P w K mg base "InvalidRoom" 65)
    (m_InvalidLights : ∀ base : Heap, Std K mg "InvalidLights" 85 [.ref 24] → Mke P w K mg base "InvalidLights" 85)
    (m_InvalidLevel : ∀ base : Heap, Std K mg "InvalidLevel" 105 [.ref 24] → Mke P w K mg base "InvalidLevel" 105)
    (m_InvalidPresses : ∀ base : Heap, Std K mg "InvalidPresses" 125 [.ref 24] → Mke P w K mg base "InvalidPresses" 125)
    (m_InvalidHistory : ∀ base : Heap, Std K mg "InvalidHistory" 145 [.ref 24] → Mke P w K mg base "InvalidHistory" 145)
    (m_InvalidRuns : ∀ base : Heap, Std K mg "InvalidRuns" 165 [.ref 24] → Mke P w K mg base "InvalidRuns" 165)
    (m_InvalidTable : ∀ base : Heap, Std K mg "InvalidTable" 185 [.ref 24] → Mke P w K mg base "InvalidTable" 185)
    (m_InvalidLetters : ∀ base : Heap, Std K mg "InvalidLetters" 205 [.ref 24] → Mke P w K mg base "InvalidLetters" 205)
    (m_InvalidHouse : ∀ base : Heap, Std K mg "InvalidHouse" 225 [.ref 24] → Mke P w K mg base "InvalidHouse" 225)
    (m_InvalidWalk : ∀ base : Heap, Std K mg "InvalidWalk" 245 [.ref 24] → Mke P w K mg base "InvalidWalk" 245)
    (m_InvalidWalks : ∀ base : Heap, Std K mg "InvalidWalks" 265 [.ref 24] → Mke P w K mg base "InvalidWalks" 265)
    (m_InvalidLayers : ∀ base : Heap, Std K mg "InvalidLayers" 285 [.ref 24] → Mke P w K mg base "InvalidLayers" 285)
    (m_InvalidText : ∀ base : Heap, Std K mg "InvalidText" 305 [.ref 24] → Mke P w K mg base "InvalidText" 305)
    (m_InvalidDeed : ∀ base : Heap, Std K mg "InvalidDeed" 325 [.ref 24] → Mke P w K mg base "InvalidDeed" 325)
    (m_Unlike : ∀ base : Heap, Std K mg "Unlike" 345 [.ref 24] → Mke P w K mg base "Unlike" 345)
    (m_TooMany : ∀ base : Heap, Std K mg "TooMany" 365 [.ref 24] → Mke P w K mg base "TooMany" 365)
    (q_NothingToUndo : ∃ bmB, ExcBaseFacts "ValueError" "ValueError.__new__" "ValueError.__init__" bmB ∧ PySem.W.excIn K 377 bmB "ValueError.__new__" = true)
    (q_NothingToRedo : ∃ bmB, ExcBaseFacts "ValueError" "ValueError.__new__" "ValueError.__init__" bmB ∧ PySem.W.excIn K 389 bmB "ValueError.__new__" = true)
    (q_DoorError : ∃ bmB, ExcBaseFacts "ValueError" "ValueError.__new__" "ValueError.__init__" bmB ∧ PySem.W.excIn K 24 bmB "ValueError.__new__" = true)
    (a__law_hash : At K mg "_law_hash" s__law_hash)
    (a__law_random : At K mg "_law_random" s__law_random)
    (a__law_cell : At K mg "_law_cell" s__law_cell)
    (a__law_generator : At K mg "_law_generator" s__law_generator)
    (a__law_made : At K mg "_law_made" s__law_made)
    (a__law_by_name : At K mg "_law_by_name" s__law_by_name)
    (a__law_empty : At K mg "_law_empty" s__law_empty)
    (a__law_kinds : At K mg "_law_kinds" s__law_kinds)
    (a__law_row_right : At K mg "_law_row_right" s__law_row_right)
    (a_law : At K mg "law" s_law)
    (z_int : PySem.W.nsIn K mainGlobals "int" = some none)
    (z_len : PySem.W.nsIn K mainGlobals "len" = some none)
    (z_max : PySem.W.nsIn K mainGlobals "max" = some none)
    (z_sum : PySem.W.nsIn K mainGlobals "sum" = some none)
    (z_range : PySem.W.nsIn K mainGlobals "range" = some none)
    (z_isinstance : PySem.W.nsIn K mainGlobals "isinstance" = some none)
    (z_ValueError : PySem.W.nsIn K mainGlobals "ValueError" = some none)
    (z_enumerate : PySem.W.nsIn K mainGlobals "enumerate" = some none)
    (z_repr : PySem.W.nsIn K mainGlobals "repr" = some none)
    : ∃ fd : FuncData, (∀ (s : Shared) (v : Value), BindsTo s fd ⟨[v], []⟩ [("_law_script", v)]) ∧ ∀ base : Heap, K.In base → base.Ns mainGlobals mg → (∃ mm, base.Ns sysModules mm) → FnG P w K mg base CX0 4 fa fd ["_law_script"] (spLaw K) := by
  have B0 : Bg mg := ⟨PySem.W.mg_none_of X G z_int, PySem.W.mg_none_of X G z_len, PySem.W.mg_none_of X G z_max, PySem.W.mg_none_of X G z_sum, PySem.W.mg_none_of X G z_range⟩
  have B1 : B5 mg := ⟨PySem.W.mg_none_of X G z_isinstance, PySem.W.mg_none_of X G z_ValueError, PySem.W.mg_none_of X G z_enumerate, PySem.W.mg_none_of X G z_range, PySem.W.mg_none_of X G z_repr, PySem.W.mg_none_of X G z_len⟩
  have mkn : ∀ {x : Str} {C : Addr} {r : List Value}, Std K mg x C r → (∃ bmB, ExcBaseFacts "ValueError" "ValueError.__new__" "ValueError.__init__" bmB ∧ PySem.W.excIn K C bmB "ValueError.__new__" = true) → Mkn K mg x C := fun s ⟨b, h1, h2⟩ => ⟨b, h1, h2, s.gC, s.kC, s.exc⟩
  have M : ∀ base : Heap, Ck P w K mg base ad := fun base => ⟨m_InvalidNumber base s_InvalidNumber, m_InvalidRoom base s_InvalidRoom, m_InvalidLights base s_InvalidLights, m_InvalidLevel base s_InvalidLevel, m_InvalidPresses base s_InvalidPresses, m_InvalidHistory base s_InvalidHistory, m_InvalidRuns base s_InvalidRuns, m_InvalidTable base s_InvalidTable, m_InvalidLetters base s_InvalidLetters, m_InvalidHouse base s_InvalidHouse, m_InvalidWalk base s_InvalidWalk, m_InvalidWalks base s_InvalidWalks, m_InvalidLayers base s_InvalidLayers, m_InvalidText base s_InvalidText, m_InvalidDeed base s_InvalidDeed, m_Unlike base s_Unlike, m_TooMany base s_TooMany, mkn s_NothingToUndo q_NothingToUndo, mkn s_NothingToRedo q_NothingToRedo, mkn s_DoorError q_DoorError, s_InvalidNumber, s_InvalidRoom, s_InvalidLights, s_InvalidLevel, s_InvalidPresses, s_InvalidHistory, s_InvalidRuns, s_InvalidTable, s_InvalidLetters, s_InvalidHouse, s_InvalidWalk, s_InvalidWalks, s_InvalidLayers, s_InvalidText, s_InvalidDeed, s_Unlike, s_TooMany, s_NothingToUndo, s_NothingToRedo, s_DoorError, by decide⟩
  obtain ⟨f, fd, F, hm⟩ := a_law
  have e := hfa.symm.trans hm
  cases e
  refine ⟨fd, ?_, fun base _ _ sm => ?_⟩
  · obtain ⟨oc, od, kV, doc, pm, an, cdv, ct, osl, rfl, lk, hcd⟩ := F.ex
    exact fun s v => .of_eq rfl
  · have MB := M base
    have c1 : Fc P w K mg base "_law_hash" _ _ _ := f__law_hash B0 a__law_hash
    have c2 : Fc P w K mg base "_law_random" _ _ _ := f__law_random B0 a__law_random c1
    have c3 : Fc P w K mg base "_law_cell" _ _ _ := f__law_cell B0 a__law_cell
    have c4 : Fc P w K mg base "_law_generator" _ _ _ := f__law_generator B0 a__law_generator c3
    have c5 : Fc P w K mg base "_law_kinds" _ _ _ := f__law_kinds B1 MB a__law_kinds
    exact f_law B0 B1 sm MB c4 c2 (f__law_made MB a__law_made) (f__law_by_name MB a__law_by_name) (f__law_empty MB a__law_empty) c5 (f__law_row_right B1 sm MB a__law_row_right c5) F
end TD
open PySem PySem.W PyProof.Rows
set_option maxHeartbeats 0 in
theorem PySem.Challenge.cw_timedoors_k05_errors_by_their_classes_holds : PySem.Challenge.rw_timedoors_k05_errors_by_their_classes.Holds := by
  w_on; o_law; k_head; (case hw => w_witness2)
  k_fill
  refine TD.walkG (l := PySem.Challenge.rw_timedoors_k05_errors_by_their_classes) (n := 63) (k := 4) (x := "_law_script") (CX := fun _ => L2.CX0) (sp := fun w => TD.spLaw _) rfl (by decide) rfl rfl ⟨rfl, by decide, by decide⟩ (fun w h Y => PySem.W.kIn_of Y) ?F (fun _ _ a ns hl _ hS => ⟨a, ns, rfl, hS, fun _ => rfl⟩) (fun _ _ _ _ _ h => h)
  case F =>
    intro w mg fa h KX G hmg
    refine' TD.all_mk KX G hmg ?s_DoorError ?s_InvalidNumber ?s_InvalidRoom ?s_InvalidLights ?s_InvalidLevel ?s_InvalidPresses ?s_InvalidHistory ?s_InvalidRuns ?s_InvalidTable ?s_InvalidLetters ?s_InvalidHouse ?s_InvalidWalk ?s_InvalidWalks ?s_InvalidLayers ?s_InvalidText ?s_InvalidDeed ?s_Unlike ?s_TooMany ?s_NothingToUndo ?s_NothingToRedo ?m_InvalidNumber ?m_InvalidRoom ?m_InvalidLights ?m_InvalidLevel ?m_InvalidPresses ?m_InvalidHistory ?m_InvalidRuns ?m_InvalidTable ?m_InvalidLetters ?m_InvalidHouse ?m_InvalidWalk ?m_InvalidWalks ?m_InvalidLayers ?m_InvalidText ?m_InvalidDeed ?m_Unlike ?m_TooMany ?q_NothingToUndo ?q_NothingToRedo ?q_DoorError ?a__law_hash ?a__law_random ?a__law_cell ?a__law_generator ?a__law_made ?a__law_by_name ?a__law_empty ?a__law_kinds ?a__law_row_right ?a_law ?z_int ?z_len ?z_max ?z_sum ?z_range ?z_isinstance ?z_ValueError ?z_enumerate ?z_repr
    (case s_DoorError => refine' TD.std_mk KX G ?a1 ?a2 ?a3 ?a4 ?a5 ?a6 ?a7 ?a8 ?a9; (case a1 => k_is); (case a2 => k_is); (case a3 => k_is); (case a4 => k_is); (case a5 => k_is); (case a6 => k_is); (case a7 => k_is); (case a8 => k_is); (case a9 => k_is))
    (case s_InvalidNumber => refine' TD.std_mk KX G ?a1 ?a2 ?a3 ?a4 ?a5 ?a6 ?a7 ?a8 ?a9; (case a1 => k_is); (case a2 => k_is); (case a3 => k_is); (case a4 => k_is); (case a5 => k_is); (case a6 => k_is); (case a7 => k_is); (case a8 => k_is); (case a9 => k_is))
    (case s_InvalidRoom => refine' TD.std_mk KX G ?a1 ?a2 ?a3 ?a4 ?a5 ?a6 ?a7 ?a8 ?a9; (case a1 => k_is); (case a2 => k_is); (case a3 => k_is); (case a4 => k_is); (case a5 => k_is); (case a6 => k_is); (case a7 => k_is); (case a8 => k_is); (case a9 => k_is))
    (case s_InvalidLights => refine' TD.std_mk KX G ?a1 ?a2 ?a3 ?a4 ?a5 ?a6 ?a7 ?a8 ?a9; (case a1 => k_is); (case a2 => k_is); (case a3 => k_is); (case a4 => k_is); (case a5 => k_is); (case a6 => k_is); (case a7 => k_is); (case a8 => k_is); (case a9 => k_is))
    (case s_InvalidLevel => refine' TD.std_mk KX G ?a1 ?a2 ?a3 ?a4 ?a5 ?a6 ?a7 ?a8 ?a9; (case a1 => k_is); (case a2 => k_is); (case a3 => k_is); (case a4 => k_is); (case a5 => k_is); (case a6 => k_is); (case a7 => k_is); (case a8 => k_is); (case a9 => k_is))
    (case s_InvalidPresses => refine' TD.std_mk KX G ?a1 ?a2 ?a3 ?a4 ?a5 ?a6 ?a7 ?a8 ?a9; (case a1 => k_is); (case a2 => k_is); (case a3 => k_is); (case a4 => k_is); (case a5 => k_is); (case a6 => k_is); (case a7 => k_is); (case a8 => k_is); (case a9 => k_is))
    (case s_InvalidHistory => refine' TD.std_mk KX G ?a1 ?a2 ?a3 ?a4 ?a5 ?a6 ?a7 ?a8 ?a9; (case a1 => k_is); (case a2 => k_is); (case a3 => k_is); (case a4 => k_is); (case a5 => k_is); (case a6 => k_is); (case a7 => k_is); (case a8 => k_is); (case a9 => k_is))
    (case s_InvalidRuns => refine' TD.std_mk KX G ?a1 ?a2 ?a3 ?a4 ?a5 ?a6 ?a7 ?a8 ?a9; (case a1 => k_is); (case a2 => k_is); (case a3 => k_is); (case a4 => k_is); (case a5 => k_is); (case a6 => k_is); (case a7 => k_is); (case a8 => k_is); (case a9 => k_is))
    (case s_InvalidTable => refine' TD.std_mk KX G ?a1 ?a2 ?a3 ?a4 ?a5 ?a6 ?a7 ?a8 ?a9; (case a1 => k_is); (case a2 => k_is); (case a3 => k_is); (case a4 => k_is); (case a5 => k_is); (case a6 => k_is); (case a7 => k_is); (case a8 => k_is); (case a9 => k_is))
    (case s_InvalidLetters => refine' TD.std_mk KX G ?a1 ?a2 ?a3 ?a4 ?a5 ?a6 ?a7 ?a8 ?a9; (case a1 => k_is); (case a2 => k_is); (case a3 => k_is); (case a4 => k_is); (case a5 => k_is); (case a6 => k_is); (case a7 => k_is); (case a8 => k_is); (case a9 => k_is))
    (case s_InvalidHouse => refine' TD.std_mk KX G ?a1 ?a2 ?a3 ?a4 ?a5 ?a6 ?a7 ?a8 ?a9; (case a1 => k_is); (case a2 => k_is); (case a3 => k_is); (case a4 => k_is); (case a5 => k_is); (case a6 => k_is); (case a7 => k_is); (case a8 => k_is); (case a9 => k_is))
    (case s_InvalidWalk => refine' TD.std_mk KX G ?a1 ?a2 ?a3 ?a4 ?a5 ?a6 ?a7 ?a8 ?a9; (case a1 => k_is); (case a2 => k_is); (case a3 => k_is); (case a4 => k_is); (case a5 => k_is); (case a6 => k_is); (case a7 => k_is); (case a8 => k_is); (case a9 => k_is))
    (case s_InvalidWalks => refine' TD.std_mk KX G ?a1 ?a2 ?a3 ?a4 ?a5 ?a6 ?a7 ?a8 ?a9; (case a1 => k_is); (case a2 => k_is); (case a3 => k_is); (case a4 => k_is); (case a5 => k_is); (case a6 => k_is); (case a7 => k_is); (case a8 => k_is); (case a9 => k_is))
    (case s_InvalidLayers => refine' TD.std_mk KX G ?a1 ?a2 ?a3 ?a4 ?a5 ?a6 ?a7 ?a8 ?a9; (case a1 => k_is); (case a2 => k_is); (case a3 => k_is); (case a4 => k_is); (case a5 => k_is); (case a6 => k_is); (case a7 => k_is); (case a8 => k_is); (case a9 => k_is))
    (case s_InvalidText => refine' TD.std_mk KX G ?a1 ?a2 ?a3 ?a4 ?a5 ?a6 ?a7 ?a8 ?a9; (case a1 => k_is); (case a2 => k_is); (case a3 => k_is); (case a4 => k_is); (case a5 => k_is); (case a6 => k_is); (case a7 => k_is); (case a8 => k_is); (case a9 => k_is))
    (case s_InvalidDeed => refine' TD.std_mk KX G ?a1 ?a2 ?a3 ?a4 ?a5 ?a6 ?a7 ?a8 ?a9; (case a1 => k_is); (case a2 => k_is); (case a3 => k_is); (case a4 => k_is); (case a5 => k_is); (case a6 => k_is); (case a7 => k_is); (case a8 => k_is); (case a9 => k_is))
    (case s_Unlike => refine' TD.std_mk KX G ?a1 ?a2 ?a3 ?a4 ?a5 ?a6 ?a7 ?a8 ?a9; (case a1 => k_is); (case a2 => k_is); (case a3 => k_is); (case a4 => k_is); (case a5 => k_is); (case a6 => k_is); (case a7 => k_is); (case a8 => k_is); (case a9 => k_is))
    (case s_TooMany => refine' TD.std_mk KX G ?a1 ?a2 ?a3 ?a4 ?a5 ?a6 ?a7 ?a8 ?a9; (case a1 => k_is); (case a2 => k_is); (case a3 => k_is); (case a4 => k_is); (case a5 => k_is); (case a6 => k_is); (case a7 => k_is); (case a8 => k_is); (case a9 => k_is))
    (case s_NothingToUndo => refine' TD.std_mk KX G ?a1 ?a2 ?a3 ?a4 ?a5 ?a6 ?a7 ?a8 ?a9; (case a1 => k_is); (case a2 => k_is); (case a3 => k_is); (case a4 => k_is); (case a5 => k_is); (case a6 => k_is); (case a7 => k_is); (case a8 => k_is); (case a9 => k_is))
    (case s_NothingToRedo => refine' TD.std_mk KX G ?a1 ?a2 ?a3 ?a4 ?a5 ?a6 ?a7 ?a8 ?a9; (case a1 => k_is); (case a2 => k_is); (case a3 => k_is); (case a4 => k_is); (case a5 => k_is); (case a6 => k_is); (case a7 => k_is); (case a8 => k_is); (case a9 => k_is))
    (case m_InvalidNumber => intro base s; refine' TD.mke_of (st := TD.clsM (TD.topS 2)) s ?hv ?sa ?no ?ini ?tI ?l1 ?c1 ?k1 ?lT ?dT ?hs; (case hv => decide); (case sa => k_is); (case no => k_is); (case ini => k_is); (case tI => k_is); (case l1 => k_is); (case c1 => k_is); (case k1 => k_is); (case lT => k_is); (case dT => rfl); (case hs => exact ⟨_, _, _, _, _, _, _, rfl, rfl, rfl⟩))
    (case m_InvalidRoom => intro base s; refine' TD.mke_of (st := TD.clsM (TD.topS 3)) s ?hv ?sa ?no ?ini ?tI ?l1 ?c1 ?k1 ?lT ?dT ?hs; (case hv => decide); (case sa => k_is); (case no => k_is); (case ini => k_is); (case tI => k_is); (case l1 => k_is); (case c1 => k_is); (case k1 => k_is); (case lT => k_is); (case dT => rfl); (case hs => exact ⟨_, _, _, _, _, _, _, rfl, rfl, rfl⟩))
    (case m_InvalidLights => intro base s; refine' TD.mke_of (st := TD.clsM (TD.topS 4)) s ?hv ?sa ?no ?ini ?tI ?l1 ?c1 ?k1 ?lT ?dT ?hs; (case hv => decide); (case sa => k_is); (case no => k_is); (case ini => k_is); (case tI => k_is); (case l1 => k_is); (case c1 => k_is); (case k1 => k_is); (case lT => k_is); (case dT => rfl); (case hs => exact ⟨_, _, _, _, _, _, _, rfl, rfl, rfl⟩))
    (case m_InvalidLevel => intro base s; refine' TD.mke_of (st := TD.clsM (TD.topS 5)) s ?hv ?sa ?no ?ini ?tI ?l1 ?c1 ?k1 ?lT ?dT ?hs; (case hv => decide); (case sa => k_is); (case no => k_is); (case ini => k_is); (case tI => k_is); (case l1 => k_is); (case c1 => k_is); (case k1 => k_is); (case lT => k_is); (case dT => rfl); (case hs => exact ⟨_, _, _, _, _, _, _, rfl, rfl, rfl⟩))
    (case m_InvalidPresses => intro base s; refine' TD.mke_of (st := TD.clsM (TD.topS 6)) s ?hv ?sa ?no ?ini ?tI ?l1 ?c1 ?k1 ?lT ?dT ?hs; (case hv => decide); (case sa => k_is); (case no => k_is); (case ini => k_is); (case tI => k_is); (case l1 => k_is); (case c1 => k_is); (case k1 => k_is); (case lT => k_is); (case dT => rfl); (case hs => exact ⟨_, _, _, _, _, _, _, rfl, rfl, rfl⟩))
    (case m_InvalidHistory => intro base s; refine' TD.mke_of (st := TD.clsM (TD.topS 7)) s ?hv ?sa ?no ?ini ?tI ?l1 ?c1 ?k1 ?lT ?dT ?hs; (case hv => decide); (case sa => k_is); (case no => k_is); (case ini => k_is); (case tI => k_is); (case l1 => k_is); (case c1 => k_is); (case k1 => k_is); (case lT => k_is); (case dT => rfl); (case hs => exact ⟨_, _, _, _, _, _, _, rfl, rfl, rfl⟩))
    (case m_InvalidRuns => intro base s; refine' TD.mke_of (st := TD.clsM (TD.topS 8)) s ?hv ?sa ?no ?ini ?tI ?l1 ?c1 ?k1 ?lT ?dT ?hs; (case hv => decide); (case sa => k_is); (case no => k_is); (case ini => k_is); (case tI => k_is); (case l1 => k_is); (case c1 => k_is); (case k1 => k_is); (case lT => k_is); (case dT => rfl); (case hs => exact ⟨_, _, _, _, _, _, _, rfl, rfl, rfl⟩))
    (case m_InvalidTable => intro base s; refine' TD.mke_of (st := TD.clsM (TD.topS 9)) s ?hv ?sa ?no ?ini ?tI ?l1 ?c1 ?k1 ?lT ?dT ?hs; (case hv => decide); (case sa => k_is); (case no => k_is); (case ini => k_is); (case tI => k_is); (case l1 => k_is); (case c1 => k_is); (case k1 => k_is); (case lT => k_is); (case dT => rfl); (case hs => exact ⟨_, _, _, _, _, _, _, rfl, rfl, rfl⟩))
    (case m_InvalidLetters => intro base s; refine' TD.mke_of (st := TD.clsM (TD.topS 10)) s ?hv ?sa ?no ?ini ?tI ?l1 ?c1 ?k1 ?lT ?dT ?hs; (case hv => decide); (case sa => k_is); (case no => k_is); (case ini => k_is); (case tI => k_is); (case l1 => k_is); (case c1 => k_is); (case k1 => k_is); (case lT => k_is); (case dT => rfl); (case hs => exact ⟨_, _, _, _, _, _, _, rfl, rfl, rfl⟩))
    (case m_InvalidHouse => intro base s; refine' TD.mke_of (st := TD.clsM (TD.topS 11)) s ?hv ?sa ?no ?ini ?tI ?l1 ?c1 ?k1 ?lT ?dT ?hs; (case hv => decide); (case sa => k_is); (case no => k_is); (case ini => k_is); (case tI => k_is); (case l1 => k_is); (case c1 => k_is); (case k1 => k_is); (case lT => k_is); (case dT => rfl); (case hs => exact ⟨_, _, _, _, _, _, _, rfl, rfl, rfl⟩))
    (case m_InvalidWalk => intro base s; refine' TD.mke_of (st := TD.clsM (TD.topS 12)) s ?hv ?sa ?no ?ini ?tI ?l1 ?c1 ?k1 ?lT ?dT ?hs; (case hv => decide); (case sa => k_is); (case no => k_is); (case ini => k_is); (case tI => k_is); (case l1 => k_is); (case c1 => k_is); (case k1 => k_is); (case lT => k_is); (case dT => rfl); (case hs => exact ⟨_, _, _, _, _, _, _, rfl, rfl, rfl⟩))
    (case m_InvalidWalks => intro base s; refine' TD.mke_of (st := TD.clsM (TD.topS 13)) s ?hv ?sa ?no ?ini ?tI ?l1 ?c1 ?k1 ?lT ?dT ?hs; (case hv => decide); (case sa => k_is); (case no => k_is); (case ini => k_is); (case tI => k_is); (case l1 => k_is); (case c1 => k_is); (case k1 => k_is); (case lT => k_is); (case dT => rfl); (case hs => exact ⟨_, _, _, _, _, _, _, rfl, rfl, rfl⟩))
    (case m_InvalidLayers => intro base s; refine' TD.mke_of (st := TD.clsM (TD.topS 14)) s ?hv ?sa ?no ?ini ?tI ?l1 ?c1 ?k1 ?lT ?dT ?hs; (case hv => decide); (case sa => k_is); (case no => k_is); (case ini => k_is); (case tI => k_is); (case l1 => k_is); (case c1 => k_is); (case k1 => k_is); (case lT => k_is); (case dT => rfl); (case hs => exact ⟨_, _, _, _, _, _, _, rfl, rfl, rfl⟩))
    (case m_InvalidText => intro base s; refine' TD.mke_of (st := TD.clsM (TD.topS 15)) s ?hv ?sa ?no ?ini ?tI ?l1 ?c1 ?k1 ?lT ?dT ?hs; (case hv => decide); (case sa => k_is); (case no => k_is); (case ini => k_is); (case tI => k_is); (case l1 => k_is); (case c1 => k_is); (case k1 => k_is); (case lT => k_is); (case dT => rfl); (case hs => exact ⟨_, _, _, _, _, _, _, rfl, rfl, rfl⟩))
    (case m_InvalidDeed => intro base s; refine' TD.mke_of (st := TD.clsM (TD.topS 16)) s ?hv ?sa ?no ?ini ?tI ?l1 ?c1 ?k1 ?lT ?dT ?hs; (case hv => decide); (case sa => k_is); (case no => k_is); (case ini => k_is); (case tI => k_is); (case l1 => k_is); (case c1 => k_is); (case k1 => k_is); (case lT => k_is); (case dT => rfl); (case hs => exact ⟨_, _, _, _, _, _, _, rfl, rfl, rfl⟩))
    (case m_Unlike => intro base s; refine' TD.mke_of (st := TD.clsM (TD.topS 17)) s ?hv ?sa ?no ?ini ?tI ?l1 ?c1 ?k1 ?lT ?dT ?hs; (case hv => decide); (case sa => k_is); (case no => k_is); (case ini => k_is); (case tI => k_is); (case l1 => k_is); (case c1 => k_is); (case k1 => k_is); (case lT => k_is); (case dT => rfl); (case hs => exact ⟨_, _, _, _, _, _, _, rfl, rfl, rfl⟩))
    (case m_TooMany => intro base s; refine' TD.mke_of (st := TD.clsM (TD.topS 18)) s ?hv ?sa ?no ?ini ?tI ?l1 ?c1 ?k1 ?lT ?dT ?hs; (case hv => decide); (case sa => k_is); (case no => k_is); (case ini => k_is); (case tI => k_is); (case l1 => k_is); (case c1 => k_is); (case k1 => k_is); (case lT => k_is); (case dT => rfl); (case hs => exact ⟨_, _, _, _, _, _, _, rfl, rfl, rfl⟩))
    (case q_NothingToUndo => exact ⟨_, PySem.F.excBase_ValueError, by k_exc⟩)
    (case q_NothingToRedo => exact ⟨_, PySem.F.excBase_ValueError, by k_exc⟩)
    (case q_DoorError => exact ⟨_, PySem.F.excBase_ValueError, by k_exc⟩)
    (case a__law_hash => refine' TD.at_mk KX G ?a ?l ?c ?k; (case a => k_is); (case l => k_is); (case c => k_is); (case k => k_is))
    (case a__law_random => refine' TD.at_mk KX G ?a ?l ?c ?k; (case a => k_is); (case l => k_is); (case c => k_is); (case k => k_is))
    (case a__law_cell => refine' TD.at_mk KX G ?a ?l ?c ?k; (case a => k_is); (case l => k_is); (case c => k_is); (case k => k_is))
    (case a__law_generator => refine' TD.at_mk KX G ?a ?l ?c ?k; (case a => k_is); (case l => k_is); (case c => k_is); (case k => k_is))
    (case a__law_made => refine' TD.at_mk KX G ?a ?l ?c ?k; (case a => k_is); (case l => k_is); (case c => k_is); (case k => k_is))
    (case a__law_by_name => refine' TD.at_mk KX G ?a ?l ?c ?k; (case a => k_is); (case l => k_is); (case c => k_is); (case k => k_is))
    (case a__law_empty => refine' TD.at_mk KX G ?a ?l ?c ?k; (case a => k_is); (case l => k_is); (case c => k_is); (case k => k_is))
    (case a__law_kinds => refine' TD.at_mk KX G ?a ?l ?c ?k; (case a => k_is); (case l => k_is); (case c => k_is); (case k => k_is))
    (case a__law_row_right => refine' TD.at_mk KX G ?a ?l ?c ?k; (case a => k_is); (case l => k_is); (case c => k_is); (case k => k_is))
    (case a_law => refine' TD.at_mk KX G ?a ?l ?c ?k; (case a => k_is); (case l => k_is); (case c => k_is); (case k => k_is))
    (case z_int => k_is)
    (case z_len => k_is)
    (case z_max => k_is)
    (case z_sum => k_is)
    (case z_range => k_is)
    (case z_isinstance => k_is)
    (case z_ValueError => k_is)
    (case z_enumerate => k_is)
    (case z_repr => k_is)
