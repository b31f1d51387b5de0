import PyProof.Rows.All
import Wide.All
import OpenK.AllK
import Wide.FinOn
import HandS.ForMost
import HandS.IsInst
import HandS.Evl
import HandS.WideBits
import HandS.Wide
import HandS.Flow
import HandS.Style
import HandS.SortInts
import HandS.Strs
import HandS.Conv
import HandS.TupLe
import HandS.Defaults
import HandS.Small
import KE.DataCmp
import HandS.SetFor
import KE.SortData
import HandS.CallLocal
import PySem.Challenge.RW_timedoors_k01_levels_presses_and_runs
set_option Elab.async false
set_option linter.all false
set_option maxRecDepth 100000
set_option maxHeartbeats 4000000
/-! # G1: defs whose promise is asked only where nothing is being printed (guards are empty): so repr of data is exact -/
namespace TD
open PySem PySem.Spec PyProof.Rows L2

/-- as FnOk, asked only where no repr is under way -/
structure FnG (P : Program) (w : World) (K : PySem.W.Frag) (mg : Str → Option Value) (base : Heap) (CX : CXT) (k : Nat) (f : Addr) (fd : FuncData) (ps : List Str) (sp : Sp) : Prop where
  ln : ∀ vs H Q E, sp vs H Q E → vs.length = ps.length
  go : ∀ (A : Around) (outer : List Env) (s : Shared) (H : Hp) (args : Args) (us : List Value) (vs : List V) (Q : VK) (E : XK),
    A.guards = some [] → Room k A → Env0 P w K mg base A outer s H → BindsTo s fd args (ps.zip us) → Vals vs us → sp vs H Q E →
    codeAny (model P w) A (.call (.ref f) args) (CR CX outer P w H s Q E) s

section
variable {P : Program} {w : World} {K : PySem.W.Frag} {mg : Str → Option Value} {base : Heap}
theorem FnG.up {CX : CXT} {j k : Nat} {f : Addr} {fd : FuncData} {ps : List Str} {sp : Sp} (F : FnG P w K mg base CX j f fd ps sp) (h : j ≤ k) :
    FnG P w K mg base CX k f fd ps sp := ⟨F.ln, fun A o s H a us vs Q E g r => F.go A o s H a us vs Q E g (r.mono h)⟩
theorem FnG.weak {CX : CXT} {k : Nat} {f : Addr} {fd : FuncData} {ps : List Str} {sp sp' : Sp} (F : FnG P w K mg base CX k f fd ps sp)
    (h : ∀ vs H Q E, sp' vs H Q E → sp vs H Q E) : FnG P w K mg base CX k f fd ps sp' :=
  ⟨fun vs H Q E q => F.ln vs H Q E (h _ _ _ _ q), fun A o s H a us vs Q E g r e b v q => F.go A o s H a us vs Q E g r e b v (h _ _ _ _ q)⟩
theorem FnG.of {CX : CXT} {k : Nat} {f : Addr} {fd : FuncData} {ps : List Str} {sp : Sp} (F : FnOk P w K mg base CX k f fd ps sp) :
    FnG P w K mg base CX k f fd ps sp := ⟨F.len, fun A o s H a us vs Q E _ r => F.run A o s H a us vs Q E r⟩
/-- the rule for a def, guards told -/
theorem fnG {CX : CXT} {x qual : Str} {st : Stmt} {f : Addr} {fd : FuncData} {N ps : List Str} {k : Nat} {sp : Sp} (F : Fun K x qual st f fd) (S : FnScope N ps (defScope st))
    (ln : ∀ vs H Q E, sp vs H Q E → vs.length = ps.length)
    (body : ∀ (cdv : Value) (A : Around) (outer : List Env) (s : Shared) (H : Hp) (vs : List V) (Q : VK) (E : XK),
      A.guards = some [] → Room k (A.deeper (envOfC qual (defScope st) s.heap.objs.size f cdv)) → sp vs H Q E →
      ∃ t, PSs (cxOf CX P w K mg base N qual (defScope st) f cdv A outer s H E) (defBody st) t ∧ t { nx := fun _ H' => Q .non H', rt := Q } (start N vs) H) :
    FnG P w K mg base CX (k + 1) f fd ps sp := by
  obtain ⟨oc, od, kV, doc, pm, an, cdv, ct, osl, rfl, lk, hcd⟩ := F.ex
  refine ⟨ln, ?_⟩
  intro A outer s H args us vs Q E hg hr e0 hb r hsp
  have keepB : ∀ b o, base.get? b = some o → s.heap.get? b = some o := fun b o e => (e0.bs b o e).1
  have inK : K.In s.heap := e0.mod.kin.keeps keepB
  have noLim : s.heap.NoLimit := e0.mod.nolimit.keeps keepB
  have kinds : ∀ y ∈ ps.zip us, (defScope st).names.lookup y.1 = some .local ∨
      ((defScope st).names.lookup y.1 = some .cell ∧ ((cellsFrom (s.heap.objs.size + 1) (defScope st).names []).lookup y.1).isSome = true) := by
    intro ⟨nm, u⟩ hy
    rcases S.par nm (List.of_mem_zip hy).1 with z | z
    · exact Or.inl z
    · exact Or.inr ⟨z, PySem.W.cellsFrom_some _ _ _ (Or.inl z)⟩
  refine codeAny_call_function hr.depth (inK _ _ lk) rfl S.co S.gen rfl (PySem.W.codeRec_of inK hcd) (hb _ _ _ _ ?_)
  refine wpAny_newFunctionEnv_cells S.kind kinds fun en hen s1 x1 => ?_
  subst hen
  refine ⟨noLim.keeps x1.toInCall.keep, codeAny_func ?_⟩
  obtain ⟨t, ht, hq⟩ := body cdv A outer s H vs Q E hg (hr.deeper _) hsp
  have I1 : Inv (cxOf CX P w K mg base N qual (defScope st) f cdv A outer s H E) [] (start N vs) H s1 := inv_start S hr.hd e0 (ln _ _ _ _ hsp) r x1
  refine wpAny_mono (ht.run [] s1 (start N vs) H _ I1 hq) ?_ (fun _ _ z => z)
  intro fl s2 hs
  match fl, hs with
  | .ret u, ⟨v, _, H2, J, rv, q⟩ => exact ⟨v, H2, J.os, J.bare, J.base, J.hok, rv, q⟩
  | .next, ⟨_, H2, J, q⟩ => exact ⟨V.non, H2, J.os, J.bare, J.base, J.hok, rfl, q⟩
  | .brk, ⟨_, _, _, q⟩ => exact q.elim
  | .cont, ⟨_, _, _, q⟩ => exact q.elim
end

section
variable {X : Cx} {CX : CXT} {k : Nat} {f : Addr} {fd : FuncData} {ps ks : List Str} {sp : Sp} {dvs : List V} {ds : List Value} {E : XK} {x : Str} {p pos : Pos} {e : Expr} {es : List Expr} {t tk : TA} {kws : List Keyword}
  {g : List Value → List Value → List Value} {gV : List V → List V → List V}
theorem runG {pins : List (Addr × Obj)} {σ : L2.St} {H : Hp} {s : Shared} {Q : VK} {us us2 : List Value} {kw : List (Str × Value)} {vs : List V}
    (F : FnG X.prog X.w X.K X.mg X.base CX k f fd ps sp) (hg : X.A.guards = some []) (hr : Room k X.A)
    (hb : BindsTo s fd ⟨us2, kw⟩ (ps.zip us)) (hx : Passes CX X E) (I : Inv X pins σ H s) (r : Vals vs us) (h : sp vs H Q E) :
    wpAny (model X.prog X.w) X.A (call (.ref f) us2 kw) (EP X pins σ Q) X.xe s := by
  refine wpAny_call (codeAny_mono (F.go X.A X.stack s H _ us vs Q E hg hr I.env0 hb r h) ?_)
  intro rs s2 hq
  match rs, hq with
  | .error e, hq => exact hx pins σ H s e s2 I hq
  | .ok (.ret u), hq => exact I.after hq
  | .ok .next, hq => exact hq.elim
  | .ok .brk, hq => exact hq.elim
  | .ok .cont, hq => exact hq.elim
/-- f(a, ..) -/
theorem pe_g (F : FnG X.prog X.w X.K X.mg X.base CX k f fd ps sp) (gu : X.A.guards = some []) (hr : Room k X.A) (hg : Gl X x) (hm : X.mg x = some (.ref f))
    (hk : PySem.W.keepIn X.K (.ref f) = true) (hb : Binds X.K fd ps []) (hx : Passes CX X E) (ha : PA X (e :: es) t)
    (d1 : (x == ("__debug__" : Str)) = false := by decide)
    (d2 : starEach (e :: es) X.env = (false, eval e X.env) :: starEach es X.env := by rfl)
    (d3 : (backTo pos (starEach es X.env)).any (·.1) = false := by rfl) :
    PE X (.Call (.Name x p) (e :: es) [] pos) (tCall sp [] E t) := by
  refine ⟨fun pins s σ H Q I h => wpAny_Call_Name_kw (ld_glob I hg hm ?_ d1)⟩
  refine PySem.W.callWith_K (h₀ := X.base) I.ok.mod.kin hk (thn (ha.run pos pins s σ H _ I h) ?_) d2 d3
  intro us s1 ⟨vs, H1, I1, r, q⟩
  have q' : sp vs H1 Q E := by
    have z : sp (vs ++ []) H1 Q E := q
    rw [List.append_nil] at z
    exact z
  have b := hb s1 us I1.kIn (by rw [List.append_nil, ← r.length]; exact F.ln _ _ _ _ q')
  rw [List.append_nil] at b
  exact ⟨I1.kIn, runG F gu hr b hx I1 r q'⟩
theorem pe_g0 (F : FnG X.prog X.w X.K X.mg X.base CX k f fd [] sp) (gu : X.A.guards = some []) (hr : Room k X.A) (hg : Gl X x) (hm : X.mg x = some (.ref f))
    (hk : PySem.W.keepIn X.K (.ref f) = true) (hb : Binds X.K fd [] []) (hx : Passes CX X E) (d1 : (x == ("__debug__" : Str)) = false := by decide) :
    PE X (.Call (.Name x p) [] [] pos) (tCall sp [] E tNil) := by
  refine ⟨fun pins s σ H Q I h => wpAny_Call_Name_kw (ld_glob I hg hm ?_ d1)⟩
  exact PySem.W.callWith_K0 I.kIn hk (runG (us := []) F gu hr (hb s [] I.kIn rfl) hx I .nil h)
/-- the keywords' binding: all by name -/
structure KAll (fd : FuncData) (ps ks : List Str) (g : List Value → List Value) (gV : List V → List V) : Prop where
  to : ∀ ws : List Value, ws.length = ks.length → bindArgs fd ⟨[], ks.zip ws⟩ = pure (ps.zip (g ws))
  rel : ∀ {zs : List V} {ws : List Value}, zs.length = ks.length → Vals zs ws → Vals (gV zs) (g ws)
def tCallKw (n : Nat) (sp : Sp) (gV : List V → List V) (E : XK) (tk : TA) : TE := fun σ H Q => tk σ H fun zs H2 => zs.length = n ∧ sp (gV zs) H2 Q E
/-- f(k = v, ..) -/
theorem pe_gk {g1 : List Value → List Value} {gV1 : List V → List V} (F : FnG X.prog X.w X.K X.mg X.base CX k f fd ps sp) (gu : X.A.guards = some []) (hr : Room k X.A) (hg : Gl X x) (hm : X.mg x = some (.ref f))
    (hk : PySem.W.keepIn X.K (.ref f) = true) (hb : KAll fd ps ks g1 gV1) (hx : Passes CX X E) (hkw : PK X kws tk)
    (d1 : (x == ("__debug__" : Str)) = false := by decide)
    (d2 : (backToKw pos (keywordEach kws X.env)).all (·.1.isSome) = true := by rfl)
    (d3 : (backToKw pos (keywordEach kws X.env)).filterMap (·.1) = ks := by rfl)
    (d4 : ((backTo pos (starEach [] X.env)).any (·.1) || (backToKw pos (keywordEach kws X.env)).any (·.1.isNone)) = false := by rfl) :
    PE X (.Call (.Name x p) [] kws pos) (tCallKw ks.length sp gV1 E tk) := by
  refine ⟨fun pins s σ H Q I h => wpAny_Call_Name_kw (ld_glob I hg hm ?_ d1)⟩
  refine PySem.W.callWith_KW0 (h₀ := X.base) I.ok.mod.kin hk d2 (thn (hkw.run pos pins s σ H _ I h) ?_) d4
  intro ws s2 ⟨zs, H2, I2, rz, hl, q⟩
  refine ⟨I2.kIn, ?_⟩
  rw [d3]
  exact runG (us := g1 ws) F gu hr (.of_eq (hb.to ws (rz.length.symm.trans hl))) hx I2 (hb.rel hl rz) q
end

/-! ### the end of a law row: the law's promise where guards are empty and sys.modules is a namespace of the base -/
section
theorem lawG {P : Program} {w : World} {K : PySem.W.Frag} {mg mb : Str → Option Value} {CX : CXT} {k : Nat} {fa a : Addr} {fd : FuncData} {x : Str} {sp : Sp} {s1 : Shared} {vs : List Value} {ns : List Int}
    (inK : K.In s1.heap) (hgl : s1.heap.Ns mainGlobals mg) (hbu : s1.heap.Ns builtinsNs mb) (hbb : ∀ x : Str, x ≠ "__name__" → mb x = bootBuiltins x) (lim : s1.heap.NoLimit) (see : s1.heap.NoSeer) (gen : s1.gens = #[])
    (at_ : s1.heap.get? a = some { cls := .type "list", data := .seq vs.toArray }) (hints : IntsAre vs ns) (len : ns.length ≤ sizeLine) (room : Room k callerA)
    (F : ∀ base : Heap, K.In base → base.Ns mainGlobals mg → (∃ mm, base.Ns sysModules mm) → FnG P w K mg base CX k fa fd [x] sp) (bind : ∀ (s : Shared) (u : Value), BindsTo s fd ⟨[u], []⟩ [(x, u)])
    (hsp : ∀ H : Hp, Only H → SqL K H a (ns.map V.int) → sp [.ref a] H (fun v _ => v = .bl true) fun _ _ _ => False)
    (hCX : ∀ H e s', CX [] H s1 (fun _ _ _ => False) e s' → False) :
    codeAny (model P w) callerA (.call (.ref fa) ⟨[.ref a], []⟩) (fun r s' => r = .ok (.ret (.bool true)) ∧ OldK s1.heap s'.heap ∧ s'.os = s1.os ∧ AllBare s'.gens) s1 := by
  have relV := vals_ints hints
  have lenV := hints.length
  have key : ∀ H : Hp, Only H → SqL K H a (ns.map V.int) → HOk P w H s1.heap → (∀ b, H b ≠ none → b = a) → (H a ≠ none → K.lookup a = none) →
      codeAny (model P w) callerA (.call (.ref fa) ⟨[.ref a], []⟩) (fun r s' => r = .ok (.ret (.bool true)) ∧ OldK s1.heap s'.heap ∧ s'.os = s1.os ∧ AllBare s'.gens) s1 := by
    intro H only hS ok one nk
    have not_a : ∀ {b : Addr} {o : Obj} {es : Array DictEntry} {ep : Nat}, s1.heap.get? b = some o → o.data = .dict es ep → H b = none := by
      intro b o es ep e d
      by_cases z : H b = none
      · exact z
      · have hb := one b z
        rw [hb, at_] at e
        cases e
        exact nomatch (show Data.seq vs.toArray _ = Data.dict es ep from d)
    have ns_ : ∀ {b : Addr} {m : Str → Option Value}, s1.heap.Ns b m → (hidT s1.heap H).Ns b m := by
      intro b m ⟨o, es, ep, e, d, r⟩
      exact ⟨o, es, ep, hidT_get e (not_a e d), d, r⟩
    have inB : K.In (hidT s1.heap H) := by
      intro b o e
      refine hidT_get (inK b o e) ?_
      by_cases z : H b = none
      · exact z
      · have hb := one b z
        rw [hb] at z e
        rw [nk z] at e
        cases e
    obtain ⟨mc, l1, l2⟩ := lim
    have md : Mod K mg (hidT s1.heap H) := ⟨inB, ns_ hgl, ⟨mb, ns_ hbu, hbb⟩, ⟨mc, ns_ l1, l2⟩⟩
    have e0 : Env0 P w K mg (hidT s1.heap H) callerA [] s1 H :=
      ⟨rfl, md, fun b o e => of_hidT e, Nat.le_of_eq (hidT_size _ _), trivial, (fun b hb => nomatch (show b ∈ ([] : List Addr) from hb)), ok, .of_eq gen⟩
    obtain ⟨mm, sm, _⟩ := see.mods
    refine codeAny_mono ((F _ inB (ns_ hgl) ⟨mm, ns_ sm⟩).go callerA [] s1 H ⟨[.ref a], []⟩ [.ref a] [.ref a] _ _ rfl room e0 (bind s1 (.ref a)) (.cons rfl .nil) (hsp H only hS)) ?_
    intro r s2 h
    match r, h with
    | .error e, h => exact (hCX H e s2 h).elim
    | .ok .next, h => exact False.elim h
    | .ok .brk, h => exact False.elim h
    | .ok .cont, h => exact False.elim h
    | .ok (.ret u), ⟨v, H2, os, bare, un, ok2, r2, q⟩ =>
      have qv : v = .bl true := q
      subst qv
      have ru : u = Value.bool true := r2
      subst ru
      refine ⟨rfl, OldK.of_keep ?_, os, bare⟩
      intro b o e
      rcases only b with z | ⟨ob, xs, z⟩
      · exact un.keep b o e z (fun y => nomatch (show b ∈ ([] : List Addr) from y)) (fun y => nomatch y)
      · obtain ⟨e1, _⟩ := ok b _ z
        obtain ⟨e2, _⟩ := ok2 b _ (un.frzs b ob _ z)
        rw [e1] at e
        cases e
        exact e2
  by_cases hk : K.lookup a = none
  · refine key (fun b => if b = a then some (.frz { cls := .type "list", data := .seq vs.toArray } (.lst (ns.map V.int))) else none) ?_ (.inl (.inr ⟨_, if_pos rfl⟩)) ?_ ?_ fun _ => hk
    · intro b
      by_cases hb : b = a
      · exact Or.inr ⟨_, _, if_pos hb⟩
      · exact Or.inl (if_neg hb)
    · intro b u z
      by_cases hb : b = a
      · subst hb
        have y := (if_pos rfl).symm.trans z
        cases y
        exact ⟨at_, by rw [List.length_map]; exact len, vs, _, relV, at_⟩
      · exact nomatch (if_neg hb).symm.trans z
    · intro b z
      by_cases hb : b = a
      · exact hb
      · exact (z (if_neg hb)).elim
  · obtain ⟨o, ho⟩ : ∃ o, K.lookup a = some o := by
      cases z : K.lookup a with
      | none => exact (hk z).elim
      | some o => exact ⟨o, rfl⟩
    have e := inK a o ho
    rw [at_] at e
    cases e
    refine key (fun _ => none) (fun _ => Or.inl rfl) (.inr ⟨_, vs.toArray, _, ho, rfl, rfl, rfl, by rw [List.size_toArray, lenV]; exact len, by simpa using relV⟩) ?_ (fun b z => absurd rfl z) fun z => absurd rfl z
    intro b u z
    exact nomatch (show (none : Option HO) = some u from z)
theorem walkG {l : PySem.W.OpenLaw} {n k : Nat} {q : Program} {loose : List Str} {XP : (Str → Option Value) → Heap → Prop} {YP : World → Heap → Prop} {d : DefRec} {K : Params → PySem.W.Frag} {CX : World → CXT} {sp : World → Sp} {x : Str}
    (h1 : l.most = some n) (h2 : n ≤ sizeLine) (h3 : d.params.defaults = []) (imp : importsNone q = true) (room : Room k callerA)
    (hY : ∀ (w : World) (h : Heap), YP w h → (K w.params).In h)
    (F : ∀ (w : World) (mg : Str → Option Value) (fa : Addr) (h : Heap), (K w.params).In h → h.Ns mainGlobals mg → mg d.name = some (.ref fa) →
      ∃ fd : FuncData, (∀ (s : Shared) (u : Value), BindsTo s fd ⟨[u], []⟩ [(x, u)]) ∧
        ∀ base : Heap, (K w.params).In base → base.Ns mainGlobals mg → (∃ mm, base.Ns sysModules mm) → FnG l.prog w (K w.params) mg base (CX w) k fa fd [x] (sp w))
    (hsp : ∀ (w : World) (H : Hp) (a : Addr) (ns : List Int), ns.length ≤ n → Only H → SqL (K w.params) H a (ns.map V.int) → sp w [.ref a] H (fun v _ => v = .bl true) fun _ _ _ => False)
    (hCX : ∀ (w : World) (H : Hp) (s : Shared) (e : Value) (s' : Shared), CX w [] H s (fun _ _ _ => False) e s' → False) :
    PySem.W.WalkO q loose XP YP l.row.toRowW d [] (fun f vs => PySem.call f vs) := by
  refine Att.attach_call h1 h3 ?_
  intro w s0 s1 mg mb fa o pm cd doc a vs ns G Y ho hd hcd hmg hobj hints hlen hgen
  have KX := hY w _ Y
  obtain ⟨fd, hb, hF⟩ := F w mg fa _ KX G.T.g hmg
  refine lawG KX G.T.g G.T.b G.T.builtins G.T.nolimit (G.T.seer imp) hgen hobj hints (Nat.le_trans hlen h2) room hF hb (fun H hO hS => hsp w H a ns hlen hO hS) ?_
  intro H e s2
  exact hCX w H s1 e s2
end
end TD

set_option maxHeartbeats 4000000
/-! # G2: data at any depth, dicts too: what stands in a heap for it; == and repr of it -/
namespace TD
open PySem PySem.Spec PyProof.Rows L2

def keyD : Key → PyData
  | .inl i => .int i
  | .inr x => .str x
mutual
inductive Da (K : PySem.W.Frag) (H : Hp) : V → PyData → Prop
  | non : Da K H .non .none
  | bl (b : Bool) : Da K H (.bl b) (.bool b)
  | int (i : Int) : Da K H (.int i) (.int i)
  | str (x : Str) : Da K H (.str x) (.str x)
  | lst {a : Addr} {xs : List V} {ds : List PyData} : H a = some (.lst xs) → Das K H xs ds → Da K H (.ref a) (.list ds)
  | tup {a : Addr} {xs : List V} {ds : List PyData} : H a = some (.tup xs) → Das K H xs ds → Da K H (.ref a) (.tuple ds)
  | dic {a : Addr} {kvs : List (Key × V)} {ds : List PyData} : H a = some (.dK kvs) → Das K H (kvs.map (·.2)) ds → Da K H (.ref a) (.dict ((kvs.map fun p => keyD p.1).zip ds))
inductive Das (K : PySem.W.Frag) (H : Hp) : List V → List PyData → Prop
  | nil : Das K H [] []
  | cons {v : V} {vs : List V} {d : PyData} {ds : List PyData} : Da K H v d → Das K H vs ds → Das K H (v :: vs) (d :: ds)
end
theorem Das.len {K : PySem.W.Frag} {H : Hp} : ∀ {vs : List V} {ds : List PyData}, Das K H vs ds → vs.length = ds.length
  | _, _, .nil => rfl
  | _, _, .cons _ t => congrArg Nat.succ t.len
theorem Das.get {K : PySem.W.Frag} {H : Hp} : ∀ {vs : List V} {ds : List PyData} {i : Nat} {v : V}, Das K H vs ds → vs[i]? = some v → ∃ d, ds[i]? = some d ∧ Da K H v d
  | _, _, _, _, .nil, h => by simp at h
  | _, _, 0, v, .cons (d := d) h t, e => by
    simp at e
    subst e
    exact ⟨d, rfl, h⟩
  | _, _, i + 1, v, .cons h t, e => by
    obtain ⟨d, e1, e2⟩ := t.get (i := i) (v := v) (by simpa using e)
    exact ⟨d, by simpa using e1, e2⟩
theorem Das.getD {K : PySem.W.Frag} {H : Hp} : ∀ {vs : List V} {ds : List PyData} {i : Nat} {d : PyData}, Das K H vs ds → ds[i]? = some d → ∃ v, vs[i]? = some v ∧ Da K H v d
  | _, _, _, _, .nil, h => by simp at h
  | _, _, 0, d, .cons (v := v) h t, e => by
    simp at e
    subst e
    exact ⟨v, rfl, h⟩
  | _, _, i + 1, d, .cons h t, e => by
    obtain ⟨v, e1, e2⟩ := t.getD (i := i) (d := d) (by simpa using e)
    exact ⟨v, by simpa using e1, e2⟩
theorem Das.app {K : PySem.W.Frag} {H : Hp} : ∀ {vs ws : List V} {ds es : List PyData}, Das K H vs ds → Das K H ws es → Das K H (vs ++ ws) (ds ++ es)
  | _, _, _, _, .nil, h => h
  | _, _, _, _, .cons a t, h => .cons a (t.app h)
theorem Das.take {K : PySem.W.Frag} {H : Hp} : ∀ {vs : List V} {ds : List PyData} (n : Nat), Das K H vs ds → Das K H (vs.take n) (ds.take n)
  | _, _, 0, _ => .nil
  | _, _, _ + 1, .nil => .nil
  | _, _, n + 1, .cons a t => .cons a (t.take n)
theorem Das.drop {K : PySem.W.Frag} {H : Hp} : ∀ {vs : List V} {ds : List PyData} (n : Nat), Das K H vs ds → Das K H (vs.drop n) (ds.drop n)
  | _, _, 0, h => h
  | _, _, _ + 1, .nil => .nil
  | _, _, n + 1, .cons a t => t.drop n
theorem rdEx {H H' : Hp} {a : Addr} {u : HO} (e : Evl.Ex H H') (h : Rd H a u) : Rd H' a u := Evl.ex_rd e h
mutual
theorem Da.ex {K : PySem.W.Frag} {H H' : Hp} (e : Evl.Ex H H') : ∀ {v : V} {d : PyData}, Da K H v d → Da K H' v d
  | _, _, .non => .non
  | _, _, .bl b => .bl b
  | _, _, .int i => .int i
  | _, _, .str x => .str x
  | _, _, .lst h t => .lst (e _ _ h) (Das.ex e t)
  | _, _, .tup h t => .tup (e _ _ h) (Das.ex e t)
  | _, _, .dic h t => .dic (e _ _ h) (Das.ex e t)
theorem Das.ex {K : PySem.W.Frag} {H H' : Hp} (e : Evl.Ex H H') : ∀ {vs : List V} {ds : List PyData}, Das K H vs ds → Das K H' vs ds
  | _, _, .nil => .nil
  | _, _, .cons a t => .cons (Da.ex e a) (Das.ex e t)
end
/-! ### what is read of it -/
section
variable {X : Cx} {pins : List (Addr × Obj)} {σ : L2.St} {H : Hp} {s : Shared}
theorem pairs_reads {P : Program} {w : World} {h : Heap} : ∀ {es : List DictEntry} {kvs : List (Key × V)} {vs : List (Key × Value)}, Pairs (mixKind P w) es vs → KV kvs vs →
    ReadsAll h (es.map (·.key)) (kvs.map fun p => keyD p.1) [] ∧ Vals (kvs.map (·.2)) (es.map (·.val))
  | _, _, _, .nil, .nil => ⟨.nil, .nil⟩
  | _, _, _, .cons (e := e) h1 h2 t, .cons (a := a) r u => by
    obtain ⟨q1, q2⟩ := pairs_reads (h := h) t u
    obtain ⟨r1, r2⟩ := r
    have h1' : keyIs a.1 e.key = true := by
      rw [r1]
      exact h1
    refine ⟨?_, .cons (by show L2.RelV a.2 e.val; rw [h2]; exact r2) q2⟩
    rcases keyIs_shape h1' with ⟨i, tk, ek, ev⟩ | ⟨x, tk, ek, ev⟩
    · have z := ReadsAll.cons (Reads.int (h := h) i tk) q1
      simp only [List.map_cons, ek, ev]
      exact z
    · have z := ReadsAll.cons (Reads.str (h := h) x tk) q1
      simp only [List.map_cons, ek, ev]
      exact z
theorem seq_not_sm {a : Addr} {o : Obj} {vs : Array Value} {n : Nat} (sm : ∃ mm, X.base.Ns sysModules mm) (I : Inv X pins σ H s) (ho : s.heap.get? a = some o) (hd : o.data = .seq vs n) : a ≠ sysModules := by
  intro e
  subst e
  obtain ⟨mm, q⟩ := sm
  obtain ⟨o2, es, ep, e2, d2, _⟩ := q.keeps I.bk
  rw [ho] at e2
  cases e2
  have z : o.data = .dict es ep := d2
  rw [hd] at z
  cases z
mutual
theorem Da.reads (sm : ∃ mm, X.base.Ns sysModules mm) (I : Inv X pins σ H s) : ∀ (d : PyData) (v : V) (u : Value), Da X.K H v d → RelV v u → ∃ as, Reads s.heap u d as ∧ sysModules ∉ as
  | .none, _, _, h, r => by
    cases h
    cases r
    exact ⟨_, Reads.none, fun z => nomatch z⟩
  | .bool b, _, _, h, r => by
    cases h
    cases r
    exact ⟨_, Reads.bool b, fun z => nomatch z⟩
  | .int i, _, _, h, r => by
    cases h
    obtain ⟨t, rfl⟩ := r
    exact ⟨_, Reads.int i t, fun z => nomatch z⟩
  | .str x, _, _, h, r => by
    cases h
    obtain ⟨t, rfl⟩ := r
    exact ⟨_, Reads.str x t, fun z => nomatch z⟩
  | .list ds, _, _, h, r => by
    cases h with
    | lst hs ha =>
      cases r
      obtain ⟨its, rv, ⟨o, n, ho, hc, _, hd⟩, _⟩ := I.list (SqL.of hs)
      obtain ⟨as, hr, hn⟩ := Das.reads sm I ds _ its ha rv
      refine ⟨_, Reads.list ho hc hd hr, fun z => ?_⟩
      rcases List.mem_cons.mp z with z | z
      · exact seq_not_sm sm I ho hd z.symm
      · exact hn z
  | .tuple ds, _, _, h, r => by
    cases h with
    | tup hs ha =>
      cases r
      obtain ⟨its, rv, ⟨o, ho, hc, n, hd⟩, _⟩ := I.tuple (SqT.of hs)
      obtain ⟨as, hr, hn⟩ := Das.reads sm I ds _ its ha rv
      exact ⟨_, Reads.tuple ho hc hd hr, hn⟩
  | .dict kds, v, u, h, r => by
    generalize hk : PyData.dict kds = dd at h
    cases h with
    | @dic a kvs ds hs ha =>
      cases r
      injection hk with hk
      subst hk
      obtain ⟨_, ns, vs, rel, o, es, ep, ho, hx, hd, _, hp, _⟩ := (I.hok a _ hs : ObjOk X.prog X.w H s.heap a (.dK kvs))
      obtain ⟨q1, q2⟩ := pairs_reads (h := s.heap) hp rel
      have l1 : (kvs.map fun p => keyD p.1).length = ds.length := by
        have := ha.len
        rw [List.length_map] at this ⊢
        exact this
      have ez : ((kvs.map fun p => keyD p.1).zip ds).map (·.2) = ds := List.map_snd_zip (by omega)
      obtain ⟨as, hr, hn⟩ := Das.readsZ sm I ((kvs.map fun p => keyD p.1).zip ds) _ _ (by rw [ez]; exact ha) q2
      refine ⟨_, Reads.dict (es := es) (n := ep) (as := []) (bs := as) ho hx.1 hd ?_ ?_, fun z => ?_⟩
      · rw [List.map_fst_zip (by omega)]
        exact q1
      · exact hr
      · rcases List.mem_cons.mp z with z | z
        · rw [← z] at ns
          simp at ns
        · exact hn (by simpa using z)
    | _ => cases hk
theorem Das.reads (sm : ∃ mm, X.base.Ns sysModules mm) (I : Inv X pins σ H s) : ∀ (ds : List PyData) (vs : List V) (us : List Value), Das X.K H vs ds → Vals vs us → ∃ as, ReadsAll s.heap us ds as ∧ sysModules ∉ as
  | [], _, _, h, r => by
    cases h
    cases r
    exact ⟨_, ReadsAll.nil, fun z => nomatch z⟩
  | d :: ds, _, _, h, r => by
    cases h with
    | cons h1 h2 =>
      cases r with
      | cons r1 r2 =>
        obtain ⟨as, q1, n1⟩ := Da.reads sm I d _ _ h1 r1
        obtain ⟨bs, q2, n2⟩ := Das.reads sm I ds _ _ h2 r2
        exact ⟨_, ReadsAll.cons q1 q2, fun z => (List.mem_append.mp z).elim n1 n2⟩
theorem Das.readsZ (sm : ∃ mm, X.base.Ns sysModules mm) (I : Inv X pins σ H s) : ∀ (kds : List (PyData × PyData)) (vs : List V) (us : List Value), Das X.K H vs (kds.map (·.2)) → Vals vs us → ∃ as, ReadsAll s.heap us (kds.map (·.2)) as ∧ sysModules ∉ as
  | [], _, _, h, r => by
    cases h
    cases r
    exact ⟨_, ReadsAll.nil, fun z => nomatch z⟩
  | (k, d) :: ds, _, _, h, r => by
    cases h with
    | cons h1 h2 =>
      cases r with
      | cons r1 r2 =>
        obtain ⟨as, q1, n1⟩ := Da.reads sm I d _ _ h1 r1
        obtain ⟨bs, q2, n2⟩ := Das.readsZ sm I ds _ _ h2 r2
        exact ⟨_, ReadsAll.cons q1 q2, fun z => (List.mem_append.mp z).elim n1 n2⟩
end
end
end TD
namespace TD
open PySem PySem.Spec PyProof.Rows L2
/-! ### how long the text of data is at most -/
mutual
def sz : PyData → Nat
  | .none => 10
  | .bool _ => 10
  | .int _ => 2000
  | .str x => (reprText x).length
  | .list xs => szs xs + 5
  | .tuple xs => szs xs + 5
  | .dict kvs => szk kvs + 5
def szs : List PyData → Nat
  | [] => 0
  | d :: ds => sz d + 2 + szs ds
def szk : List (PyData × PyData) → Nat
  | [] => 0
  | (k, v) :: r => sz k + sz v + 4 + szk r
end
def piles (ts : List Str) : Nat := (ts.map fun t => t.length + 2).sum
theorem textFrom_up : ∀ (ts : List Str) (k : Nat) (acc : Str), (textFrom k acc ts).length ≤ acc.length + piles ts
  | [], _, acc => by
    show acc.length ≤ acc.length + 0
    omega
  | t :: r, k, acc => by
    have h := textFrom_up r (k + 1) (acc ++ (if k > 0 then ", " else "" : String) ++ t)
    have e : (acc ++ (if k > 0 then ", " else "" : String) ++ t).length ≤ acc.length + 2 + t.length := by
      rw [strLen_append, strLen_append]
      split
      · show acc.length + 2 + t.length ≤ _
        omega
      · show acc.length + 0 + t.length ≤ _
        omega
    have z : piles (t :: r) = (t.length + 2) + piles r := rfl
    show (textFrom (k + 1) _ r).length ≤ _
    omega
theorem list_up (ts : List Str) : (listText ts).length ≤ piles ts + 2 := by
  have h := textFrom_up ts 0 "["
  have e : (Str.ofString "[").length = 1 := by decide
  have e2 : (Str.ofString "]").length = 1 := by decide
  unfold listText
  rw [strLen_append]
  have z : (textFrom 0 "[" ts).length ≤ 1 + piles ts := by
    rw [← e]
    exact h
  omega
theorem tuple_up (ts : List Str) : (tupleText ts).length ≤ piles ts + 5 := by
  unfold tupleText
  rw [strLen_append, strLen_append]
  have e1 : (Str.ofString "(").length = 1 := by decide
  have e2 : (Str.ofString ((if ts.length == 1 then ",)" else ")" : String))).length ≤ 2 := by split <;> decide
  have e3 : (Str.join ", " ts).length ≤ piles ts := by
    cases ts with
    | nil => exact Nat.zero_le _
    | cons t r =>
      have z := join_length_add (t :: r) (by simp)
      have y : piled (t :: r) = piles (t :: r) := rfl
      omega
  rw [e1]
  omega
theorem dict_up (ts : List Str) : (dictText ts).length ≤ piles ts + 5 := by
  unfold dictText
  rw [strLen_append, strLen_append]
  have e1 : (Str.ofString "{").length = 1 := by decide
  have e2 : (Str.ofString "}").length = 1 := by decide
  have e3 : (Str.join ", " ts).length ≤ piles ts := by
    cases ts with
    | nil => exact Nat.zero_le _
    | cons t r =>
      have z := join_length_add (t :: r) (by simp)
      have y : piled (t :: r) = piles (t :: r) := rfl
      omega
  omega
mutual
theorem shown_up : ∀ d : PyData, d.showable = true → d.shown.length ≤ sz d
  | .none, _ => by
    show (Str.ofString "None").length ≤ 10
    decide
  | .bool b, _ => by
    cases b
    · show (Str.ofString "False").length ≤ 10
      decide
    · show (Str.ofString "True").length ≤ 10
      decide
  | .int i, h => by
    have z : i.natAbs.log2 < 1920 := by simpa [PyData.showable] using h
    have y := int_text_len_1921 z
    show (Str.ofString (toString i)).length ≤ 2000
    omega
  | .str x, _ => Nat.le_refl _
  | .list xs, h => by
    have q := shown_ups xs (by simpa [PyData.showable] using h)
    have z := list_up (PyData.shownAll xs)
    have e : (PyData.list xs).shown = listText (PyData.shownAll xs) := by simp only [PyData.shown]
    rw [e]
    show _ ≤ szs xs + 5
    omega
  | .tuple xs, h => by
    have q := shown_ups xs (by simpa [PyData.showable] using h)
    have z := tuple_up (PyData.shownAll xs)
    have e : (PyData.tuple xs).shown = tupleText (PyData.shownAll xs) := by simp only [PyData.shown]
    rw [e]
    show _ ≤ szs xs + 5
    omega
  | .dict kvs, h => by
    have q := shown_upk kvs (by simpa [PyData.showable] using h)
    have z := dict_up (PyData.shownKv kvs)
    have e : (PyData.dict kvs).shown = dictText (PyData.shownKv kvs) := by simp only [PyData.shown]
    rw [e]
    show _ ≤ szk kvs + 5
    omega
theorem shown_ups : ∀ ds : List PyData, PyData.showableAll ds = true → piles (PyData.shownAll ds) ≤ szs ds
  | [], _ => by
    simp only [PyData.shownAll]
    exact Nat.le_refl _
  | d :: ds, h => by
    have z : d.showable = true ∧ PyData.showableAll ds = true := by simpa [PyData.showableAll] using h
    have h1 := shown_up d z.1
    have h2 := shown_ups ds z.2
    simp only [PyData.shownAll]
    show d.shown.length + 2 + piles (PyData.shownAll ds) ≤ sz d + 2 + szs ds
    omega
theorem shown_upk : ∀ kvs : List (PyData × PyData), PyData.showableKv kvs = true → piles (PyData.shownKv kvs) ≤ szk kvs
  | [], _ => by
    simp only [PyData.shownKv]
    exact Nat.le_refl _
  | (k, v) :: r, h => by
    have z : (k.showable = true ∧ v.showable = true) ∧ PyData.showableKv r = true := by simpa [PyData.showableKv] using h
    have h1 := shown_up k z.1.1
    have h2 := shown_up v z.1.2
    have h3 := shown_upk r z.2
    simp only [PyData.shownKv]
    show (k.shown ++ ": " ++ v.shown).length + 2 + piles (PyData.shownKv r) ≤ sz k + sz v + 4 + szk r
    rw [strLen_append, strLen_append]
    have e : (Str.ofString ": ").length = 2 := by decide
    omega
end
/-- data that may be printed: bounded ints, a bounded depth and a bounded text -/
structure Fine (d : PyData) : Prop where
  sh : d.showable = true
  dp : d.depth ≤ 100
  up : sz d ≤ 16000000
section
variable {X : Cx}
/-- repr(e) of data -/
def rRepr (K : PySem.W.Frag) : List V → Hp → VK → Prop := fun xs H Q => ∃ v d, xs = [v] ∧ Da K H v d ∧ Fine d ∧ Q (.str d.shown) H
theorem call_reprA (sm : ∃ mm, X.base.Ns sysModules mm) (gu : X.A.guards = some []) (hu : X.A.units + 200 < cLine) : CallR X (.builtin "repr") (rRepr X.K) := by
  intro pins s σ H xs us Q I r h
  obtain ⟨v, d, rfl, hd, hf, q⟩ := h
  obtain ⟨u, rfl, ru⟩ := vals1 r
  have up : d.shown.length ≤ sizeLine := Nat.le_trans (shown_up d hf.sh) (Nat.le_trans hf.up (by decide))
  obtain ⟨as, rd, hn⟩ := Da.reads sm I d v u hd ru
  have dp := hf.dp
  have big : wpAny (model X.prog X.w) X.A (call (.builtin "repr") [u]) (EP X pins σ Q) X.xe s := by
    cases rd with
    | none => exact PySem.P.repr_of_none ⟨.str _, H, I.tok _, ⟨_, rfl⟩, q⟩
    | bool b => exact PySem.P.repr_of_bool ⟨.str _, H, I.tok _, ⟨_, rfl⟩, q⟩
    | int i t => exact PySem.P.repr_of_int (by simpa [PyData.showable] using hf.sh) ⟨.str _, H, I.tok _, ⟨_, rfl⟩, q⟩
    | str x t => exact PySem.P.repr_of_str ⟨.str _, H, I.tok _, ⟨_, rfl⟩, q⟩ up
    | list h1 h2 h3 h4 =>
      exact repr_of_reads' (.list h1 h2 h3 h4) hf.sh (fun _ => hn) gu (by omega) (fun b o e => e) (fun h2 u2 tk k => ⟨.str _, H, I.kept k, ⟨_, rfl⟩, q⟩) up
    | tuple h1 h2 h3 h4 =>
      exact repr_of_reads' (.tuple h1 h2 h3 h4) hf.sh (fun _ => hn) gu (by omega) (fun b o e => e) (fun h2 u2 tk k => ⟨.str _, H, I.kept k, ⟨_, rfl⟩, q⟩) up
    | dict h1 h2 h3 h4 h5 =>
      exact repr_of_reads' (.dict h1 h2 h3 h4 h5) hf.sh (fun _ => hn) gu (by omega) (fun b o e => e) (fun h2 u2 tk k => ⟨.str _, H, I.kept k, ⟨_, rfl⟩, q⟩) up
  exact big
def rEqA (K : PySem.W.Frag) : R2 := fun x y H Q => ∃ d e, Da K H x d ∧ Da K H y e ∧ SeqAt.shaped d = true ∧ SeqAt.shaped e = true ∧ Q (.bl (PyData.eqv d e)) H
def rNeA (K : PySem.W.Frag) : R2 := fun x y H Q => ∃ d e, Da K H x d ∧ Da K H y e ∧ SeqAt.shaped d = true ∧ SeqAt.shaped e = true ∧ Q (.bl (!PyData.eqv d e)) H
theorem op_eqA (sm : ∃ mm, X.base.Ns sysModules mm) (hu : X.A.units + 64 < cLine) : OpR X (compareOp .Eq) (rEqA X.K) := by
  intro pins s σ H x y v u Q I rx ry h
  obtain ⟨d, e, hd, he, sd, se, q⟩ := h
  obtain ⟨as, r1, _⟩ := Da.reads sm I d x v hd rx
  obtain ⟨bs, r2, _⟩ := Da.reads sm I e y u he ry
  exact SeqAt.compareEq_shaped r1 r2 sd se hu ⟨.bl _, H, I, rfl, q⟩
theorem op_neA (sm : ∃ mm, X.base.Ns sysModules mm) (hu : X.A.units + 64 < cLine) : OpR X (compareOp .NotEq) (rNeA X.K) := by
  intro pins s σ H x y v u Q I rx ry h
  obtain ⟨d, e, hd, he, sd, se, q⟩ := h
  obtain ⟨as, r1, _⟩ := Da.reads sm I d x v hd rx
  obtain ⟨bs, r2, _⟩ := Da.reads sm I e y u he ry
  exact SeqAt.compareNe_shaped r1 r2 sd se hu ⟨.bl _, H, I, rfl, q⟩
end
end TD

set_option maxHeartbeats 4000000
/-! # G3: readings over data: what an expression, a test, a statement comes to where each slot holds known data.
B is the part of the heap H that is known to hold the data; what H holds besides (lists that somebody still changes) is not touched. -/
namespace TD
open PySem PySem.Spec PyProof.Rows L2
open Evl (Ex)
abbrev Fg := PySem.W.Frag

structure Le (B H B' H' : Hp) : Prop where
  ex : Ex H H'
  ek : Ex B B'
  sub : Ex B' H'
  old : ∀ a, B a = none → H a ≠ none → B' a = none
theorem Le.rfl' {B H : Hp} (s : Ex B H) : Le B H B H := ⟨Ex.refl H, Ex.refl B, s, fun _ h _ => h⟩
theorem Le.tr {B H B1 H1 B2 H2 : Hp} (a : Le B H B1 H1) (b : Le B1 H1 B2 H2) : Le B H B2 H2 :=
  ⟨a.ex.trans b.ex, a.ek.trans b.ek, b.sub, fun x h1 h2 => b.old x (a.old x h1 h2) (fun z => by
    cases q : H x with
    | none => exact h2 q
    | some o =>
      rw [a.ex x o q] at z
      cases z)⟩
theorem Le.new {B H : Hp} {p : Addr} {o : HO} (s : Ex B H) (h : H p = none) : Le B H (upd B p o) (upd H p o) where
  ex := Ex.new h
  ek := Ex.new (Evl.fresh_back s h)
  sub := fun a u e => by
    by_cases q : a = p
    · subst q
      rw [upd_same] at e ⊢
      exact e
    · rw [upd_ne q] at e ⊢
      exact s a u e
  old := fun a h1 h2 => by
    have q : a ≠ p := fun z => h2 (z ▸ h)
    rw [upd_ne q]
    exact h1

/-- slots that hold known data; none: nothing is known -/
abbrev En := List (Option PyData)
def SD (K : Fg) (B : Hp) (σ : L2.St) (ρ : En) : Prop := σ.length = ρ.length ∧ ∀ (i : Nat) (d : PyData), ρ[i]? = some (some d) → ∃ v, σ[i]? = some (some v) ∧ Da K B v d
theorem SD.up {K : Fg} {B B' : Hp} {σ : L2.St} {ρ : En} (e : Ex B B') (s : SD K B σ ρ) : SD K B' σ ρ := ⟨s.1, fun i d h => let ⟨v, a, b⟩ := s.2 i d h; ⟨v, a, b.ex e⟩⟩
theorem SD.put {K : Fg} {B : Hp} {σ : L2.St} {ρ : En} {v : V} {d : PyData} (s : SD K B σ ρ) (i : Nat) (h : Da K B v d) : SD K B (σ.set i (some v)) (ρ.set i (some d)) := by
  refine ⟨by rw [List.length_set, List.length_set]; exact s.1, fun j e hj => ?_⟩
  by_cases q : i = j
  · subst q
    by_cases l : i < ρ.length
    · rw [List.getElem?_set_self l] at hj
      cases hj
      exact ⟨v, List.getElem?_set_self (by rw [s.1]; exact l), h⟩
    · rw [List.getElem?_eq_none (by rw [List.length_set]; omega)] at hj
      cases hj
  · rw [List.getElem?_set_ne q] at hj
    obtain ⟨u, a, b⟩ := s.2 j e hj
    exact ⟨u, by rw [List.getElem?_set_ne q]; exact a, b⟩
/-- the block's own slots forgotten -/
def wipeD (ρ : En) : List Nat → En
  | [] => ρ
  | v :: vs => (wipeD ρ vs).set v none
theorem SD.drop {K : Fg} {B : Hp} {σ : L2.St} {ρ : En} (s : SD K B σ ρ) (i : Nat) (o : Option V) : SD K B (σ.set i o) (ρ.set i none) := by
  refine ⟨by rw [List.length_set, List.length_set]; exact s.1, fun j e hj => ?_⟩
  by_cases q : i = j
  · subst q
    by_cases l : i < ρ.length
    · rw [List.getElem?_set_self l] at hj
      cases hj
    · rw [List.getElem?_eq_none (by rw [List.length_set]; omega)] at hj
      cases hj
  · rw [List.getElem?_set_ne q] at hj
    obtain ⟨u, a, b⟩ := s.2 j e hj
    exact ⟨u, by rw [List.getElem?_set_ne q]; exact a, b⟩
theorem SD.wipe {K : Fg} {B : Hp} {σ : L2.St} {ρ : En} (s : SD K B σ ρ) : ∀ vs : List Nat, SD K B (L2.wipe σ vs) (wipeD ρ vs)
  | [] => s
  | v :: vs => (s.wipe vs).drop v none
theorem SD.less {K : Fg} {B : Hp} {σ : L2.St} {ρ ρ' : En} (s : SD K B σ ρ) (hl : ρ'.length = ρ.length) (h : ∀ (i : Nat) (d : PyData), ρ'[i]? = some (some d) → ρ[i]? = some (some d)) : SD K B σ ρ' :=
  ⟨s.1.trans hl.symm, fun i d e => s.2 i d (h i d e)⟩

/-! ### the judgements -/
section
variable (K : Fg)
def ED (te : TE) (ρ : En) (d : PyData) : Prop := ∀ σ B H, Ex B H → SD K B σ ρ → ∀ Q : VK, (∀ v B' H', Le B H B' H' → Da K B' v d → Q v H') → te σ H Q
def EA (ta : TA) (ρ : En) (ds : List PyData) : Prop := ∀ σ B H, Ex B H → SD K B σ ρ → ∀ Q : List V → Hp → Prop, (∀ vs B' H', Le B H B' H' → Das K B' vs ds → Q vs H') → ta σ H Q
def ET (tt : TT) (ρ : En) (b : Bool) : Prop := ∀ σ B H, Ex B H → SD K B σ ρ → ∀ Q : Bool → Hp → Prop, (∀ B' H', Le B H B' H' → Q b H') → tt σ H Q
/-- operations on values -/
def R2D (r : R2) (x y z : PyData) : Prop := ∀ v w B H, Ex B H → Da K B v x → Da K B w y → ∀ Q : VK, (∀ u B' H', Le B H B' H' → Da K B' u z → Q u H') → r v w H Q
def R1D (r : V → Hp → VK → Prop) (x z : PyData) : Prop := ∀ v B H, Ex B H → Da K B v x → ∀ Q : VK, (∀ u B' H', Le B H B' H' → Da K B' u z → Q u H') → r v H Q
def RcD (r : List V → Hp → VK → Prop) (xs : List PyData) (z : PyData) : Prop := ∀ vs B H, Ex B H → Das K B vs xs → ∀ Q : VK, (∀ u B' H', Le B H B' H' → Da K B' u z → Q u H') → r vs H Q
inductive Out where
  | nx (ρ : En) | ret (d : PyData) | br (ρ : En) | ct (ρ : En)
def Meet (D : Ends) (B H : Hp) : Out → Prop
  | .nx ρ => ∀ σ' B' H', Le B H B' H' → SD K B' σ' ρ → D.nx σ' H'
  | .ret d => ∀ v B' H', Le B H B' H' → Da K B' v d → D.rt v H'
  | .br ρ => ∀ σ' B' H', Le B H B' H' → SD K B' σ' ρ → D.bk σ' H'
  | .ct ρ => ∀ σ' B' H', Le B H B' H' → SD K B' σ' ρ → D.ct σ' H'
def XS (t : TS) (ρ : En) (o : Out) : Prop := ∀ σ B H (D : Ends), Ex B H → SD K B σ ρ → Meet K D B H o → t D σ H
/-- a target: data d bound to it -/
def TG_ (g : TG) (d : PyData) (ρ ρ' : En) : Prop := ∀ σ v B H, Ex B H → SD K B σ ρ → Da K B v d → ∀ Q : L2.St → Hp → Prop, (∀ σ' , SD K B σ' ρ' → Q σ' H) → g v σ H Q
/-- the promise of a def that only makes new things of its arguments: R tells what of what -/
def SpR (R : List PyData → PyData → Prop) : Sp := fun vs H Q _ => ∃ B ds d, Ex B H ∧ Das K B vs ds ∧ R ds d ∧ ∀ v B' H', Le B H B' H' → Da K B' v d → Q v H'
end
section
variable {K : Fg} {ρ ρ' ρ1 : En} {ta tb tc te : TE} {tt tu : TT} {t u : TS} {x y z d : PyData} {r : R2} {a b c : Bool} {o : Out} {g : TG}
theorem ed_var {i : Nat} (h : ρ[i]? = some (some d)) : ED K (tVar i) ρ d := fun σ B H s sd Q q =>
  let ⟨v, e, hd⟩ := sd.2 i d h
  ⟨v, e, q v B H (Le.rfl' s) hd⟩
theorem ed_int {i : Int} : ED K (tC (.int i)) ρ (.int i) := fun σ B H s _ Q q => q _ B H (Le.rfl' s) (.int i)
theorem ed_non : ED K (tC .non) ρ .none := fun σ B H s _ Q q => q _ B H (Le.rfl' s) .non
theorem ed_bl {i : Bool} : ED K (tC (.bl i)) ρ (.bool i) := fun σ B H s _ Q q => q _ B H (Le.rfl' s) (.bl i)
theorem ed_str {i : Str} : ED K (tC (.str i)) ρ (.str i) := fun σ B H s _ Q q => q _ B H (Le.rfl' s) (.str i)
theorem ed_op (ha : ED K ta ρ x) (hb : ED K tb ρ y) (hr : R2D K r x y z) : ED K (tOp r ta tb) ρ z := fun σ B H s sd Q q =>
  ha σ B H s sd _ fun v B1 H1 l1 d1 => hb σ B1 H1 l1.sub (sd.up l1.ek) _ fun w B2 H2 l2 d2 => hr v w B2 H2 l2.sub (d1.ex l2.ek) d2 Q fun u B3 H3 l3 d3 => q u B3 H3 ((l1.tr l2).tr l3) d3
theorem ed_un {r : V → Hp → VK → Prop} (ha : ED K ta ρ x) (hr : R1D K r x z) : ED K (tUn r ta) ρ z := fun σ B H s sd Q q =>
  ha σ B H s sd _ fun v B1 H1 l1 d1 => hr v B1 H1 l1.sub d1 Q fun u B3 H3 l3 d3 => q u B3 H3 (l1.tr l3) d3
theorem ed_is (h : ED K te ρ x) (e : x = y) : ED K te ρ y := e ▸ h
theorem et_is (h : ET K tt ρ a) (e : a = b) : ET K tt ρ b := e ▸ h
theorem ed_and (ha : ED K ta ρ (.bool a)) (hb : a = true → ED K tb ρ (.bool b)) : ED K (tAndV ta tb) ρ (.bool (a && b)) := fun σ B H s sd Q q =>
  ha σ B H s sd _ fun v B1 H1 l1 d1 => by
    cases d1
    refine ⟨a, rfl, ?_⟩
    cases a with
    | true =>
      show tb σ H1 Q
      exact hb rfl σ B1 H1 l1.sub (sd.up l1.ek) Q fun u B2 H2 l2 d2 => q u B2 H2 (l1.tr l2) d2
    | false =>
      show Q (.bl false) H1
      exact q _ B1 H1 l1 (.bl false)
theorem ed_or (ha : ED K ta ρ (.bool a)) (hb : a = false → ED K tb ρ (.bool b)) : ED K (tOrV ta tb) ρ (.bool (a || b)) := fun σ B H s sd Q q =>
  ha σ B H s sd _ fun v B1 H1 l1 d1 => by
    cases d1
    refine ⟨a, rfl, ?_⟩
    cases a with
    | false =>
      show tb σ H1 Q
      exact hb rfl σ B1 H1 l1.sub (sd.up l1.ek) Q fun u B2 H2 l2 d2 => q u B2 H2 (l1.tr l2) d2
    | true =>
      show Q (.bl true) H1
      exact q _ B1 H1 l1 (.bl true)
theorem ed_not (ha : ED K ta ρ (.bool a)) : ED K (tNotV ta) ρ (.bool (!a)) := fun σ B H s sd Q q =>
  ha σ B H s sd _ fun v B1 H1 l1 d1 => by
    cases d1
    exact ⟨a, rfl, q _ B1 H1 l1 (.bl _)⟩
theorem ed_if (h : ET K tt ρ b) (h1 : b = true → ED K ta ρ d) (h2 : b = false → ED K tb ρ d) : ED K (tIf tt ta tb) ρ d := fun σ B H s sd Q q =>
  h σ B H s sd _ fun B1 H1 l1 => by
    cases b with
    | true =>
      show ta σ H1 Q
      exact h1 rfl σ B1 H1 l1.sub (sd.up l1.ek) Q fun u B2 H2 l2 d2 => q u B2 H2 (l1.tr l2) d2
    | false =>
      show tb σ H1 Q
      exact h2 rfl σ B1 H1 l1.sub (sd.up l1.ek) Q fun u B2 H2 l2 d2 => q u B2 H2 (l1.tr l2) d2
theorem et_test (h : ED K te ρ (.bool b)) : ET K (tTest te) ρ b := fun σ B H s sd Q q => h σ B H s sd _ fun v B1 H1 l1 d1 => by
  cases d1
  exact ⟨b, rfl, q B1 H1 l1⟩
theorem et_B (h : ED K te ρ (.bool b)) : ET K (tB te) ρ b := fun σ B H s sd Q q => h σ B H s sd _ fun v B1 H1 l1 d1 => by
  cases d1
  exact ⟨b, rfl, q B1 H1 l1⟩
theorem et_and (h1 : ET K tt ρ a) (h2 : a = true → ET K tu ρ b) : ET K (tAnd tt tu) ρ (a && b) := fun σ B H s sd Q q => h1 σ B H s sd _ fun B1 H1 l1 => by
  cases a with
  | true =>
    show tu σ H1 Q
    exact h2 rfl σ B1 H1 l1.sub (sd.up l1.ek) Q fun B2 H2 l2 => q B2 H2 (l1.tr l2)
  | false =>
    show Q false H1
    exact q B1 H1 l1
theorem et_or (h1 : ET K tt ρ a) (h2 : a = false → ET K tu ρ b) : ET K (tOr tt tu) ρ (a || b) := fun σ B H s sd Q q => h1 σ B H s sd _ fun B1 H1 l1 => by
  cases a with
  | false =>
    show tu σ H1 Q
    exact h2 rfl σ B1 H1 l1.sub (sd.up l1.ek) Q fun B2 H2 l2 => q B2 H2 (l1.tr l2)
  | true =>
    show Q true H1
    exact q B1 H1 l1
theorem et_not (h : ET K tt ρ a) : ET K (tNot tt) ρ (!a) := fun σ B H s sd Q q => h σ B H s sd _ fun B1 H1 l1 => q B1 H1 l1
theorem ea_nil : EA K tNil ρ [] := fun σ B H s sd Q q => q [] B H (Le.rfl' s) .nil
theorem ea_cons {tr : TA} {ds : List PyData} (h : ED K ta ρ x) (hr : EA K tr ρ ds) : EA K (tCons ta tr) ρ (x :: ds) := fun σ B H s sd Q q =>
  h σ B H s sd _ fun v B1 H1 l1 d1 => hr σ B1 H1 l1.sub (sd.up l1.ek) _ fun vs B2 H2 l2 d2 => q (v :: vs) B2 H2 (l1.tr l2) (.cons (d1.ex l2.ek) d2)
theorem das_big {B : Hp} {vs : List V} {ds : List PyData} (h : Das K B vs ds) (hl : ds.length ≤ 100000) : vs.length ≤ sizeLine := by
  rw [h.len]
  exact Evl.sz_of hl
theorem ed_tup {tl : TA} {ds : List PyData} (h : EA K tl ρ ds) (hl : ds.length ≤ 100000 := by first | decide | omega) : ED K (tTup tl) ρ (.tuple ds) := fun σ B H s sd Q q =>
  h σ B H s sd _ fun vs B1 H1 l1 d1 => ⟨das_big d1 hl, fun p hp => q _ _ _ (l1.tr (Le.new l1.sub hp)) (.tup upd_same (d1.ex (Le.new (o := .tup vs) l1.sub hp).ek))⟩
theorem ed_lst {tl : TA} {ds : List PyData} (h : EA K tl ρ ds) (hl : ds.length ≤ 100000 := by first | decide | omega) : ED K (tLst tl) ρ (.list ds) := fun σ B H s sd Q q =>
  h σ B H s sd _ fun vs B1 H1 l1 d1 => ⟨das_big d1 hl, fun p hp => q _ _ _ (l1.tr (Le.new l1.sub hp)) (.lst upd_same (d1.ex (Le.new (o := .lst vs) l1.sub hp).ek))⟩
theorem ed_cb {rc : List V → Hp → VK → Prop} {tl : TA} {ds : List PyData} (h : EA K tl ρ ds) (hr : RcD K rc ds z) : ED K (tCB rc tl) ρ z := fun σ B H s sd Q q =>
  h σ B H s sd _ fun vs B1 H1 l1 d1 => hr vs B1 H1 l1.sub d1 Q fun u B2 H2 l2 d2 => q u B2 H2 (l1.tr l2) d2
theorem ed_call {R : List PyData → PyData → Prop} {E : XK} {tl : TA} {ds : List PyData} (h : EA K tl ρ ds) (hR : R ds z) : ED K (tCall (SpR K R) [] E tl) ρ z := fun σ B H s sd Q q =>
  h σ B H s sd _ fun vs B1 H1 l1 d1 => by
    show SpR K R (vs ++ []) H1 Q E
    rw [List.append_nil]
    exact ⟨B1, ds, z, l1.sub, d1, hR, fun u B2 H2 l2 d2 => q u B2 H2 (l1.tr l2) d2⟩
theorem ed_callk {R : List PyData → PyData → Prop} {E : XK} {tl : TA} {n : Nat} {gV : List V → List V} {ds es : List PyData} (h : EA K tl ρ ds) (hn : ds.length = n) (hg : ∀ (B : Hp) (vs : List V), Das K B vs ds → Das K B (gV vs) es) (hR : R es z) : ED K (tCallKw n (SpR K R) gV E tl) ρ z := fun σ B H s sd Q q =>
  h σ B H s sd _ fun vs B1 H1 l1 d1 => ⟨d1.len.trans hn, B1, es, z, l1.sub, hg B1 vs d1, hR, fun u B2 H2 l2 d2 => q u B2 H2 (l1.tr l2) d2⟩
/-! ### statements -/
theorem Meet.back {D : Ends} {B H B1 H1 : Hp} (l : Le B H B1 H1) : ∀ {o : Out}, Meet K D B H o → Meet K D B1 H1 o
  | .nx _, m => fun σ' B' H' l' s => m σ' B' H' (l.tr l') s
  | .ret _, m => fun v B' H' l' s => m v B' H' (l.tr l') s
  | .br _, m => fun σ' B' H' l' s => m σ' B' H' (l.tr l') s
  | .ct _, m => fun σ' B' H' l' s => m σ' B' H' (l.tr l') s
theorem xs_next : XS K tNext ρ (.nx ρ) := fun σ B H D s sd m => m σ B H (Le.rfl' s) sd
theorem xs_ret (h : ED K te ρ d) : XS K (tRet te) ρ (.ret d) := fun σ B H D s sd m => h σ B H s sd _ m
theorem xs_asgG (h : ED K te ρ d) (hg : TG_ K g d ρ ρ') : XS K (tAsg te g) ρ (.nx ρ') := fun σ B H D s sd m =>
  h σ B H s sd _ fun v B1 H1 l1 d1 => hg σ v B1 H1 l1.sub (sd.up l1.ek) d1 _ fun σ' s' => m σ' B1 H1 l1 s'
theorem tg_name {i : Nat} : TG_ K (gName i) d ρ (ρ.set i (some d)) := fun σ v B H s sd hd Q q => q _ (sd.put i hd)
theorem xs_asg {i : Nat} (h : ED K te ρ d) : XS K (tAsg te (gName i)) ρ (.nx (ρ.set i (some d))) := xs_asgG h tg_name
theorem xs_drop (h : ED K te ρ d) : XS K (tDrop te) ρ (.nx ρ) := fun σ B H D s sd m => h σ B H s sd _ fun v B1 H1 l1 _ => m σ B1 H1 l1 (sd.up l1.ek)
theorem xs_if (h : ET K tt ρ b) (h1 : b = true → XS K t ρ o) (h2 : b = false → XS K u ρ o) : XS K (tIfS tt t u) ρ o := fun σ B H D s sd m =>
  h σ B H s sd _ fun B1 H1 l1 => by
    cases b with
    | true =>
      show t D σ H1
      exact h1 rfl σ B1 H1 D l1.sub (sd.up l1.ek) (m.back l1)
    | false =>
      show u D σ H1
      exact h2 rfl σ B1 H1 D l1.sub (sd.up l1.ek) (m.back l1)
theorem xs_seq (h1 : XS K t ρ (.nx ρ1)) (h2 : XS K u ρ1 o) : XS K (tSeq t u) ρ o := fun σ B H D s sd m =>
  h1 σ B H _ s sd fun σ' B' H' l s' => h2 σ' B' H' D l.sub s' (m.back l)
/-- a statement that leaves the block -/
def Out.leaves : Out → Prop
  | .nx _ => False
  | _ => True
theorem xs_leave (h1 : XS K t ρ o) (hl : o.leaves) : XS K (tSeq t u) ρ o := fun σ B H D s sd m => by
  refine h1 σ B H _ s sd ?_
  cases o with
  | nx _ => exact hl.elim
  | ret _ => exact m
  | br _ => exact m
  | ct _ => exact m
theorem xs_is {o' : Out} (h : XS K t ρ o) (e : o = o') : XS K t ρ o' := e ▸ h
theorem xs_less (hl : ρ'.length = ρ.length) (hs : ∀ (i : Nat) (d : PyData), ρ'[i]? = some (some d) → ρ[i]? = some (some d)) (h : XS K t ρ' o) : XS K t ρ o := fun σ B H D s sd m => h σ B H D s (sd.less hl hs) m
/-! ### loops over what stands in a list, a tuple, a range -/
/-- the turns over the data that is left -/
inductive XF (K : Fg) (g : TG) (tb : TS) : List PyData → En → Out → Prop
  | nil {ρ : En} : XF K g tb [] ρ (.nx ρ)
  | go {d : PyData} {ds : List PyData} {ρ ρ0 ρ1 : En} {o : Out} : TG_ K g d ρ ρ0 → XS K tb ρ0 (.nx ρ1) → XF K g tb ds ρ1 o → XF K g tb (d :: ds) ρ o
  | goC {d : PyData} {ds : List PyData} {ρ ρ0 ρ1 : En} {o : Out} : TG_ K g d ρ ρ0 → XS K tb ρ0 (.ct ρ1) → XF K g tb ds ρ1 o → XF K g tb (d :: ds) ρ o
  | ret {d e : PyData} {ds : List PyData} {ρ ρ0 : En} : TG_ K g d ρ ρ0 → XS K tb ρ0 (.ret e) → XF K g tb (d :: ds) ρ (.ret e)
  | brk {d : PyData} {ds : List PyData} {ρ ρ0 ρ1 : En} : TG_ K g d ρ ρ0 → XS K tb ρ0 (.br ρ1) → XF K g tb (d :: ds) ρ (.nx ρ1)
/-- one turn of such a run, at any place of it -/
theorem xf_turn {tb : TS} {D : Ends} {B H : Hp} (m : Meet K D B H o) {dx : PyData} {ds : List PyData} {ρ : En} (f : XF K g tb (dx :: ds) ρ o) {σ' : L2.St} {B' H' : Hp} {v : V} (l : Le B H B' H') (sd : SD K B' σ' ρ) (hd : Da K B' v dx)
    {N : L2.St → Hp → Prop} (hN : ∀ ρ1 σ1 B1 H1, XF K g tb ds ρ1 o → Le B H B1 H1 → SD K B1 σ1 ρ1 → N σ1 H1) :
    g v σ' H' fun σ2 H2 => tb { D with nx := N, ct := N, bk := D.nx } σ2 H2 := by
  cases f with
  | go hg hx hr => exact hg σ' v B' H' l.sub sd hd _ fun σ2 s2 => hx σ2 B' H' _ l.sub s2 fun σ3 B3 H3 l3 s3 => hN _ σ3 B3 H3 hr (l.tr l3) s3
  | goC hg hx hr => exact hg σ' v B' H' l.sub sd hd _ fun σ2 s2 => hx σ2 B' H' _ l.sub s2 fun σ3 B3 H3 l3 s3 => hN _ σ3 B3 H3 hr (l.tr l3) s3
  | ret hg hx => exact hg σ' v B' H' l.sub sd hd _ fun σ2 s2 => hx σ2 B' H' _ l.sub s2 fun v3 B3 H3 l3 d3 => m v3 B3 H3 (l.tr l3) d3
  | brk hg hx => exact hg σ' v B' H' l.sub sd hd _ fun σ2 s2 => hx σ2 B' H' _ l.sub s2 fun σ3 B3 H3 l3 s3 => m σ3 B3 H3 (l.tr l3) s3
theorem drop_cons {α : Type} {ds : List α} {i : Nat} {e : α} (h : ds[i]? = some e) : ds.drop i = e :: ds.drop (i + 1) := by
  obtain ⟨hi, e1⟩ := List.getElem?_eq_some_iff.mp h
  rw [List.drop_eq_getElem_cons hi, e1]
theorem drop_all {α : Type} {ds : List α} {i : Nat} (h : ds.length ≤ i) : ds.drop i = [] := List.drop_of_length_le h
theorem xs_forL {tl : TE} {tb : TS} {ds : List PyData} (h : ED K tl ρ (.list ds)) (f : XF K g tb ds ρ o) : XS K (tFor (iList K tl) g tb) ρ o := fun σ B H D s sd m =>
  h σ B H s sd _ fun v B1 H1 l1 d1 => by
    cases d1 with
    | @lst p xs _ hs ha =>
      have hs' : SqL K H1 p xs := Evl.sq_of (l1.sub _ _ hs)
      refine ⟨p, rfl, ⟨xs, hs'⟩, ?_⟩
      refine for_list (K := K) (a := p) (xs := xs) (fun i σ' H' => ∃ B' ρ', XF K g tb (ds.drop i) ρ' o ∧ Le B1 H1 B' H' ∧ SD K B' σ' ρ') ⟨B1, ρ, by rw [List.drop_zero]; exact f, Le.rfl' l1.sub, sd.up l1.ek⟩
        (fun i σ' H' _ ⟨B', _, _, l, _⟩ => Evl.ex_l l.ex hs') (fun i v σ' H' hi ⟨B', ρ', f', l, s'⟩ => ?_) (fun σ' H' ⟨B', ρ', f', l, s'⟩ => ?_)
      · obtain ⟨e, he, hv⟩ := ha.get hi
        rw [drop_cons he] at f'
        exact xf_turn (m.back l1) f' l s' (hv.ex l.ek) fun ρ2 σ2 B2 H2 f2 l2 s2 => ⟨B2, ρ2, f2, l2, s2⟩
      · rw [drop_all (by rw [ha.len]; omega)] at f'
        cases f' with
        | nil => exact m σ' B' H' (l1.tr l) s'
theorem xs_forT {tl : TE} {tb : TS} {ds : List PyData} (h : ED K tl ρ (.tuple ds)) (f : XF K g tb ds ρ o) : XS K (tFor (iTup K tl) g tb) ρ o := fun σ B H D s sd m =>
  h σ B H s sd _ fun v B1 H1 l1 d1 => by
    cases d1 with
    | @tup p xs _ hs ha =>
      have hs' : SqT K H1 p xs := Evl.st_of (l1.sub _ _ hs)
      refine ⟨p, rfl, ⟨xs, hs'⟩, ?_⟩
      refine for_tup (K := K) (a := p) (xs := xs) (fun i σ' H' => ∃ B' ρ', XF K g tb (ds.drop i) ρ' o ∧ Le B1 H1 B' H' ∧ SD K B' σ' ρ') ⟨B1, ρ, by rw [List.drop_zero]; exact f, Le.rfl' l1.sub, sd.up l1.ek⟩
        (fun i σ' H' _ ⟨B', _, _, l, _⟩ => Evl.ex_t l.ex hs') (fun i v σ' H' hi ⟨B', ρ', f', l, s'⟩ => ?_) (fun σ' H' ⟨B', ρ', f', l, s'⟩ => ?_)
      · obtain ⟨e, he, hv⟩ := ha.get hi
        rw [drop_cons he] at f'
        exact xf_turn (m.back l1) f' l s' (hv.ex l.ek) fun ρ2 σ2 B2 H2 f2 l2 s2 => ⟨B2, ρ2, f2, l2, s2⟩
      · rw [drop_all (by rw [ha.len]; omega)] at f'
        cases f' with
        | nil => exact m σ' B' H' (l1.tr l) s'
/-- lo, lo + 1, .. n of them -/
def rgD (lo : Int) (n : Nat) : List PyData := (List.range n).map fun (i : Nat) => PyData.int (lo + (i : Int))
theorem rgD_get {lo : Int} {n i : Nat} (h : i < n) : (rgD lo n)[i]? = some (.int (lo + (i : Int))) := by
  unfold rgD
  rw [List.getElem?_map, List.getElem?_range h]
  rfl
theorem rgD_len (lo : Int) (n : Nat) : (rgD lo n).length = n := by
  unfold rgD
  rw [List.length_map, List.length_range]
theorem for_rngD {D : Ends} {σ : L2.St} {B H : Hp} {tb : TS} {lo : Int} {n : Nat} (s : Ex B H) (sd : SD K B σ ρ) (m : Meet K D B H o) (f : XF K g tb (rgD lo n) ρ o) :
    ∃ W : Nat → Nat → L2.St → Hp → Prop, (∃ m, W 0 m σ H) ∧ ∀ i m σ H, W i m σ H →
      ((Itr lo n).stop i H ∧ D.nx σ H) ∨ ((Itr lo n).go i H ∧ ∃ N : L2.St → Hp → Prop, (∀ σ' H', N σ' H' → ∃ m', m' < m ∧ W (i + 1) m' σ' H') ∧ ∀ x H', (Itr lo n).yld i H x H' → g x σ H' fun σ2 H2 => tb { D with nx := N, ct := N, bk := D.nx } σ2 H2) := by
  refine for_range (lo := lo) (n := n) (fun i σ' H' => ∃ B' ρ', XF K g tb ((rgD lo n).drop i) ρ' o ∧ Le B H B' H' ∧ SD K B' σ' ρ') ⟨B, ρ, by rw [List.drop_zero]; exact f, Le.rfl' s, sd⟩
    (fun i σ' H' hi ⟨B', ρ', f', l, s'⟩ => ?_) (fun σ' H' ⟨B', ρ', f', l, s'⟩ => ?_)
  · rw [drop_cons (rgD_get hi)] at f'
    exact xf_turn m f' l s' (.int _) fun ρ2 σ2 B2 H2 f2 l2 s2 => ⟨B2, ρ2, f2, l2, s2⟩
  · rw [drop_all (by rw [rgD_len]; omega)] at f'
    cases f' with
    | nil => exact m σ' B' H' l s'
theorem xs_forR1 {tl : TA} {tb : TS} {n : Int} (h : EA K tl ρ [.int n]) (hn : -1000000 ≤ n ∧ n ≤ 1000000) (f : XF K g tb (rgD 0 n.toNat) ρ o) : XS K (tFor (iRng1 tl) g tb) ρ o := fun σ B H D s sd m =>
  h σ B H s sd _ fun vs B1 H1 l1 d1 => by
    cases d1 with
    | cons h1 h2 =>
      cases h1
      cases h2
      exact ⟨n, rfl, by omega, by omega, for_rngD l1.sub (sd.up l1.ek) (m.back l1) f⟩
theorem xs_forR2 {tl : TA} {tb : TS} {lo n : Int} (h : EA K tl ρ [.int lo, .int n]) (hn : -1000000 ≤ lo ∧ lo ≤ 1000000 ∧ -1000000 ≤ n ∧ n ≤ 1000000) (f : XF K g tb (rgD lo (n - lo).toNat) ρ o) : XS K (tFor (iRng2 tl) g tb) ρ o := fun σ B H D s sd m =>
  h σ B H s sd _ fun vs B1 H1 l1 d1 => by
    cases d1 with
    | cons h1 h2 =>
      cases h1
      cases h2 with
      | cons h2 h3 =>
        cases h2
        cases h3
        exact ⟨lo, n, rfl, ⟨by omega, by omega, by omega, by omega⟩, for_rngD l1.sub (sd.up l1.ek) (m.back l1) f⟩
end
end TD

set_option maxHeartbeats 4000000
/-! # G4: operations on data: numbers, tests of kinds, items, lists put together, comprehensions -/
namespace TD
open PySem PySem.Spec PyProof.Rows L2
open Evl (Ex)
section
variable {K : Fg} {ρ ρ' : En} {ta tb tc te : TE} {tt : TT} {x y z d : PyData} {a b c : Bool} {i j k : Int}
theorem r_I0 {g : Int → Int → V} {gd : PyData} (h : ∀ B, Da K B (g i j) gd) : R2D K (rI0 g) (.int i) (.int j) gd := fun v w B H s h1 h2 Q q => by
  cases h1
  cases h2
  exact ⟨i, j, rfl, rfl, q _ B H (Le.rfl' s) (h B)⟩
theorem r_Ii {g : Int → Int → Int} : R2D K (rI0 fun i j => .int (g i j)) (.int i) (.int j) (.int (g i j)) := r_I0 fun _ => .int _
theorem r_Ib {g : Int → Int → Bool} : R2D K (rI0 fun i j => .bl (g i j)) (.int i) (.int j) (.bool (g i j)) := r_I0 fun _ => .bl _
theorem r_IC {C : Int → Int → Prop} {g : Int → Int → Int} (h : C i j) : R2D K (rI C fun i j => .int (g i j)) (.int i) (.int j) (.int (g i j)) := fun v w B H s h1 h2 Q q => by
  cases h1
  cases h2
  exact ⟨i, j, rfl, rfl, h, q _ B H (Le.rfl' s) (.int _)⟩
theorem r_eqI : R2D K rEq (.int i) (.int j) (.bool (decide (i = j))) := fun v w B H s h1 h2 Q q => by
  cases h1
  cases h2
  have e : decide (V.int i = V.int j) = decide (i = j) := by
    rw [dec_int]
    exact (Bool.beq_eq_decide_eq i j)
  exact ⟨rfl, by rw [e]; exact q _ B H (Le.rfl' s) (.bl _)⟩
theorem r_neI : R2D K rNe (.int i) (.int j) (.bool (!decide (i = j))) := fun v w B H s h1 h2 Q q => by
  cases h1
  cases h2
  have e : decide (V.int i = V.int j) = decide (i = j) := by
    rw [dec_int]
    exact (Bool.beq_eq_decide_eq i j)
  exact ⟨rfl, by rw [e]; exact q _ B H (Le.rfl' s) (.bl _)⟩
theorem r_eqB : R2D K rEq (.bool a) (.bool b) (.bool (a == b)) := fun v w B H s h1 h2 Q q => by
  cases h1
  cases h2
  exact ⟨rfl, by rw [dec_bl]; exact q _ B H (Le.rfl' s) (.bl _)⟩
theorem r_neS {u w' : Str} : R2D K rNe (.str u) (.str w') (.bool (!decide (u = w'))) := fun v w B H s h1 h2 Q q => by
  cases h1
  cases h2
  have e : decide (V.str u = V.str w') = decide (u = w') := by
    by_cases h : u = w'
    · rw [h]
      simp
    · rw [decide_eq_false h, decide_eq_false (fun z => h (V.str.inj z))]
  exact ⟨rfl, by rw [e]; exact q _ B H (Le.rfl' s) (.bl _)⟩
theorem r_eqS {u w' : Str} : R2D K rEq (.str u) (.str w') (.bool (decide (u = w'))) := fun v w B H s h1 h2 Q q => by
  cases h1
  cases h2
  have e : decide (V.str u = V.str w') = decide (u = w') := by
    by_cases h : u = w'
    · rw [h]
      simp
    · rw [decide_eq_false h, decide_eq_false (fun z => h (V.str.inj z))]
  exact ⟨rfl, by rw [e]; exact q _ B H (Le.rfl' s) (.bl _)⟩
theorem r_eqA (h1 : SeqAt.shaped x = true) (h2 : SeqAt.shaped y = true) : R2D K (rEqA K) x y (.bool (PyData.eqv x y)) := fun v w B H s dx dy Q q =>
  ⟨x, y, dx.ex s, dy.ex s, h1, h2, q _ B H (Le.rfl' s) (.bl _)⟩
theorem r_neA (h1 : SeqAt.shaped x = true) (h2 : SeqAt.shaped y = true) : R2D K (rNeA K) x y (.bool (!PyData.eqv x y)) := fun v w B H s dx dy Q q =>
  ⟨x, y, dx.ex s, dy.ex s, h1, h2, q _ B H (Le.rfl' s) (.bl _)⟩
theorem r1_neg : R1D K (rU fun i => .int (-i)) (.int i) (.int (-i)) := fun v B H s h Q q => by
  cases h
  exact ⟨i, rfl, q _ B H (Le.rfl' s) (.int _)⟩
theorem ed_neg1 : ED K (tUn (rU fun i => .int (-i)) (tC (.int 1))) ρ (.int (-1)) := ed_un ed_int r1_neg
/-- a < b < c -/
theorem ed_chain {r r' : R2} (ha : ED K ta ρ x) (hb : ED K tb ρ y) (hr : R2D K r x y (.bool a)) (hc : a = true → ED K tc ρ z) (hr' : a = true → R2D K r' y z (.bool b)) : ED K (tChain r r' ta tb tc) ρ (.bool (a && b)) := fun σ B H s sd Q q =>
  ha σ B H s sd _ fun v B1 H1 l1 d1 => hb σ B1 H1 l1.sub (sd.up l1.ek) _ fun w B2 H2 l2 d2 => hr v w B2 H2 l2.sub (d1.ex l2.ek) d2 _ fun u B3 H3 l3 d3 => by
    cases d3
    refine ⟨a, rfl, ?_⟩
    cases a with
    | true =>
      show tc σ H3 _
      refine hc rfl σ B3 H3 l3.sub (sd.up ((l1.tr l2).tr l3).ek) _ fun u B4 H4 l4 d4 => ?_
      exact hr' rfl w u B4 H4 l4.sub (d2.ex (l3.tr l4).ek) d4 Q fun u B5 H5 l5 d5 => q u B5 H5 ((((l1.tr l2).tr l3).tr l4).tr l5) d5
    | false =>
      show Q (.bl false) H3
      exact q _ B3 H3 ((l1.tr l2).tr l3) (.bl false)
/-! ### kinds -/
def isT (T : String) : PyData → Bool
  | .none => T == "NoneType"
  | .bool _ => T == "bool" || T == "int"
  | .int _ => T == "int"
  | .str _ => T == "str"
  | .list _ => T == "list"
  | .tuple _ => T == "tuple"
  | .dict _ => T == "dict"
def tyName : PyData → String
  | .none => "NoneType"
  | .bool _ => "bool"
  | .int _ => "int"
  | .str _ => "str"
  | .list _ => "list"
  | .tuple _ => "tuple"
  | .dict _ => "dict"
theorem da_ty {B : Hp} {v : V} (h : Da K B v d) : TyX K B v (.type (tyName d)) := by
  cases h with
  | non => exact .base .non
  | bl b => exact .base (.bl b)
  | int i => exact .base (.int i)
  | str x => exact .base (.str x)
  | lst h _ => exact .base (.lst h)
  | tup h _ => exact .base (.tup h)
  | dic h _ => exact .base (.dK h)
theorem kit_int : ∀ d : PyData, PySem.W.kitOne K (.type (tyName d)) (.type "int") = some (isT "int" d)
  | .none => (kit_ty (a := "NoneType") (b := "int") (r := false) (by decide +kernel))
  | .bool _ => (kit_ty (a := "bool") (b := "int") (r := true) (by decide +kernel))
  | .int _ => (kit_ty (a := "int") (b := "int") (r := true) (by decide +kernel))
  | .str _ => (kit_ty (a := "str") (b := "int") (r := false) (by decide +kernel))
  | .list _ => (kit_ty (a := "list") (b := "int") (r := false) (by decide +kernel))
  | .tuple _ => (kit_ty (a := "tuple") (b := "int") (r := false) (by decide +kernel))
  | .dict _ => (kit_ty (a := "dict") (b := "int") (r := false) (by decide +kernel))
theorem kit_bool : ∀ d : PyData, PySem.W.kitOne K (.type (tyName d)) (.type "bool") = some (isT "bool" d)
  | .none => (kit_ty (a := "NoneType") (b := "bool") (r := false) (by decide +kernel))
  | .bool _ => (kit_ty (a := "bool") (b := "bool") (r := true) (by decide +kernel))
  | .int _ => (kit_ty (a := "int") (b := "bool") (r := false) (by decide +kernel))
  | .str _ => (kit_ty (a := "str") (b := "bool") (r := false) (by decide +kernel))
  | .list _ => (kit_ty (a := "list") (b := "bool") (r := false) (by decide +kernel))
  | .tuple _ => (kit_ty (a := "tuple") (b := "bool") (r := false) (by decide +kernel))
  | .dict _ => (kit_ty (a := "dict") (b := "bool") (r := false) (by decide +kernel))
theorem kit_list : ∀ d : PyData, PySem.W.kitOne K (.type (tyName d)) (.type "list") = some (isT "list" d)
  | .none => (kit_ty (a := "NoneType") (b := "list") (r := false) (by decide +kernel))
  | .bool _ => (kit_ty (a := "bool") (b := "list") (r := false) (by decide +kernel))
  | .int _ => (kit_ty (a := "int") (b := "list") (r := false) (by decide +kernel))
  | .str _ => (kit_ty (a := "str") (b := "list") (r := false) (by decide +kernel))
  | .list _ => (kit_ty (a := "list") (b := "list") (r := true) (by decide +kernel))
  | .tuple _ => (kit_ty (a := "tuple") (b := "list") (r := false) (by decide +kernel))
  | .dict _ => (kit_ty (a := "dict") (b := "list") (r := false) (by decide +kernel))
theorem kit_tuple : ∀ d : PyData, PySem.W.kitOne K (.type (tyName d)) (.type "tuple") = some (isT "tuple" d)
  | .none => (kit_ty (a := "NoneType") (b := "tuple") (r := false) (by decide +kernel))
  | .bool _ => (kit_ty (a := "bool") (b := "tuple") (r := false) (by decide +kernel))
  | .int _ => (kit_ty (a := "int") (b := "tuple") (r := false) (by decide +kernel))
  | .str _ => (kit_ty (a := "str") (b := "tuple") (r := false) (by decide +kernel))
  | .list _ => (kit_ty (a := "list") (b := "tuple") (r := false) (by decide +kernel))
  | .tuple _ => (kit_ty (a := "tuple") (b := "tuple") (r := true) (by decide +kernel))
  | .dict _ => (kit_ty (a := "dict") (b := "tuple") (r := false) (by decide +kernel))
theorem kit_str : ∀ d : PyData, PySem.W.kitOne K (.type (tyName d)) (.type "str") = some (isT "str" d)
  | .none => (kit_ty (a := "NoneType") (b := "str") (r := false) (by decide +kernel))
  | .bool _ => (kit_ty (a := "bool") (b := "str") (r := false) (by decide +kernel))
  | .int _ => (kit_ty (a := "int") (b := "str") (r := false) (by decide +kernel))
  | .str _ => (kit_ty (a := "str") (b := "str") (r := true) (by decide +kernel))
  | .list _ => (kit_ty (a := "list") (b := "str") (r := false) (by decide +kernel))
  | .tuple _ => (kit_ty (a := "tuple") (b := "str") (r := false) (by decide +kernel))
  | .dict _ => (kit_ty (a := "dict") (b := "str") (r := false) (by decide +kernel))
theorem kitT {T : String} (hT : T = "int" ∨ T = "bool" ∨ T = "list" ∨ T = "tuple" ∨ T = "str") : PySem.W.kitOne K (.type (tyName d)) (.type T) = some (isT T d) := by
  rcases hT with rfl | rfl | rfl | rfl | rfl
  · exact kit_int d
  · exact kit_bool d
  · exact kit_list d
  · exact kit_tuple d
  · exact kit_str d
theorem ed_isi {T : String} (h : ED K te ρ d) (hT : T = "int" ∨ T = "bool" ∨ T = "list" ∨ T = "tuple" ∨ T = "str" := by simp) : ED K (tCB (rIsi K) (tCons te (tCons (tC (.ty T)) tNil))) ρ (.bool (isT T d)) := fun σ B H s sd Q q =>
  h σ B H s sd _ fun v B1 H1 l1 d1 => ⟨v, .ty T, _, _, isT T d, rfl, .ty T, da_ty (d1.ex l1.sub), kitT hT, q _ B1 H1 l1 (.bl _)⟩
/-! ### len, items -/
def rLen (K : Fg) : List V → Hp → VK → Prop := fun xs H Q => ∃ p ys, xs = [.ref p] ∧ (SqL K H p ys ∨ SqT K H p ys) ∧ Q (.int ys.length) H
theorem rc_lenL {ds : List PyData} : RcD K (rLen K) [.list ds] (.int ds.length) := fun vs B H s h Q q => by
  cases h with
  | cons h1 h2 =>
    cases h2
    cases h1 with
    | lst ha hs => exact ⟨_, _, rfl, .inl (SqL.of (s _ _ ha)), by rw [hs.len]; exact q _ B H (Le.rfl' s) (.int _)⟩
theorem rc_lenT {ds : List PyData} : RcD K (rLen K) [.tuple ds] (.int ds.length) := fun vs B H s h Q q => by
  cases h with
  | cons h1 h2 =>
    cases h2
    cases h1 with
    | tup ha hs => exact ⟨_, _, rfl, .inr (SqT.of (s _ _ ha)), by rw [hs.len]; exact q _ B H (Le.rfl' s) (.int _)⟩
theorem r_ixL {ds : List PyData} {i : Nat} (h : ds[i]? = some z) : R2D K (rIxL K) (.list ds) (.int (i : Int)) z := fun v w B H s h1 h2 Q q => by
  cases h2
  cases h1 with
  | lst ha hs =>
    obtain ⟨u, hu, hd⟩ := hs.getD h
    exact ⟨_, _, _, u, rfl, rfl, SqL.of (s _ _ ha), atI_nat hu, q _ B H (Le.rfl' s) hd⟩
theorem r_ixT {ds : List PyData} {i : Nat} (h : ds[i]? = some z) : R2D K (rIxT K) (.tuple ds) (.int (i : Int)) z := fun v w B H s h1 h2 Q q => by
  cases h2
  cases h1 with
  | tup ha hs =>
    obtain ⟨u, hu, hd⟩ := hs.getD h
    exact ⟨_, _, _, u, rfl, rfl, SqT.of (s _ _ ha), atI_nat hu, q _ B H (Le.rfl' s) hd⟩
theorem r_ixL0 {ds : List PyData} : R2D K (rIxL K) (.list (d :: ds)) (.int 0) d := r_ixL (i := 0) rfl
theorem r_ixT0 {ds : List PyData} : R2D K (rIxT K) (.tuple (d :: ds)) (.int 0) d := r_ixT (i := 0) rfl
theorem r_ixT1 {ds : List PyData} : R2D K (rIxT K) (.tuple (x :: d :: ds)) (.int 1) d := r_ixT (i := 1) rfl
theorem r_ixT2 {ds : List PyData} : R2D K (rIxT K) (.tuple (x :: y :: d :: ds)) (.int 2) d := r_ixT (i := 2) rfl
/-- a + b of lists -/
theorem r_cat {ds es : List PyData} (h : ds.length + es.length ≤ 100000) : R2D K rCat (.list ds) (.list es) (.list (ds ++ es)) := fun v w B H s h1 h2 Q q => by
  cases h1 with
  | @lst p1 xs1 _ ha hs =>
    cases h2 with
    | @lst p2 xs2 _ hb ht =>
      refine ⟨p1, p2, xs1, xs2, rfl, rfl, s _ _ ha, s _ _ hb, by rw [hs.len, ht.len]; exact Evl.sz_of h, fun p hp => ?_⟩
      have l := Le.new (o := .lst (xs1 ++ xs2)) s hp
      exact q _ _ _ l (.lst upd_same ((hs.app ht).ex l.ek))
theorem Das.rep {B : Hp} {vs : List V} {ds : List PyData} (h : Das K B vs ds) : ∀ n : Nat, Das K B (List.replicate n vs).flatten (List.replicate n ds).flatten
  | 0 => .nil
  | n + 1 => h.app (h.rep n)
theorem r_rep {ds : List PyData} (h : 0 ≤ k ∧ k ≤ 1000 ∧ ds.length ≤ 1000) : R2D K rRep (.list ds) (.int k) (.list (List.replicate k.toNat ds).flatten) := fun v w B H s h1 h2 Q q => by
  cases h2
  cases h1 with
  | @lst p1 xs1 _ ha hs =>
    refine ⟨p1, k, xs1, rfl, rfl, s _ _ ha, by omega, by omega, ?_, fun p hp => ?_⟩
    · rw [hs.len]
      exact Nat.le_trans (Nat.mul_le_mul h.2.2 (show k.toNat ≤ 1000 by omega)) (by decide)
    · have l := Le.new (o := .lst (List.replicate k.toNat xs1).flatten) s hp
      exact q _ _ _ l (.lst upd_same ((hs.rep _).ex l.ek))
/-- all of a list of Booleans -/
theorem bools_of {B : Hp} : ∀ {vs : List V} {bs : List Bool}, Das K B vs (bs.map PyData.bool) → vs = bs.map V.bl
  | [], [], _ => rfl
  | v :: vs, b :: bs, .cons h t => by
    cases h
    rw [bools_of t]
    rfl
theorem rc_all {bs : List Bool} : RcD K (rAll K) [.list (bs.map PyData.bool)] (.bool (bs.all id)) := fun vs B H s h Q q => by
  cases h with
  | cons h1 h2 =>
    cases h2
    cases h1 with
    | lst ha hs =>
      rw [bools_of hs] at ha
      exact ⟨_, bs, rfl, SqL.of (s _ _ ha), q _ B H (Le.rfl' s) (.bl _)⟩
def flatD : PyData → Bool
  | .none => true
  | .bool _ => true
  | .int _ => true
  | .str _ => true
  | _ => false
theorem flat_of {B : Hp} {v : V} (h : Da K B v d) (hf : flatD d = true) : flatV v = true := by
  cases h <;> first | rfl | (cases hf)
theorem flats_of {B : Hp} : ∀ {vs : List V} {ds : List PyData}, Das K B vs ds → ds.all flatD = true → vs.all flatV = true
  | _, _, .nil, _ => rfl
  | _, _, .cons h t, e => by
    rw [List.all_cons, Bool.and_eq_true] at e ⊢
    exact ⟨flat_of h e.1, flats_of t e.2⟩
theorem eqV_of {B : Hp} {v w : V} (h : Da K B v x) (h' : Da K B w y) (hf : flatD x = true) (hf' : flatD y = true) : eqV v w = PyData.eqv x y := by
  cases h with
  | lst _ _ => cases hf
  | tup _ _ => cases hf
  | dic _ _ => cases hf
  | non => cases h' with
    | lst _ _ => cases hf'
    | tup _ _ => cases hf'
    | dic _ _ => cases hf'
    | _ => simp [eqV, PyData.eqv]
  | bl b => cases h' with
    | lst _ _ => cases hf'
    | tup _ _ => cases hf'
    | dic _ _ => cases hf'
    | _ => simp [eqV, PyData.eqv]
  | int b => cases h' with
    | lst _ _ => cases hf'
    | tup _ _ => cases hf'
    | dic _ _ => cases hf'
    | _ => simp [eqV, PyData.eqv]
  | str b => cases h' with
    | lst _ _ => cases hf'
    | tup _ _ => cases hf'
    | dic _ _ => cases hf'
    | _ => simp [eqV, PyData.eqv]
theorem inV_of {B : Hp} {v : V} (h : Da K B v x) (hf : flatD x = true) : ∀ {vs : List V} {ds : List PyData}, Das K B vs ds → ds.all flatD = true → inV v vs = ds.any fun e => PyData.eqv e x
  | _, _, .nil, _ => rfl
  | _, _, .cons a t, e => by
    rw [List.all_cons, Bool.and_eq_true] at e
    have ih := inV_of h hf t e.2
    unfold inV at ih ⊢
    rw [List.any_cons, List.any_cons, ih, eqV_of a h e.1 hf]
theorem r_in {ds : List PyData} (hf : flatD x = true) (ha : ds.all flatD = true) : R2D K (rIn K false) x (.list ds) (.bool (ds.any fun e => PyData.eqv e x)) := fun v w B H s h1 h2 Q q => by
  cases h2 with
  | lst hb hs =>
    refine ⟨_, _, rfl, .inl (SqL.of (s _ _ hb)), flat_of h1 hf, flats_of hs ha, ?_⟩
    show Q (.bl (inV v _)) H
    rw [inV_of h1 hf hs ha]
    exact q _ B H (Le.rfl' s) (.bl _)
theorem r_ni {ds : List PyData} (hf : flatD x = true) (ha : ds.all flatD = true) : R2D K (rIn K true) x (.list ds) (.bool (!ds.any fun e => PyData.eqv e x)) := fun v w B H s h1 h2 Q q => by
  cases h2 with
  | lst hb hs =>
    refine ⟨_, _, rfl, .inl (SqL.of (s _ _ hb)), flat_of h1 hf, flats_of hs ha, ?_⟩
    show Q (.bl (!inV v _)) H
    rw [inV_of h1 hf hs ha]
    exact q _ B H (Le.rfl' s) (.bl _)
end
/-! ### comprehensions -/
section
variable {K : Fg} {ρ : En} {te : TE} {tt : TT}
def picked (ds : List PyData) (f : PyData → Bool) (g : PyData → PyData) : List PyData := (ds.filter f).map g
theorem picked_len (ds : List PyData) (f : PyData → Bool) (g : PyData → PyData) : (picked ds f g).length ≤ ds.length := by
  unfold picked
  rw [List.length_map]
  exact List.length_filter_le f ds
theorem picked_more {ds : List PyData} {f : PyData → Bool} {g : PyData → PyData} {i : Nat} {e : PyData} (h : ds[i]? = some e) :
    picked (ds.take (i + 1)) f g = picked (ds.take i) f g ++ (if f e = true then [g e] else []) := by
  unfold picked
  rw [List.take_add_one, h]
  show List.map g (List.filter f (ds.take i ++ [e])) = _
  rw [List.filter_append, List.map_append]
  congr 1
  rw [List.filter_cons]
  split <;> rfl
/-- what stands while the list is being made: B knows nothing of it -/
def Cz (K : Fg) (B H : Hp) (D : Addr) (out : List PyData) (H' : Hp) : Prop := ∃ B' acc, Le B H B' H' ∧ B' D = none ∧ H' D = some (.lst acc) ∧ Das K B' acc out
theorem cz_start {B H : Hp} {D : Addr} (s : Ex B H) (hD : H D = none) : Cz K B H D [] (upd H D (.lst [])) :=
  ⟨B, [], ⟨Ex.new hD, Ex.refl B, s.trans (Ex.new hD), fun _ h _ => h⟩, Evl.fresh_back s hD, upd_same, .nil⟩
theorem cz_end {B H H' : Hp} {D : Addr} {out : List PyData} (hD : H D = none) (c : Cz K B H D out H') : ∃ B', Le B H B' H' ∧ Da K B' (.ref D) (.list out) := by
  obtain ⟨B', acc, l, n, e, h⟩ := c
  have k : Ex B' (upd B' D (.lst acc)) := fun a o q => by
    rw [upd_ne (ne_of_none q n)]
    exact q
  refine ⟨upd B' D (.lst acc), ⟨l.ex, l.ek.trans k, fun a o q => ?_, fun a h1 h2 => ?_⟩, .lst upd_same (h.ex k)⟩
  · by_cases z : a = D
    · subst z
      rw [upd_same] at q
      cases q
      exact e
    · rw [upd_ne z] at q
      exact l.sub a o q
  · rw [upd_ne (fun z => h2 (by rw [z]; exact hD))]
    exact l.old a h1 h2
theorem cz_turn {B H : Hp} {D : Addr} {out : List PyData} {H' : Hp} {σ' : L2.St} {ρ' : En} {b : Bool} {y : PyData} (hD : H D = none) (c : Cz K B H D out H') (sd : SD K B σ' ρ') (hl : out.length ≤ 50000) (ht : ET K tt ρ' b) (he : b = true → ED K te ρ' y) {P : Hp → Prop}
    (h1 : b = true → ∀ H2, Cz K B H D (out ++ [y]) H2 → P H2) (h0 : b = false → ∀ H2, Cz K B H D out H2 → P H2) :
    tt σ' H' fun b2 H3 => if b2 = true then te σ' H3 fun v H4 => ∃ acc, H4 D = some (.lst acc) ∧ acc.length < sizeLine ∧ P (upd H4 D (.lst (acc ++ [v]))) else P H3 := by
  obtain ⟨B', acc, l, n, e, h⟩ := c
  refine ht σ' B' H' l.sub (sd.up l.ek) _ fun B3 H3 l3 => ?_
  have n3 : B3 D = none := l3.old D n (fun z => by rw [e] at z; cases z)
  cases b with
  | false => exact h0 rfl H3 ⟨B3, acc, l.tr l3, n3, l3.ex D _ e, h.ex l3.ek⟩
  | true =>
    show te σ' H3 _
    refine he rfl σ' B3 H3 l3.sub (sd.up (l.tr l3).ek) _ fun v B4 H4 l4 d4 => ?_
    have e3 := l3.ex D _ e
    have n4 : B4 D = none := l4.old D n3 (fun z => by rw [e3] at z; cases z)
    refine ⟨acc, l4.ex D _ e3, Evl.sz_lt (by rw [h.len]; omega), h1 rfl _ ⟨B4, acc ++ [v], ⟨fun a o q => ?_, (l.tr (l3.tr l4)).ek, fun a o q => ?_, (l.tr (l3.tr l4)).old⟩, n4, upd_same, (h.ex (l3.tr l4).ek).app (.cons d4 .nil)⟩⟩
    · by_cases z : a = D
      · subst z
        rw [hD] at q
        cases q
      · rw [upd_ne z]
        exact (l.tr (l3.tr l4)).ex a o q
    · rw [upd_ne (ne_of_none q n4)]
      exact l4.sub a o q
theorem wipe_put {σ : L2.St} {vs : List Nat} {j : Nat} {x : V} (h : ∀ x, L2.wipe ((L2.wipe σ vs).set j (some x)) vs = L2.wipe σ vs) : L2.wipe ((L2.wipe σ vs).set j (some x)) vs = L2.wipe σ vs := h x
theorem wipe_set {α : Type} : ∀ (vs : List Nat) (l : List (Option α)) (j : Nat) (o : Option α) (w : List (Option α) → List Nat → List (Option α)) (hw0 : ∀ l, w l [] = l) (hw1 : ∀ l v vs, w l (v :: vs) = (w l vs).set v none), j ∈ vs → w ((w l vs).set j o) vs = w (w l vs) vs
  | v :: vs, l, j, o, w, h0, h1, hj => by
    rw [h1, h1 ((w l (v :: vs)))]
    by_cases e : j ∈ vs
    · have ih := fun l' => wipe_set vs l' j o w h0 h1 e
      have c : ∀ (l' : List (Option α)) (i : Nat) (q : Option α) (us : List Nat), (i ∉ us) → w (l'.set i q) us = (w l' us).set i q := by
        intro l' i q us
        induction us with
        | nil =>
          intro _
          rw [h0, h0]
        | cons u us ihu =>
          intro hn
          rw [List.mem_cons, not_or] at hn
          rw [h1, h1, ihu hn.2, List.set_comm _ _ hn.1]
      by_cases e2 : v ∈ vs
      · have d : ∀ (l' : List (Option α)) (q : Option α) (us : List Nat), v ∈ us → w (l'.set v q) us = w l' us := by
          intro l' q us
          induction us with
          | nil => exact fun z => nomatch z
          | cons u us ihu =>
            intro hn
            rw [h1, h1]
            by_cases e3 : v ∈ us
            · rw [ihu e3]
            · rcases List.mem_cons.mp hn with z | z
              · subst z
                rw [c _ _ _ _ e3, List.set_set]
              · exact (e3 z).elim
        have d' : ∀ (l' : List (Option α)) (q : Option α) (us : List Nat), j ∈ us → w (l'.set j q) us = w l' us := by
          intro l' q us
          induction us with
          | nil => exact fun z => nomatch z
          | cons u us ihu =>
            intro hn
            rw [h1, h1]
            by_cases e3 : j ∈ us
            · rw [ihu e3]
            · rcases List.mem_cons.mp hn with z | z
              · subst z
                rw [c _ _ _ _ e3, List.set_set]
              · exact (e3 z).elim
        rw [d' _ _ _ e]
      · have d' : ∀ (l' : List (Option α)) (q : Option α) (us : List Nat), j ∈ us → w (l'.set j q) us = w l' us := by
          intro l' q us
          induction us with
          | nil => exact fun z => nomatch z
          | cons u us ihu =>
            intro hn
            rw [h1, h1]
            by_cases e3 : j ∈ us
            · rw [ihu e3]
            · rcases List.mem_cons.mp hn with z | z
              · subst z
                rw [c _ _ _ _ e3, List.set_set]
              · exact (e3 z).elim
        rw [d' _ _ _ e]
    · have ev : j = v := (List.mem_cons.mp hj).resolve_right e
      subst ev
      have c : ∀ (l' : List (Option α)) (i : Nat) (q : Option α) (us : List Nat), (i ∉ us) → w (l'.set i q) us = (w l' us).set i q := by
        intro l' i q us
        induction us with
        | nil =>
          intro _
          rw [h0, h0]
        | cons u us ihu =>
          intro hn
          rw [List.mem_cons, not_or] at hn
          rw [h1, h1, ihu hn.2, List.set_comm _ _ hn.1]
      rw [c _ _ _ _ e, List.set_set]
theorem wipe_none {σ : L2.St} : ∀ vs : List Nat, L2.wipe (L2.wipe σ vs) vs = L2.wipe σ vs := by
  have c : ∀ (us : List Nat) (l : L2.St) (i : Nat), L2.wipe (l.set i none) us = (L2.wipe l us).set i none := by
    intro us
    induction us with
    | nil => exact fun _ _ => rfl
    | cons u us ih =>
      intro l i
      show (L2.wipe (l.set i none) us).set u none = ((L2.wipe l us).set u none).set i none
      rw [ih]
      by_cases e : i = u
      · rw [e]
      · rw [List.set_comm _ _ e]
  intro vs
  induction vs with
  | nil => rfl
  | cons v vs ih =>
    show (L2.wipe ((L2.wipe σ vs).set v none) vs).set v none = (L2.wipe σ vs).set v none
    rw [c, ih, List.set_set]
/-- [e for x in xs if t] over a list -/
theorem ed_lcL {tl : TE} {j : Nat} {vs : List Nat} {ds : List PyData} (f : PyData → Bool) (g : PyData → PyData) (h : ED K tl ρ (.list ds)) (hj : j ∈ vs) (hz : ds.length ≤ 40000)
    (ht : ∀ d, d ∈ ds → ET K tt ((wipeD ρ vs).set j (some d)) (f d)) (he : ∀ d, d ∈ ds → f d = true → ED K te ((wipeD ρ vs).set j (some d)) (g d)) :
    ED K (tLc (iList K tl) (gName j) tt te vs) ρ (.list (picked ds f g)) := fun σ B H s sd Q q =>
  h σ B H s sd _ fun v B1 H1 l1 d1 => by
    cases d1 with
    | @lst p xs _ ha hs =>
      have hx : SqL K H1 p xs := SqL.of (l1.sub _ _ ha)
      refine ⟨p, rfl, ⟨xs, hx⟩, fun D hD => ?_⟩
      refine lc_list (K := K) (a := p) (xs := xs) (fun i H' => Cz K B1 H1 D (picked (ds.take i) f g) H') (cz_start l1.sub hD) (fun i H' _ ⟨B', acc, l, _⟩ => SqL.of (l.ex _ _ (l1.sub _ _ ha))) (fun i x H' hi c => ?_) (fun H' c => ?_)
      · obtain ⟨e, he1, hd⟩ := hs.get hi
        have me : e ∈ ds := List.mem_of_getElem? he1
        refine ⟨?_, ?_⟩
        · exact wipe_set vs σ j (some x) L2.wipe (fun _ => rfl) (fun _ _ _ => rfl) hj |>.trans (wipe_none vs)
        · refine cz_turn hD c ((((sd.up l1.ek).wipe vs)).put j hd) ?_ (ht e me) (he e me) (fun hf H2 c2 => ?_) (fun hf H2 c2 => ?_)
          · have z1 := picked_len (ds.take i) f g
            have z2 : (ds.take i).length ≤ ds.length := by
              rw [List.length_take]
              omega
            omega
          · show Cz K B1 H1 D (picked (ds.take (i + 1)) f g) H2
            rw [picked_more he1, if_pos hf]
            exact c2
          · show Cz K B1 H1 D (picked (ds.take (i + 1)) f g) H2
            rw [picked_more he1, if_neg (by rw [hf]; exact Bool.false_ne_true), List.append_nil]
            exact c2
      · have e : ds.take xs.length = ds := by
          rw [hs.len]
          exact List.take_length
        rw [e] at c
        obtain ⟨B', l, hd⟩ := cz_end hD c
        exact q _ _ _ (l1.tr l) hd
/-- [e for x in range(lo, lo + n) if t] -/
theorem lc_rngD {σ : L2.St} {B1 H1 : Hp} {j : Nat} {vs : List Nat} {lo : Int} {n : Nat} (f : PyData → Bool) (g : PyData → PyData) (s : Ex B1 H1) (sd : SD K B1 σ ρ) (hj : j ∈ vs) (hz : n ≤ 40000)
    (ht : ∀ d, d ∈ rgD lo n → ET K tt ((wipeD ρ vs).set j (some d)) (f d)) (he : ∀ d, d ∈ rgD lo n → f d = true → ED K te ((wipeD ρ vs).set j (some d)) (g d)) {Q : VK}
    (q : ∀ v B' H', Le B1 H1 B' H' → Da K B' v (.list (picked (rgD lo n) f g)) → Q v H') : ∀ D, H1 D = none → ∃ W : Nat → Nat → Hp → Prop, (∃ m, W 0 m (upd H1 D (.lst []))) ∧ ∀ i m H, W i m H →
      ((Itr lo n).stop i H ∧ Q (.ref D) H) ∨ ((Itr lo n).go i H ∧ ∃ Nx : Hp → Prop, (∀ H', Nx H' → ∃ m', m' < m ∧ W (i + 1) m' H') ∧ ∀ x H', (Itr lo n).yld i H x H' → gName j x (L2.wipe σ vs) H' fun σ2 H2 => L2.wipe σ2 vs = L2.wipe σ vs ∧ tt σ2 H2 fun b H3 =>
        if b = true then te σ2 H3 fun y H4 => ∃ acc, H4 D = some (.lst acc) ∧ acc.length < sizeLine ∧ Nx (upd H4 D (.lst (acc ++ [y]))) else Nx H3) := fun D hD => by
  refine lc_range (lo := lo) (n := n) (fun i H' => Cz K B1 H1 D (picked ((rgD lo n).take i) f g) H') (cz_start s hD) (fun i H' hi c => ?_) (fun H' c => ?_)
  · have he1 := rgD_get (lo := lo) hi
    have me : PyData.int (lo + (i : Int)) ∈ rgD lo n := List.mem_of_getElem? he1
    refine ⟨?_, ?_⟩
    · exact wipe_set vs σ j _ L2.wipe (fun _ => rfl) (fun _ _ _ => rfl) hj |>.trans (wipe_none vs)
    · refine cz_turn hD c ((sd.wipe vs).put j (.int _)) ?_ (ht _ me) (he _ me) (fun hf H2 c2 => ?_) (fun hf H2 c2 => ?_)
      · have z1 := picked_len ((rgD lo n).take i) f g
        have z2 : ((rgD lo n).take i).length ≤ n := by
          rw [List.length_take, rgD_len]
          omega
        omega
      · show Cz K B1 H1 D (picked ((rgD lo n).take (i + 1)) f g) H2
        rw [picked_more he1, if_pos hf]
        exact c2
      · show Cz K B1 H1 D (picked ((rgD lo n).take (i + 1)) f g) H2
        rw [picked_more he1, if_neg (by rw [hf]; exact Bool.false_ne_true), List.append_nil]
        exact c2
  · have e : (rgD lo n).take n = rgD lo n := List.take_of_length_le (by rw [rgD_len]; exact Nat.le_refl _)
    rw [e] at c
    obtain ⟨B', l, hd⟩ := cz_end hD c
    exact q _ _ _ l hd
theorem ed_lcR1 {tl : TA} {j : Nat} {vs : List Nat} {n : Int} (f : PyData → Bool) (g : PyData → PyData) (h : EA K tl ρ [.int n]) (hn : -40000 ≤ n ∧ n ≤ 40000) (hj : j ∈ vs)
    (ht : ∀ d, d ∈ rgD 0 n.toNat → ET K tt ((wipeD ρ vs).set j (some d)) (f d)) (he : ∀ d, d ∈ rgD 0 n.toNat → f d = true → ED K te ((wipeD ρ vs).set j (some d)) (g d)) :
    ED K (tLc (iRng1 tl) (gName j) tt te vs) ρ (.list (picked (rgD 0 n.toNat) f g)) := fun σ B H s sd Q q =>
  h σ B H s sd _ fun us B1 H1 l1 d1 => by
    cases d1 with
    | cons h1 h2 =>
      cases h1
      cases h2
      exact ⟨n, rfl, by omega, by omega, lc_rngD f g l1.sub (sd.up l1.ek) hj (by omega) ht he fun v B' H' l d => q v B' H' (l1.tr l) d⟩
theorem ed_lcR2 {tl : TA} {j : Nat} {vs : List Nat} {lo n : Int} (f : PyData → Bool) (g : PyData → PyData) (h : EA K tl ρ [.int lo, .int n]) (hn : -40000 ≤ n ∧ n ≤ 40000 ∧ 0 ≤ lo ∧ lo ≤ 40000) (hj : j ∈ vs)
    (ht : ∀ d, d ∈ rgD lo (n - lo).toNat → ET K tt ((wipeD ρ vs).set j (some d)) (f d)) (he : ∀ d, d ∈ rgD lo (n - lo).toNat → f d = true → ED K te ((wipeD ρ vs).set j (some d)) (g d)) :
    ED K (tLc (iRng2 tl) (gName j) tt te vs) ρ (.list (picked (rgD lo (n - lo).toNat) f g)) := fun σ B H s sd Q q =>
  h σ B H s sd _ fun us B1 H1 l1 d1 => by
    cases d1 with
    | cons h1 h2 =>
      cases h1
      cases h2 with
      | cons h2 h3 =>
        cases h2
        cases h3
        exact ⟨lo, n, rfl, ⟨by omega, by omega, by omega, by omega⟩, lc_rngD f g l1.sub (sd.up l1.ek) hj (by omega) ht he fun v B' H' l d => q v B' H' (l1.tr l) d⟩
theorem et_yes {ρ : En} : ET K tYes ρ true := fun σ B H s sd Q q => q B H (Le.rfl' s)
end
end TD

set_option maxHeartbeats 4000000
/-! # G5: defs that make data of data -/
namespace TD
open PySem PySem.Spec PyProof.Rows L2
open Evl (Ex)
section
variable (P : Program) (w : World) (K : Fg) (mg : Str → Option Value) (base : Heap)
/-- the def x, as it is called: its parameters, how deep it calls, its promise -/
def Fc (x : Str) (ps : List Str) (k : Nat) (sp : Sp) : Prop :=
  ∃ (f : Addr) (fd : FuncData), mg x = some (.ref f) ∧ PySem.W.keepIn K (.ref f) = true ∧ Binds K fd ps [] ∧ FnG P w K mg base CX0 k f fd ps sp
/-- the def x stands behind the top as it is written -/
def At (x : Str) (st : Stmt) : Prop := ∃ (f : Addr) (fd : FuncData), Fun K x x st f fd ∧ mg x = some (.ref f)
end
section
variable {P : Program} {w : World} {K : Fg} {mg : Str → Option Value} {base : Heap} {x : Str} {ps N : List Str} {k : Nat} {st : Stmt}
/-- the body comes to d: by a return, or at its end to None -/
def XR (K : Fg) (t : TS) (ρ : En) (d : PyData) : Prop := XS K t ρ (.ret d) ∨ (d = .none ∧ ∃ ρ', XS K t ρ (.nx ρ'))
theorem xr_ret {t : TS} {ρ : En} {d : PyData} (h : XS K t ρ (.ret d)) : XR K t ρ d := .inl h
theorem xr_end {t : TS} {ρ ρ' : En} (h : XS K t ρ (.nx ρ')) : XR K t ρ .none := .inr ⟨rfl, ρ', h⟩
def enOf (N : List Str) (ds : List PyData) : En := ds.map some ++ List.replicate (N.length - ds.length) none
theorem sd_start {B : Hp} {N : List Str} {vs : List V} {ds : List PyData} (h : Das K B vs ds) : SD K B (L2.start N vs) (enOf N ds) := by
  have hl := h.len
  refine ⟨by unfold L2.start enOf; simp [hl], fun i d e => ?_⟩
  unfold enOf at e
  by_cases hi : i < ds.length
  · rw [List.getElem?_append_left (by rw [List.length_map]; exact hi), List.getElem?_map] at e
    obtain ⟨d2, e1, e2⟩ := Option.map_eq_some_iff.mp e
    cases e2
    obtain ⟨v, hv, hd⟩ := h.getD e1
    refine ⟨v, ?_, hd⟩
    unfold L2.start
    rw [List.getElem?_append_left (by rw [List.length_map, hl]; exact hi), List.getElem?_map, hv]
    rfl
  · rw [List.getElem?_append_right (by rw [List.length_map]; omega), List.getElem?_replicate] at e
    split at e <;> cases e
theorem sp_len {R : List PyData → PyData → Prop} (hl : ∀ ds d, R ds d → ds.length = ps.length) : ∀ vs H Q E, SpR K R vs H Q E → vs.length = ps.length := fun vs H Q E ⟨B, ds, d, _, h, r, _⟩ => h.len.trans (hl ds d r)
theorem fc_mk {R : List PyData → PyData → Prop} (a : At K mg x st) (S : FnScope N ps (defScope st))
    (hb : ∀ (kV doc pm : Value) (an : Option Addr) (cdv ct : Value) (us : List Value), us.length = ps.length → bindArgs (PySem.W.fnOf x x (defArgs st) (defBody st) (defScope st) .none kV doc pm an cdv ct) ⟨us, []⟩ = pure (ps.zip us))
    (hl : ∀ ds d, R ds d → ds.length = ps.length)
    (body : ∀ (f : Addr) (cdv : Value) (A : Around) (outer : List Env) (s : Shared) (H : Hp) (E : XK), A.guards = some [] → Room k (A.deeper (envOfC x (defScope st) s.heap.objs.size f cdv)) →
      ∃ t, PSs (cxOf CX0 P w K mg base N x (defScope st) f cdv A outer s H E).nox (defBody st) t ∧ ∀ ds d, R ds d → XR K t (enOf N ds) d) : Fc P w K mg base x ps (k + 1) (SpR K R) := by
  obtain ⟨f, fd, F, hm⟩ := a
  refine ⟨f, fd, hm, F.kp, F.binds hb, fnG F S (sp_len hl) ?_⟩
  intro cdv A outer s H vs Q E gu hr ⟨B, ds, d, sx, hd, r, q⟩
  obtain ⟨t, ht, hx⟩ := body f cdv A outer s H E gu hr
  refine ⟨t, ht.nox, ?_⟩
  have sd := sd_start (N := N) hd
  rcases hx ds d r with h | ⟨rfl, ρ', h⟩
  · exact h _ B H _ sx sd q
  · exact h _ B H _ sx sd fun σ' B' H' l _ => q _ B' H' l .non
end
section
variable {X : Cx} {x : Str} {ps ks : List Str} {k : Nat} {sp : Sp} {E : XK} {p pos : Pos} {e : Expr} {es : List Expr} {t tk : TA} {kws : List Keyword}
/-- f(a, ..) -/
theorem pe_f (c : Fc X.prog X.w X.K X.mg X.base x ps k sp) (gu : X.A.guards = some []) (hr : Room k X.A) (hg : Gl X x) (ha : PA X (e :: es) t)
    (d1 : (x == ("__debug__" : Str)) = false := by decide)
    (d2 : starEach (e :: es) X.env = (false, eval e X.env) :: starEach es X.env := by rfl)
    (d3 : (backTo pos (starEach es X.env)).any (·.1) = false := by rfl) :
    PE X (.Call (.Name x p) (e :: es) [] pos) (tCall sp [] E0 t) := by
  obtain ⟨f, fd, hm, kp, hb, F⟩ := c
  exact pe_g F gu hr hg hm kp hb pass0 ha d1 d2 d3
theorem pe_f0 (c : Fc X.prog X.w X.K X.mg X.base x [] k sp) (gu : X.A.guards = some []) (hr : Room k X.A) (hg : Gl X x) (d1 : (x == ("__debug__" : Str)) = false := by decide) :
    PE X (.Call (.Name x p) [] [] pos) (tCall sp [] E0 tNil) := by
  obtain ⟨f, fd, hm, kp, hb, F⟩ := c
  exact pe_g0 F gu hr hg hm kp hb pass0 d1
end
end TD

set_option maxHeartbeats 4000000
/-! # G6: names unpacked, all of a comprehension -/
namespace TD
open PySem PySem.Spec PyProof.Rows L2
open Evl (Ex)
section
variable {K : Fg} {ρ ρ' : En} {te : TE} {x y z d : PyData}
theorem Das.inv1 {B : Hp} {vs : List V} {ds : List PyData} (h : Das K B vs (x :: ds)) : ∃ v r, vs = v :: r ∧ Da K B v x ∧ Das K B r ds := by
  cases h with
  | cons a t => exact ⟨_, _, rfl, a, t⟩
def TGs_ (K : Fg) (g : TGs) (ds : List PyData) (ρ ρ' : En) : Prop := ∀ σ vs B H, Ex B H → SD K B σ ρ → Das K B vs ds → ∀ Q : L2.St → Hp → Prop, (∀ σ', SD K B σ' ρ' → Q σ' H) → g vs σ H Q
theorem tgs_nil : TGs_ K gNil [] ρ ρ := fun σ vs B H s sd h Q q => by
  cases h
  exact ⟨rfl, q σ sd⟩
theorem tgs_cons {g : TG} {gs : TGs} {ds : List PyData} {ρ1 : En} (h1 : TG_ K g d ρ ρ1) (h2 : TGs_ K gs ds ρ1 ρ') : TGs_ K (gCons g gs) (d :: ds) ρ ρ' := fun σ vs B H s sd h Q q => by
  obtain ⟨v, r, rfl, a, t⟩ := h.inv1
  exact ⟨v, r, rfl, h1 σ v B H s sd a _ fun σ' s' => h2 σ' r B H s s' t Q q⟩
theorem tg_tup {gs : TGs} {ds : List PyData} {n : Nat} (h : TGs_ K gs ds ρ ρ') (hn : ds.length = n := by rfl) : TG_ K (gTup K n gs) (.tuple ds) ρ ρ' := fun σ v B H s sd hd Q q => by
  cases hd with
  | tup ha hs => exact ⟨_, _, rfl, SqT.of (s _ _ ha), hs.len.trans hn, h σ _ B H s sd hs Q q⟩
theorem xs_par {i j : Nat} {ta : TA} (h : EA K ta ρ [x, y]) : XS K (tPar i j ta) ρ (.nx ((ρ.set i (some x)).set j (some y))) := fun σ B H D s sd m =>
  h σ B H s sd _ fun vs B1 H1 l1 d1 => by
    obtain ⟨v, r, rfl, a, t⟩ := d1.inv1
    obtain ⟨u, r2, rfl, a2, t2⟩ := t.inv1
    cases t2
    exact ⟨v, u, rfl, m _ B1 H1 l1 (((sd.up l1.ek).put i a).put j a2)⟩
theorem picked_all (ds : List PyData) (g : PyData → PyData) : picked ds (fun _ => true) g = ds.map g := by
  unfold picked
  rw [List.filter_eq_self.mpr (fun _ _ => rfl)]
/-- all([t for x in xs]) -/
theorem ed_allL {tl : TE} {j : Nat} {vs : List Nat} {ds : List PyData} (p : PyData → Bool) (h : ED K tl ρ (.list ds)) (hj : j ∈ vs) (hz : ds.length ≤ 40000)
    (he : ∀ d, d ∈ ds → ED K te ((wipeD ρ vs).set j (some d)) (.bool (p d))) :
    ED K (tCB (rAll K) (tCons (tLc (iList K tl) (gName j) tYes te vs) tNil)) ρ (.bool (ds.all p)) := by
  have h1 := ed_lcL (te := te) (tt := tYes) (fun _ => true) (fun d => .bool (p d)) h hj hz (fun _ _ => et_yes) (fun d m _ => he d m)
  rw [picked_all] at h1
  have e : (ds.map fun d => PyData.bool (p d)) = (ds.map p).map PyData.bool := by rw [List.map_map]; rfl
  have e2 : ds.all p = (ds.map p).all id := by rw [List.all_map]; rfl
  rw [e] at h1
  rw [e2]
  exact ed_cb (ea_cons h1 ea_nil) rc_all
end
end TD

set_option maxHeartbeats 4000000
/-! # G7: what is drawn: a generator's list stands in one slot and turns; nothing known leans on it -/
namespace TD
open PySem PySem.Spec PyProof.Rows L2
open Evl (Ex)
/-- at g a generator that may be asked n times more -/
def GenAt (g : Addr) (n : Nat) (H : Hp) : Prop := ∃ a b c : Int, H g = some (.lst [.int a, .int b, .int c]) ∧ 0 ≤ a ∧ (0 ≤ b ∧ b < 2147483647) ∧ 0 ≤ c ∧ c + (n : Int) ≤ 1000000000
theorem GenAt.less {g : Addr} {n m : Nat} {H : Hp} (h : GenAt g n H) (e : m ≤ n) : GenAt g m H := by
  obtain ⟨a, b, c, h1, h2, h3, h4, h5⟩ := h
  exact ⟨a, b, c, h1, h2, h3, h4, by omega⟩
theorem GenAt.ex {g : Addr} {n : Nat} {H H' : Hp} (h : GenAt g n H) (e : Ex H H') : GenAt g n H' := by
  obtain ⟨a, b, c, h1, r⟩ := h
  exact ⟨a, b, c, e g _ h1, r⟩
theorem GenAt.some {g : Addr} {n : Nat} {H : Hp} (h : GenAt g n H) : H g ≠ none := by
  obtain ⟨a, b, c, h1, r⟩ := h
  rw [h1]
  exact fun z => nomatch z
structure LeG (g : Addr) (B H B' H' : Hp) : Prop where
  ex : ∀ a o, a ≠ g → H a = some o → H' a = some o
  ek : Ex B B'
  sub : Ex B' H'
  old : ∀ a, B a = none → H a ≠ none → B' a = none
theorem LeG.of {g : Addr} {B H B' H' : Hp} (l : Le B H B' H') : LeG g B H B' H' := ⟨fun a o _ => l.ex a o, l.ek, l.sub, l.old⟩
theorem LeG.tr {g : Addr} {B H B1 H1 B2 H2 : Hp} (a : LeG g B H B1 H1) (b : LeG g B1 H1 B2 H2) (s : H1 g ≠ none) : LeG g B H B2 H2 :=
  ⟨fun x o n h => b.ex x o n (a.ex x o n h), a.ek.trans b.ek, b.sub, fun x h1 h2 => b.old x (a.old x h1 h2) (fun z => by
    by_cases q : x = g
    · subst q
      exact s z
    · cases q2 : H x with
      | none => exact h2 q2
      | some o =>
        rw [a.ex x o q q2] at z
        cases z)⟩
section
variable (K : Fg)
def EG (j : Nat) (te : TE) (ρ : En) (n : Nat) (P : PyData → Prop) (m : Nat) : Prop := ∀ g σ B H, Ex B H → B g = none → GenAt g n H → σ[j]? = some (some (.ref g)) → SD K B σ ρ →
  ∀ Q : VK, (∀ v d B' H', LeG g B H B' H' → GenAt g m H' → Da K B' v d → P d → Q v H') → te σ H Q
def EGA (j : Nat) (ta : TA) (ρ : En) (n : Nat) (P : List PyData → Prop) (m : Nat) : Prop := ∀ g σ B H, Ex B H → B g = none → GenAt g n H → σ[j]? = some (some (.ref g)) → SD K B σ ρ →
  ∀ Q : List V → Hp → Prop, (∀ vs ds B' H', LeG g B H B' H' → GenAt g m H' → Das K B' vs ds → P ds → Q vs H') → ta σ H Q
def EGT (j : Nat) (tt : TT) (ρ : En) (n : Nat) (P : Bool → Prop) (m : Nat) : Prop := ∀ g σ B H, Ex B H → B g = none → GenAt g n H → σ[j]? = some (some (.ref g)) → SD K B σ ρ →
  ∀ Q : Bool → Hp → Prop, (∀ b B' H', LeG g B H B' H' → GenAt g m H' → P b → Q b H') → tt σ H Q
/-- the promise of a def that draws: at most c times; what it may be asked, what it then hands back -/
def SpG (c : Nat) (Pre : List PyData → Prop) (R : List PyData → PyData → Prop) : Sp := fun vs H Q _ => ∃ g ws B ds n, vs = .ref g :: ws ∧ Ex B H ∧ B g = none ∧ GenAt g (n + c) H ∧ Das K B ws ds ∧ Pre ds ∧
  ∀ v d B' H', LeG g B H B' H' → GenAt g n H' → Da K B' v d → R ds d → Q v H'
end
section
variable {K : Fg} {j : Nat} {ρ ρ' : En} {ta tb te : TE} {tt : TT} {n m k : Nat} {P P1 P2 P3 : PyData → Prop}
theorem LeG.g {g : Addr} {B H B' H' : Hp} (l : LeG g B H B' H') (h : B g = none) (s : H g ≠ none) : B' g = none := l.old g h s
theorem eg_of {d : PyData} (h : ED K te ρ d) : EG K j te ρ n (fun x => x = d) n := fun g σ B H s hg ga hs sd Q q => h σ B H s sd Q fun v B' H' l hd => q v d B' H' (LeG.of l) (ga.ex l.ex) hd rfl
theorem egt_of {b : Bool} (h : ET K tt ρ b) : EGT K j tt ρ n (fun x => x = b) n := fun g σ B H s hg ga hs sd Q q => h σ B H s sd Q fun B' H' l => q b B' H' (LeG.of l) (ga.ex l.ex) rfl
theorem ega_of {ta : TA} {ds : List PyData} (h : EA K ta ρ ds) : EGA K j ta ρ n (fun x => x = ds) n := fun g σ B H s hg ga hs sd Q q => h σ B H s sd Q fun v B' H' l hd => q v ds B' H' (LeG.of l) (ga.ex l.ex) hd rfl
theorem eg_to (h : EG K j te ρ n P m) (hp : ∀ d, P d → P1 d) : EG K j te ρ n P1 m := fun g σ B H s hg ga hs sd Q q => h g σ B H s hg ga hs sd Q fun v d B' H' l g2 hd p => q v d B' H' l g2 hd (hp d p)
theorem eg_less (h : EG K j te ρ n P m) (e : k ≤ m) : EG K j te ρ n P k := fun g σ B H s hg ga hs sd Q q => h g σ B H s hg ga hs sd Q fun v d B' H' l g2 hd p => q v d B' H' l (g2.less e) hd p
theorem eg_more (h : EG K j te ρ n P m) (e : n ≤ k) : EG K j te ρ k P m := fun g σ B H s hg ga hs sd Q q => h g σ B H s hg (ga.less e) hs sd Q q
theorem ega_nil : EGA K j tNil ρ n (fun ds => ds = []) n := ega_of ea_nil
theorem ega_cons {tr : TA} {Ps : List PyData → Prop} (h : EG K j te ρ n P m) (hr : EGA K j tr ρ m Ps k) : EGA K j (tCons te tr) ρ n (fun ds => ∃ d r, ds = d :: r ∧ P d ∧ Ps r) k := fun g σ B H s hg ga hs sd Q q =>
  h g σ B H s hg ga hs sd _ fun v d B1 H1 l1 g1 d1 p1 => hr g σ B1 H1 l1.sub (l1.g hg ga.some) g1 hs (sd.up l1.ek) _ fun vs ds B2 H2 l2 g2 d2 p2 =>
    q (v :: vs) (d :: ds) B2 H2 (l1.tr l2 g1.some) g2 (.cons (d1.ex l2.ek) d2) ⟨d, ds, rfl, p1, p2⟩
theorem eg_op {r : R2} (h1 : EG K j ta ρ n P1 m) (h2 : EG K j tb ρ m P2 k) (hr : ∀ x y, P1 x → P2 y → ∃ z, R2D K r x y z ∧ P z) : EG K j (tOp r ta tb) ρ n P k := fun g σ B H s hg ga hs sd Q q =>
  h1 g σ B H s hg ga hs sd _ fun v x B1 H1 l1 g1 d1 p1 => h2 g σ B1 H1 l1.sub (l1.g hg ga.some) g1 hs (sd.up l1.ek) _ fun u y B2 H2 l2 g2 d2 p2 => by
    obtain ⟨z, hz, pz⟩ := hr x y p1 p2
    exact hz v u B2 H2 l2.sub (d1.ex l2.ek) d2 Q fun t B3 H3 l3 d3 => q t z B3 H3 ((l1.tr l2 g1.some).tr (LeG.of l3) g2.some) (g2.ex l3.ex) d3 pz
theorem egt_test (h : EG K j te ρ n P m) {Pb : Bool → Prop} (hp : ∀ d, P d → ∃ b, d = .bool b ∧ Pb b) : EGT K j (tTest te) ρ n Pb m := fun g σ B H s hg ga hs sd Q q =>
  h g σ B H s hg ga hs sd _ fun v d B1 H1 l1 g1 d1 p1 => by
    obtain ⟨b, rfl, pb⟩ := hp d p1
    cases d1
    exact ⟨b, rfl, q b B1 H1 l1 g1 pb⟩
theorem eg_call {c : Nat} {Pre : List PyData → Prop} {R : List PyData → PyData → Prop} {tl : TA} {E : XK} {Ps : List PyData → Prop} (h : EGA K j tl ρ n Ps (m + c)) (hp : ∀ ds, Ps ds → Pre ds) :
    EG K j (tCall (SpG K c Pre R) [] E (tCons (tVar j) tl)) ρ n (fun d => ∃ ds, Ps ds ∧ R ds d) m := fun g σ B H s hg ga hs sd Q q => by
  refine ⟨.ref g, hs, ?_⟩
  refine h g σ B H s hg ga hs sd _ fun vs ds B1 H1 l1 g1 d1 p1 => ?_
  show SpG K c Pre R ((.ref g :: vs) ++ []) H1 Q E
  rw [List.append_nil]
  exact ⟨g, vs, B1, ds, m, rfl, l1.sub, l1.g hg ga.some, g1, d1, hp ds p1, fun v d B2 H2 l2 g2 d2 r2 => q v d B2 H2 (l1.tr l2 g1.some) g2 d2 ⟨ds, p1, r2⟩⟩
theorem leG_new {g : Addr} {B H : Hp} {p : Addr} {o : HO} (s : Ex B H) (h : H p = none) : LeG g B H (upd B p o) (upd H p o) := LeG.of (Le.new s h)
theorem eg_tup {tl : TA} {Ps : List PyData → Prop} (h : EGA K j tl ρ n Ps m) (hl : ∀ ds, Ps ds → ds.length ≤ 100000) : EG K j (tTup tl) ρ n (fun d => ∃ ds, d = .tuple ds ∧ Ps ds) m := fun g σ B H s hg ga hs sd Q q =>
  h g σ B H s hg ga hs sd _ fun vs ds B1 H1 l1 g1 d1 p1 => ⟨das_big d1 (hl ds p1), fun p hp => q _ (.tuple ds) _ _ (l1.tr (leG_new l1.sub hp) g1.some) (g1.ex (Ex.new hp)) (.tup upd_same (d1.ex (Le.new (o := .tup vs) l1.sub hp).ek)) ⟨ds, rfl, p1⟩⟩
theorem eg_lst {tl : TA} {Ps : List PyData → Prop} (h : EGA K j tl ρ n Ps m) (hl : ∀ ds, Ps ds → ds.length ≤ 100000) : EG K j (tLst tl) ρ n (fun d => ∃ ds, d = .list ds ∧ Ps ds) m := fun g σ B H s hg ga hs sd Q q =>
  h g σ B H s hg ga hs sd _ fun vs ds B1 H1 l1 g1 d1 p1 => ⟨das_big d1 (hl ds p1), fun p hp => q _ (.list ds) _ _ (l1.tr (leG_new l1.sub hp) g1.some) (g1.ex (Ex.new hp)) (.lst upd_same (d1.ex (Le.new (o := .lst vs) l1.sub hp).ek)) ⟨ds, rfl, p1⟩⟩
/-! ### a comprehension over range(n) that draws: J i out holds behind i turns -/
def Cg (K : Fg) (g : Addr) (B H : Hp) (D : Addr) (out : List PyData) (H' : Hp) : Prop := ∃ B' acc, LeG g B H B' H' ∧ B' D = none ∧ H' D = some (.lst acc) ∧ Das K B' acc out
theorem wipe_keep {σ : L2.St} {j : Nat} : ∀ {vs : List Nat}, j ∉ vs → (L2.wipe σ vs)[j]? = σ[j]?
  | [], _ => rfl
  | v :: vs, h => by
    rw [List.mem_cons, not_or] at h
    show ((L2.wipe σ vs).set v none)[j]? = _
    rw [List.getElem?_set_ne (Ne.symm h.1)]
    exact wipe_keep h.2
theorem eg_lcR1 {tl : TA} {i0 : Nat} {vs : List Nat} {N c c2 : Nat} {Pn : List PyData → Prop} (J : Nat → List PyData → Prop) {Pt : Nat → Bool → Prop} {Pe : Nat → PyData → Prop}
    (h : EGA K j tl ρ n Pn (m + N * c)) (hn : ∀ ds, Pn ds → ∃ t : Nat, ds = [.int t] ∧ t ≤ N) (hN : N ≤ 40000) (hi : i0 ∈ vs) (hj : j ∉ vs)
    (ht : ∀ (i k : Nat), i < N → EGT K j tt ((wipeD ρ vs).set i0 (some (.int (i : Int)))) (k + c) (Pt i) (k + c2))
    (he : ∀ (i k : Nat), i < N → EG K j te ((wipeD ρ vs).set i0 (some (.int (i : Int)))) (k + c2) (Pe i) k)
    (j0 : J 0 []) (j1 : ∀ i out d, i < N → out.length ≤ i → J i out → Pt i true → Pe i d → J (i + 1) (out ++ [d])) (j2 : ∀ i out, i < N → J i out → Pt i false → J (i + 1) out) :
    EG K j (tLc (iRng1 tl) (gName i0) tt te vs) ρ n (fun d => ∃ t out, t ≤ N ∧ Pn [.int (t : Nat)] ∧ d = .list out ∧ out.length ≤ t ∧ J t out) m := fun g σ B H s hg ga hs sd Q q =>
  h g σ B H s hg ga hs sd _ fun us ds B1 H1 l1 g1 d1 p1 => by
    obtain ⟨t, rfl, htN⟩ := hn ds p1
    cases d1 with
    | cons h1 h2 =>
      cases h1
      cases h2
      refine ⟨(t : Int), rfl, by omega, by omega, fun D hD => ?_⟩
      have et : ((t : Int)).toNat = t := Int.toNat_natCast t
      have hDg : D ≠ g := fun z => by
        rw [z] at hD
        exact g1.some hD
      have hg1 := l1.g hg ga.some
      rw [et]
      refine lc_range (lo := 0) (n := t) (fun i H' => ∃ out, Cg K g B1 H1 D out H' ∧ GenAt g (m + (N - i) * c) H' ∧ out.length ≤ i ∧ J i out) ⟨[], ⟨B1, [], ⟨fun a o _ e => Ex.new hD a o e, Ex.refl B1, l1.sub.trans (Ex.new hD), fun _ z _ => z⟩, Evl.fresh_back l1.sub hD, upd_same, .nil⟩, g1.ex (Ex.new hD), Nat.le_refl _, j0⟩
        (fun i H' hit ⟨out, ⟨B', acc, l, nD, eD, ho⟩, gi, hol, hJ⟩ => ?_) (fun H' ⟨out, ⟨B', acc, l, nD, eD, ho⟩, gi, hol, hJ⟩ => ?_)
      · have hiN : i < N := by omega
        have e0 : (0 : Int) + (i : Int) = (i : Int) := Int.zero_add _
        refine ⟨?_, ?_⟩
        · exact wipe_set vs σ i0 _ L2.wipe (fun _ => rfl) (fun _ _ _ => rfl) hi |>.trans (wipe_none vs)
        · rw [e0]
          have sd' : SD K B' ((L2.wipe σ vs).set i0 (some (.int (i : Int)))) ((wipeD ρ vs).set i0 (some (.int (i : Int)))) := (((sd.up l1.ek).up l.ek).wipe vs).put i0 (.int _)
          have nji : i0 ≠ j := fun z => hj (z ▸ hi)
          have hs' : ((L2.wipe σ vs).set i0 (some (.int (i : Int))))[j]? = some (some (.ref g)) := by
            rw [List.getElem?_set_ne nji, wipe_keep hj]
            exact hs
          have ef : m + (N - i) * c = (m + (N - (i + 1)) * c) + c := by
            have : N - i = (N - (i + 1)) + 1 := by omega
            rw [this, Nat.add_mul]
            omega
          have hgB : B' g = none := l.g hg1 g1.some
          rw [ef] at gi
          refine ht i _ hiN g _ B' H' l.sub hgB gi hs' sd' _ fun b B3 H3 l3 g3 pb => ?_
          have n3 : B3 D = none := l3.old D nD (fun z => by rw [eD] at z; cases z)
          have e3 := l3.ex D _ hDg eD
          have ll3 : LeG g B1 H1 B3 H3 := l.tr l3 gi.some
          cases b with
          | false => exact ⟨out, ⟨B3, acc, ll3, n3, e3, ho.ex l3.ek⟩, g3.less (by omega), by omega, j2 i out hiN hJ pb⟩
          | true =>
            show te _ H3 _
            refine he i _ hiN g _ B3 H3 l3.sub (l3.g hgB gi.some) g3 hs' (sd'.up l3.ek) _ fun v d B4 H4 l4 g4 d4 p4 => ?_
            have n4 : B4 D = none := l4.old D n3 (fun z => by rw [e3] at z; cases z)
            have e4 := l4.ex D _ hDg e3
            have ll4 : LeG g B1 H1 B4 H4 := ll3.tr l4 g3.some
            have hol2 : (out ++ [d]).length ≤ i + 1 := by
              rw [List.length_append, List.length_singleton]
              omega
            refine ⟨acc, e4, Evl.sz_lt (by rw [ho.len]; omega), out ++ [d], ⟨B4, acc ++ [v], ⟨fun a o na z => ?_, ll4.ek, fun a o z => ?_, ll4.old⟩, n4, upd_same, (ho.ex (l3.ek.trans l4.ek)).app (.cons d4 .nil)⟩, ?_, hol2, j1 i out d hiN hol hJ pb p4⟩
            · by_cases w : a = D
              · subst w
                rw [hD] at z
                cases z
              · rw [upd_ne w]
                exact ll4.ex a o na z
            · rw [upd_ne (ne_of_none z n4)]
              exact l4.sub a o z
            · obtain ⟨a, b, c3, z, r⟩ := g4
              exact ⟨a, b, c3, by rw [upd_ne (Ne.symm hDg)]; exact z, r⟩
      · have k : Ex B' (upd B' D (.lst acc)) := fun a o z => by
          rw [upd_ne (ne_of_none z nD)]
          exact z
        refine q (.ref D) (.list out) (upd B' D (.lst acc)) H' (l1.tr ⟨l.ex, l.ek.trans k, fun a o z => ?_, fun a z1 z2 => ?_⟩ g1.some) (gi.less (by omega)) (.lst upd_same (ho.ex k)) ⟨t, out, htN, p1, rfl, hol, hJ⟩
        · by_cases w : a = D
          · subst w
            rw [upd_same] at z
            cases z
            exact eD
          · rw [upd_ne w] at z
            exact l.sub a o z
        · rw [upd_ne (fun w => z2 (by rw [w]; exact hD))]
          exact l.old a z1 z2
end
end TD

set_option maxHeartbeats 4000000
/-! # G8: what is what, as plain functions of data -/
namespace TD
open PySem PySem.Spec PyProof.Rows L2
def isWhole (d : PyData) : Bool := isT "int" d && !isT "bool" d
def isCount : PyData → Bool
  | .int i => decide (0 ≤ i)
  | _ => false
def isTup (n : Int) : PyData → Bool
  | .tuple ds => decide ((ds.length : Int) = n)
  | _ => false
def fitsRoom (r : Int) : PyData → Bool
  | .int i => decide (0 ≤ i) && decide (i < r)
  | _ => false
def asc (r : Int) : Int → List PyData → Bool
  | _, [] => true
  | a, .int i :: ds => (decide (0 ≤ i) && decide (i < r)) && (decide (a < i) && asc r i ds)
  | _, _ :: _ => false
def fitsLights (r : Int) : PyData → Bool
  | .list ds => asc r (-1) ds
  | _ => false
def fitsPresses (r : Int) : PyData → Bool
  | .list ds => ds.all (fitsLights r)
  | _ => false
def isShift : PyData → Bool
  | .int i => decide (-1 ≤ i) && decide (i ≤ 1)
  | _ => false
def fitsDoor (r : Int) : PyData → Bool
  | .tuple [n, m, s] => fitsLights r n && (fitsRoom r m && isShift s)
  | _ => false
def fitsLevel2 : PyData → PyData → Bool
  | .int r, .list ds => decide (1 ≤ r) && ds.all (fitsDoor r)
  | _, _ => false
def fitsLevel : PyData → Bool
  | .tuple [a, b] => fitsLevel2 a b
  | _ => false
theorem whole_int {d : PyData} (h : isWhole d = true) : ∃ i, d = .int i := by
  cases d <;> first | exact ⟨_, rfl⟩ | (revert h; decide) | (revert h; unfold isWhole isT; simp)
/-- lists that are looked through item by item are at most so long -/
def Sm (d : PyData) : Prop := ∀ ds, (d = .list ds ∨ d = .tuple ds) → ds.length ≤ 30000
theorem asc_up {r r' : Int} (h : r ≤ r') : ∀ {a : Int} {ds : List PyData}, asc r a ds = true → asc r' a ds = true
  | _, [], _ => rfl
  | a, .int i :: ds, e => by
    have e' : ((decide (0 ≤ i) && decide (i < r)) && (decide (a < i) && asc r i ds)) = true := e
    simp only [Bool.and_eq_true, decide_eq_true_eq] at e'
    show ((decide (0 ≤ i) && decide (i < r')) && (decide (a < i) && asc r' i ds)) = true
    simp only [Bool.and_eq_true, decide_eq_true_eq]
    exact ⟨⟨e'.1.1, by omega⟩, e'.2.1, asc_up h e'.2.2⟩
theorem asc_snoc {r : Int} (h0 : 0 ≤ r) : ∀ {a : Int} {ds : List PyData}, a < r → asc r a ds = true → asc (r + 1) a (ds ++ [.int r]) = true
  | a, [], ha, _ => by
    show ((decide (0 ≤ r) && decide (r < r + 1)) && (decide (a < r) && true)) = true
    simp only [Bool.and_eq_true, decide_eq_true_eq]
    exact ⟨⟨h0, by omega⟩, ha, trivial⟩
  | a, .int i :: ds, ha, e => by
    have e' : ((decide (0 ≤ i) && decide (i < r)) && (decide (a < i) && asc r i ds)) = true := e
    simp only [Bool.and_eq_true, decide_eq_true_eq] at e'
    show ((decide (0 ≤ i) && decide (i < r + 1)) && (decide (a < i) && asc (r + 1) i (ds ++ [.int r]))) = true
    simp only [Bool.and_eq_true, decide_eq_true_eq]
    exact ⟨⟨e'.1.1, by omega⟩, e'.2.1, asc_snoc h0 e'.1.2 e'.2.2⟩
theorem asc_len {r : Int} : ∀ {a : Int} {ds : List PyData}, asc r a ds = true → ds ≠ [] → (ds.length : Int) ≤ r - a - 1
  | a, [], _, h => (h rfl).elim
  | a, .int i :: ds, e, _ => by
    have e' : ((decide (0 ≤ i) && decide (i < r)) && (decide (a < i) && asc r i ds)) = true := e
    simp only [Bool.and_eq_true, decide_eq_true_eq] at e'
    cases ds with
    | nil =>
      show (1 : Int) ≤ _
      omega
    | cons d ds =>
      have ih := asc_len e'.2.2 (by simp)
      have el : (((PyData.int i :: d :: ds).length : Nat) : Int) = ((d :: ds).length : Int) + 1 := by simp
      rw [el]
      omega
end TD

set_option maxHeartbeats 4000000
/-! # G9: data in order; all of a comprehension over a range; runs, endless presses, letters as plain functions of data -/
namespace TD
open PySem PySem.Spec PyProof.Rows L2
open PySem.W (alike alikeAll dataLt lt_data ge_data)
def rLtA (K : Fg) : R2 := fun x y H Q => ∃ d e, Da K H x d ∧ Da K H y e ∧ alike d e = true ∧ d ≠ .none ∧ min d.depth e.depth ≤ 60 ∧ Q (.bl (dataLt d e)) H
def rGeA (K : Fg) : R2 := fun x y H Q => ∃ d e, Da K H x d ∧ Da K H y e ∧ alike d e = true ∧ d ≠ .none ∧ min d.depth e.depth ≤ 60 ∧ Q (.bl (!dataLt d e)) H
section
variable {X : Cx}
theorem op_ltA (sm : ∃ mm, X.base.Ns sysModules mm) (hu : X.A.units + 64 < cLine) : OpR X (compareOp .Lt) (rLtA X.K) := by
  intro pins s σ H x y v u Q I rx ry h
  obtain ⟨d, e, hd, he, ha, hn, hm, q⟩ := h
  obtain ⟨as, r1, _⟩ := Da.reads sm I d x v hd rx
  obtain ⟨bs, r2, _⟩ := Da.reads sm I e y u he ry
  exact lt_data r1 r2 ha hn (by omega) ⟨.bl _, H, I, rfl, q⟩
theorem op_geA (sm : ∃ mm, X.base.Ns sysModules mm) (hu : X.A.units + 64 < cLine) : OpR X (compareOp .GtE) (rGeA X.K) := by
  intro pins s σ H x y v u Q I rx ry h
  obtain ⟨d, e, hd, he, ha, hn, hm, q⟩ := h
  obtain ⟨as, r1, _⟩ := Da.reads sm I d x v hd rx
  obtain ⟨bs, r2, _⟩ := Da.reads sm I e y u he ry
  exact ge_data r1 r2 ha hn (by omega) ⟨.bl _, H, I, rfl, q⟩
theorem op_ltAK {K : Fg} (hK : X.K = K) (sm : ∃ mm, X.base.Ns sysModules mm) (hu : X.A.units + 64 < cLine) : OpR X (compareOp .Lt) (rLtA K) := hK ▸ op_ltA sm hu
theorem op_geAK {K : Fg} (hK : X.K = K) (sm : ∃ mm, X.base.Ns sysModules mm) (hu : X.A.units + 64 < cLine) : OpR X (compareOp .GtE) (rGeA K) := hK ▸ op_geA sm hu
theorem ix_listK {K : Fg} (hK : X.K = K) : IxR X (rIxL K) := hK ▸ ix_list
theorem ix_tupK {K : Fg} (hK : X.K = K) : IxR X (rIxT K) := hK ▸ ix_tup
end
section
variable {K : Fg} {ρ : En} {te : TE} {x y : PyData}
theorem r_ltA (h : alike x y = true) (hn : x ≠ .none) (hm : min x.depth y.depth ≤ 60) : R2D K (rLtA K) x y (.bool (dataLt x y)) := fun v w B H s dx dy Q q =>
  ⟨x, y, dx.ex s, dy.ex s, h, hn, hm, q _ B H (Le.rfl' s) (.bl _)⟩
theorem r_geA (h : alike x y = true) (hn : x ≠ .none) (hm : min x.depth y.depth ≤ 60) : R2D K (rGeA K) x y (.bool (!dataLt x y)) := fun v w B H s dx dy Q q =>
  ⟨x, y, dx.ex s, dy.ex s, h, hn, hm, q _ B H (Le.rfl' s) (.bl _)⟩
def ofI (p : Nat → Bool) : PyData → PyData
  | .int i => .bool (p i.toNat)
  | _ => .none
theorem picked_rg (k : Nat) (p : Nat → Bool) : picked (rgD 0 k) (fun _ => true) (ofI p) = ((List.range k).map p).map PyData.bool := by
  rw [picked_all]
  unfold rgD
  rw [List.map_map, List.map_map]
  refine List.map_congr_left fun i _ => ?_
  show PyData.bool (p ((0 : Int) + (i : Int)).toNat) = PyData.bool (p i)
  rw [Int.zero_add, Int.toNat_natCast]
theorem mem_rg {k : Nat} {d : PyData} (h : d ∈ rgD 0 k) : ∃ i : Nat, i < k ∧ d = .int (i : Int) := by
  obtain ⟨i, hi, e⟩ := List.mem_map.mp h
  refine ⟨i, List.mem_range.mp hi, ?_⟩
  rw [← e, Int.zero_add]
/-- all([t for i in range(n)]) -/
theorem ed_allR1 {tl : TA} {j : Nat} {vs : List Nat} {n : Int} (p : Nat → Bool) (h : EA K tl ρ [.int n]) (hn : -40000 ≤ n ∧ n ≤ 40000) (hj : j ∈ vs)
    (he : ∀ i : Nat, i < n.toNat → ED K te ((wipeD ρ vs).set j (some (.int (i : Int)))) (.bool (p i))) :
    ED K (tCB (rAll K) (tCons (tLc (iRng1 tl) (gName j) tYes te vs) tNil)) ρ (.bool ((List.range n.toNat).all p)) := by
  have h1 := ed_lcR1 (te := te) (tt := tYes) (fun _ => true) (ofI p) h hn hj (fun _ _ => et_yes) (fun d m _ => by
    obtain ⟨i, hi, rfl⟩ := mem_rg m
    show ED K te _ (.bool (p (i : Int).toNat))
    rw [Int.toNat_natCast]
    exact he i hi)
  rw [picked_rg] at h1
  have e2 : (List.range n.toNat).all p = ((List.range n.toNat).map p).all id := by rw [List.all_map]; rfl
  rw [e2]
  exact ed_cb (ea_cons h1 ea_nil) rc_all
end
/-! ### runs, endless presses, letters -/
def fitsRun (r : Int) : PyData → Bool
  | .tuple [n, m] => fitsLights r n && isCount m
  | _ => false
def fitsRuns (r : Int) : PyData → Bool
  | .list ds => ds.all (fitsRun r)
  | _ => false
def notNil : PyData → Bool
  | .list [] => false
  | .list (_ :: _) => true
  | _ => false
def fitsEndless (r : Int) : PyData → Bool
  | .tuple [p, t] => fitsPresses r p && (fitsPresses r t && notNil t)
  | _ => false
def ups (ds : List PyData) : Bool := (List.range (ds.length - 1)).all fun i => dataLt (ds.getD i .none) (ds.getD (i + 1) .none)
def fitsLetters (r : Int) : PyData → Bool
  | .list ds => fitsPresses r (.list ds) && (!ds.isEmpty && ups ds)
  | _ => false
theorem asc_ints {r : Int} : ∀ {a : Int} {ds : List PyData}, asc r a ds = true → ∀ d ∈ ds, ∃ i : Int, d = .int i ∧ 0 ≤ i ∧ i < r
  | _, [], _, d, h => nomatch h
  | a, .int i :: ds, e, d, h => by
    have e' : ((decide (0 ≤ i) && decide (i < r)) && (decide (a < i) && asc r i ds)) = true := e
    simp only [Bool.and_eq_true, decide_eq_true_eq] at e'
    rcases List.mem_cons.mp h with rfl | h
    · exact ⟨i, rfl, e'.1⟩
    · exact asc_ints e'.2.2 d h
theorem alike_ints : ∀ {ds es : List PyData}, (∀ d ∈ ds, ∃ i : Int, d = .int i) → (∀ d ∈ es, ∃ i : Int, d = .int i) → alikeAll ds es = true
  | [], _, _, _ => by simp [alikeAll]
  | _ :: _, [], _, _ => by simp [alikeAll]
  | d :: ds, e :: es, h1, h2 => by
    obtain ⟨i, rfl⟩ := h1 d (List.mem_cons_self ..)
    obtain ⟨j, rfl⟩ := h2 e (List.mem_cons_self ..)
    rw [alikeAll, alike_ints (fun d h => h1 d (List.mem_cons_of_mem _ h)) (fun d h => h2 d (List.mem_cons_of_mem _ h))]
    rfl
theorem depth_ints : ∀ {ds : List PyData}, (∀ d ∈ ds, ∃ i : Int, d = .int i) → PyData.depthAll ds = 0
  | [], _ => by simp [PyData.depthAll]
  | d :: ds, h => by
    obtain ⟨i, rfl⟩ := h d (List.mem_cons_self ..)
    rw [PyData.depthAll, depth_ints fun d h' => h d (List.mem_cons_of_mem _ h')]
    rfl
theorem lights_ints {r : Int} {x : PyData} (h : fitsLights r x = true) : ∃ ds, x = .list ds ∧ ∀ d ∈ ds, ∃ i : Int, d = .int i := by
  cases x with
  | list ds => exact ⟨ds, rfl, fun d hd => let ⟨i, e, _⟩ := asc_ints h d hd; ⟨i, e⟩⟩
  | _ => exact nomatch (show false = true from h)
theorem lights_alike {r : Int} {x y : PyData} (h1 : fitsLights r x = true) (h2 : fitsLights r y = true) : alike x y = true ∧ x ≠ .none ∧ min x.depth y.depth ≤ 60 := by
  obtain ⟨ds, rfl, hd⟩ := lights_ints h1
  obtain ⟨es, rfl, he⟩ := lights_ints h2
  refine ⟨?_, (fun z => nomatch z), ?_⟩
  · rw [alike]
    exact alike_ints hd he
  · rw [PyData.depth, depth_ints hd]
    omega
end TD

set_option maxHeartbeats 4000000
/-! # G10: statements that are never reached; defs called by keywords alone -/
namespace TD
open PySem PySem.Spec PyProof.Rows L2
open Evl (Ex)
def tNo : TS := fun _ _ _ => False
theorem ps_no {X : Cx} {st : Stmt} : PS X st tNo := ⟨fun _ _ _ _ _ _ h => h.elim⟩
def swap2 {α : Type} : List α → List α
  | [a, b] => [b, a]
  | l => l
section
variable (P : Program) (w : World) (K : Fg) (mg : Str → Option Value) (base : Heap)
def Fk (x : Str) (ps ks : List Str) (k : Nat) (sp : Sp) (g : List Value → List Value) (gV : List V → List V) : Prop :=
  ∃ (f : Addr) (fd : FuncData), mg x = some (.ref f) ∧ PySem.W.keepIn K (.ref f) = true ∧ KAll fd ps ks g gV ∧ FnG P w K mg base CX0 k f fd ps sp
end
section
variable {P : Program} {w : World} {K : Fg} {mg : Str → Option Value} {base : Heap} {x : Str} {ps ks N : List Str} {k : Nat} {st : Stmt}
theorem fc_mk2 {R : List PyData → PyData → Prop} {g : List Value → List Value} {gV : List V → List V} (a : At K mg x st) (S : FnScope N ps (defScope st))
    (hb : ∀ (kV doc pm : Value) (an : Option Addr) (cdv ct : Value) (us : List Value), us.length = ps.length → bindArgs (PySem.W.fnOf x x (defArgs st) (defBody st) (defScope st) .none kV doc pm an cdv ct) ⟨us, []⟩ = pure (ps.zip us))
    (hk : ∀ (kV doc pm : Value) (an : Option Addr) (cdv ct : Value) (ws : List Value), ws.length = ks.length → bindArgs (PySem.W.fnOf x x (defArgs st) (defBody st) (defScope st) .none kV doc pm an cdv ct) ⟨[], ks.zip ws⟩ = pure (ps.zip (g ws)))
    (rel : ∀ {zs : List V} {ws : List Value}, zs.length = ks.length → Vals zs ws → Vals (gV zs) (g ws))
    (hl : ∀ ds d, R ds d → ds.length = ps.length)
    (body : ∀ (f : Addr) (cdv : Value) (A : Around) (outer : List Env) (s : Shared) (H : Hp) (E : XK), A.guards = some [] → Room k (A.deeper (envOfC x (defScope st) s.heap.objs.size f cdv)) →
      ∃ t, PSs (cxOf CX0 P w K mg base N x (defScope st) f cdv A outer s H E).nox (defBody st) t ∧ ∀ ds d, R ds d → XR K t (enOf N ds) d) :
    Fc P w K mg base x ps (k + 1) (SpR K R) ∧ Fk P w K mg base x ps ks (k + 1) (SpR K R) g gV := by
  obtain ⟨f, fd, F, hm⟩ := a
  have G : FnG P w K mg base CX0 (k + 1) f fd ps (SpR K R) := by
    refine fnG F S (sp_len hl) ?_
    intro cdv A outer s H vs Q E gu hr ⟨B, ds, d, sx, hd, r, q⟩
    obtain ⟨t, ht, hx⟩ := body f cdv A outer s H E gu hr
    refine ⟨t, ht.nox, ?_⟩
    have sd := sd_start (N := N) hd
    rcases hx ds d r with h | ⟨rfl, ρ', h⟩
    · exact h _ B H _ sx sd q
    · exact h _ B H _ sx sd fun σ' B' H' l _ => q _ B' H' l .non
  refine ⟨⟨f, fd, hm, F.kp, F.binds hb, G⟩, ⟨f, fd, hm, F.kp, ⟨fun ws hw => ?_, rel⟩, G⟩⟩
  obtain ⟨oc, od, kV, doc, pm, an, cdv, ct, osl, rfl, lk, hcd⟩ := F.ex
  exact hk kV doc pm an cdv ct ws hw
theorem swap_rel {zs : List V} {ws : List Value} (h : zs.length = 2) (r : Vals zs ws) : Vals (swap2 zs) (swap2 ws) := by
  match zs, ws, h, r with
  | [a, b], _, _, r =>
    obtain ⟨u, v, rfl, r1, r2⟩ := vals2 r
    exact .cons r2 (.cons r1 .nil)
theorem das_swap {B : Hp} {vs : List V} {x y : PyData} (h : Das K B vs [x, y]) : Das K B (swap2 vs) [y, x] := by
  obtain ⟨v, r, rfl, a, t⟩ := h.inv1
  obtain ⟨u, r2, rfl, a2, t2⟩ := t.inv1
  cases t2
  exact .cons a2 (.cons a .nil)
end
section
variable {X : Cx} {x : Str} {ps ks : List Str} {k : Nat} {sp : Sp} {p pos : Pos} {tk : TA} {kws : List Keyword} {g : List Value → List Value} {gV : List V → List V}
theorem pe_fk (c : Fk X.prog X.w X.K X.mg X.base x ps ks k sp g gV) (gu : X.A.guards = some []) (hr : Room k X.A) (hg : Gl X x) (hkw : PK X kws tk)
    (d1 : (x == ("__debug__" : Str)) = false := by decide)
    (d2 : (backToKw pos (keywordEach kws X.env)).all (·.1.isSome) = true := by rfl)
    (d3 : (backToKw pos (keywordEach kws X.env)).filterMap (·.1) = ks := by rfl)
    (d4 : ((backTo pos (starEach [] X.env)).any (·.1) || (backToKw pos (keywordEach kws X.env)).any (·.1.isNone)) = false := by rfl) :
    PE X (.Call (.Name x p) [] kws pos) (tCallKw ks.length sp gV E0 tk) := by
  obtain ⟨f, fd, hm, kp, hb, F⟩ := c
  exact pe_gk F gu hr hg hm kp hb pass0 hkw d1 d2 d3 d4
end
end TD

set_option maxHeartbeats 4000000
/-! # G11: set(a list of ints); lists held against the empty list -/
namespace TD
open PySem PySem.Spec PyProof.Rows L2
open Evl (Ex)
section
variable {P : Program} {w : World} {A : Around} {E : Value → Shared → Prop} {s : Shared}
abbrev nob (w : World) : Obj := { cls := .type "set", dict := none, data := .set #[] 0 (.fresh 0 0 (!w.params.followText "set-order")) }
set_option maxRecDepth 100000 in
set_option maxHeartbeats 3200000 in
theorem set_of_list {l : Addr} {items : Array Value} (ns : List Int) {Q : Value → Shared → Prop} (hh : A.handled = none) (hl : s.heap.IsList l items) (hit : IntsAre items.toList ns) (hb : ns.length + 1 < scanBound)
    (done : ∀ (h' : Heap) (tk c : Nat), SetR w h' s.heap.objs.size (fun j => decide (j ∈ ns)) c → c ≤ ns.length → (∀ b o, s.heap.get? b = some o → h'.get? b = some o) → Q (.ref s.heap.objs.size) { s with heap := h', toks := tk }) :
    wpAny (model P w) A (call (.type "set") [.ref l]) Q E s := by
  have isz : items.size = ns.length := by have z := IntsAre.length hit; rwa [Array.length_toList] at z
  obtain ⟨cc, tt, mm⟩ := F.called_set.mro; have x1 := F.called_set.made; have x2 := F.called_set.sub
  refine wpAny_call (codeAny_of_tree ?_); show wpAny _ _ (callAny (.type "set") _) _ _ _
  refine wpAny_pure ⟨Code.quiet_builtin _ (by decide +kernel), codeAny_builtin F.entry_type_call ?_⟩; rw [Around.under_plain (weight_type_call_type "set" [.ref l] []) rfl]
  have x3 := F.called_set.notType; have x4 := F.called_set.canCreate; have x5 := F.typeCall_set_1 (.ref l)
  repeat (any_goals (first | assumption | wp_step))
  refine codeAny_mono (code_set_led1 (.ref l) (E := E) (Q₁ := fun ob t => ob = .ref s.heap.objs.size ∧ t = { s with heap := s.heap.push (nob w) }) ⟨rfl, rfl⟩) fun r t hr => ?_
  match r, hr with
  | .error e, hr => exact hr
  | .ok .next, hr => exact hr.elim
  | .ok .brk, hr => exact hr.elim
  | .ok .cont, hr => exact hr.elim
  | .ok (.ret obj), hr =>
    obtain ⟨rfl, rfl⟩ := hr
    have hS : (s.heap.push (nob w)).get? s.heap.objs.size = some (nob w) := Heap.get?_push_size _ rfl
    have hT : Shared.TypeIs { s with heap := s.heap.push (nob w) } (.ref s.heap.objs.size) "set" := ⟨_, hS, rfl⟩
    have x6 := F.called_set.init.lookup; have x7 := F.called_set.init.bind (.ref s.heap.objs.size)
    repeat (any_goals (first | assumption | wp_step))
    refine codeAny_mono (codeAny_call_builtin (R := wants (fun r t => r = .none ∧ ∃ h' tk c, t = { s with heap := h', toks := tk } ∧ SetR w h' s.heap.objs.size (fun j => decide (j ∈ ns)) c ∧ c ≤ ns.length ∧ (∀ b o, s.heap.get? b = some o → h'.get? b = some o)) E)
      F.called_set.init.plain F.entry_set_init (check_set_init_1 hT ?_)) fun r2 t2 hr2 => ?_
    · obtain ⟨⟨ocls, odict, odata, oslots⟩, hol, hcl, nl, hdl⟩ := hl
      simp only at hcl hdl; subst hcl; subst hdl
      have hol' : (s.heap.push (nob w)).get? l = some { cls := .type "list", dict := odict, data := .seq items nl, slots := oslots } := Heap.get?_push_of_some _ hol
      have y1 := F.sub_list_set; have y2 := F.sub_list_frozenset; have y3 : (Value.type "list" == Value.type "dict") = false := by decide
      have hl1 : (s.heap.push (nob w)).IsList l items := ⟨_, hol', rfl, nl, rfl⟩
      unfold Builtin.«set.__init__» noKeywords Builtin.Frozenset.updateFrom; generalize hPI : pyIter = PI
      wp_walk
      subst hPI
      refine wpAny_pyIter_list hl1 ?_; refine wpAny_bind (wpAny_runValue ?_)
      have hlS : l < s.heap.objs.size := Heap.lt_size hol
      have hh3 : A.in1.in1.in1.handled = none := by simp [hh]
      have sz1 : (s.heap.push (nob w)).objs.size = s.heap.objs.size + 1 := Heap.size_push ..
      have hneI : l ≠ (s.heap.push (nob w)).objs.size := by rw [sz1]; exact Nat.ne_of_lt (Nat.lt_succ_of_lt hlS)
      have hSf : s.heap.objs.size ∉ [(s.heap.push (nob w)).objs.size, l] := by
        rw [sz1]; intro z
        rcases List.mem_cons.mp z with z | z
        · exact Nat.ne_of_lt (Nat.lt_succ_self _) z
        · exact Nat.ne_of_gt hlS (List.mem_singleton.mp z)
      have hval : ∀ (i : Nat) (v : Value), items[i]? = some v → ∃ k t, ns[i]? = some k ∧ v = .int k t := fun i v hv => by
        have hi : i < ns.length := by rw [← isz]; obtain ⟨z, _⟩ := Array.getElem?_eq_some_iff.mp hv; exact z
        obtain ⟨t, e⟩ := PyProof.Rows.IntsAre.int_at hit i v (by rw [Array.getElem?_toList]; exact hv)
        refine ⟨ns[i], t, List.getElem?_eq_getElem hi, ?_⟩; rw [e, List.getD_eq_getElem?_getD, List.getElem?_eq_getElem hi] <;> rfl
      refine set_update_ints ((Walks.list hh3 _ l hneI items).toS) s.heap.objs.size hSf ns isz hb hval (items.size - 0) 0 _ (by omega) (Nat.zero_le _) ⟨⟨_, Heap.get?_push_size _ rfl, rfl, rfl⟩, (hl1.push _)⟩ ?z0 ?zR
      case z0 =>
        have hget : ((s.heap.push (nob w)).push { cls := .type "list_iterator", data := .fields #[.ref l, .int 0 0] }).get? s.heap.objs.size = some (nob w) := Heap.get?_push_of_some _ hS
        exact ⟨0, Nat.le_refl 0, setR_new_at hget⟩
      case zR =>
        intro s' c' hm hc' hS'
        obtain ⟨h', g2, d', tk', os'⟩ := s'
        have eg : g2 = s.gens := hm.gens; have ed : d' = s.drawn := hm.drawn; have eo : os' = s.os := hm.os
        subst eg; subst ed; subst eo
        show wpAny _ _ _ _ _ _; refine wpAny_pure ?_; show wpAny _ _ (ret Value.none) _ _ _
        rw [isz] at hc'
        refine wpAny_pure ⟨rfl, h', tk', c', rfl, hS', hc', fun b o e => ?_⟩
        have hb0 : b < s.heap.objs.size := Heap.lt_size e
        refine hm.heap b o (fun z => ?_) (Heap.get?_push_of_some _ (Heap.get?_push_of_some _ e))
        rcases List.mem_cons.mp z with z | z
        · exact Nat.ne_of_lt hb0 z
        · rw [List.mem_singleton, sz1] at z; exact Nat.ne_of_lt (Nat.lt_succ_of_lt hb0) z
    · match r2, hr2 with
      | .error e, hr2 => exact hr2
      | .ok .next, hr2 => exact hr2.elim
      | .ok .brk, hr2 => exact hr2.elim
      | .ok .cont, hr2 => exact hr2.elim
      | .ok (.ret r), hr2 =>
        obtain ⟨rfl, h', tk, c', rfl, hS', hc', hk'⟩ := hr2
        repeat (any_goals (first | assumption | wp_step))
        exact done _ _ _ hS' hc' hk'
end
end TD

set_option maxHeartbeats 4000000
/-! # G12: set of ints as a rule; lists held against the empty list; ints in order, each once -/
namespace TD
open PySem PySem.Spec PyProof.Rows L2
open Evl (Ex)
section
/-- set(l), l a list of ints -/
def rSetI (K : Fg) (w : World) : List V → Hp → VK → Prop := fun xs H Q => ∃ (l : Addr) (ns : List Int), xs = [.ref l] ∧ SqL K H l (ns.map V.int) ∧ ns.length < 60 ∧ ∀ p n, H p = none → n ≤ ns.length → Q (.ref p) (upd H p (SetO w p (fun j => decide (j ∈ ns)) n))
theorem call_setI {X : Cx} (hc : X.calm = true) : CallR X (.type "set") (rSetI X.K X.w) := by
  intro pins s σ H xs us Q I r h
  obtain ⟨l, ns, rfl, hS, h60, q⟩ := h
  obtain ⟨u, rfl, ru⟩ := vals1 r
  cases (show u = Value.ref l from ru)
  obtain ⟨its, rv, pl, hz⟩ := I.list hS
  refine set_of_list ns (I.ok.hd hc) pl.isList (by simpa using rv.ints) (by unfold scanBound; omega) fun h' tk c hR hcl hk => ?_
  have J := I.laid (a := s.heap.objs.size) (h' := h') (t' := tk) (fun b u e => hk b u e) (Nat.le_refl _) (setO_new hR)
  exact ⟨.ref _, upd H s.heap.objs.size (SetO X.w s.heap.objs.size (fun j => decide (j ∈ ns)) c), J, rfl, q _ c (I.hok.fresh (Nat.le_refl _)) hcl⟩
/-! ### against the empty list -/
def rNeN (K : Fg) : R2 := fun x y H Q => ∃ a b xs, x = .ref a ∧ y = .ref b ∧ SqL K H a xs ∧ SqL K H b [] ∧ Q (.bl (!xs.isEmpty)) H
def rEqN (K : Fg) : R2 := fun x y H Q => ∃ a b xs, x = .ref a ∧ y = .ref b ∧ SqL K H a xs ∧ SqL K H b [] ∧ Q (.bl xs.isEmpty) H
theorem op_neN {X : Cx} (hu : X.A.units + 64 < cLine) : OpR X (compareOp .NotEq) (rNeN X.K) := by
  intro pins s σ H x y v u Q I rx ry h
  obtain ⟨a, b, xs, rfl, rfl, ha, hb, q⟩ := h
  cases (show v = Value.ref a from rx)
  cases (show u = Value.ref b from ry)
  obtain ⟨us, r1, p1, _⟩ := I.list ha
  obtain ⟨ws, r2, p2, _⟩ := I.list hb
  cases r2
  cases xs with
  | nil =>
    cases r1
    exact SeqAt.RcNeAt.lists (A := X.A) (e := fun _ => true) p1.isList p2.isList rfl (by omega) (fun j h1 _ => absurd h1 (by simp)) X.prog X.w _ _ ⟨.bl false, H, I, rfl, q⟩
  | cons x xs =>
    cases r1
    exact SeqAt.RcNeAt.lists_lengths (A := X.A) p1.isList p2.isList (by simp) (by omega) X.prog X.w _ _ ⟨.bl true, H, I, rfl, q⟩
theorem op_eqN {X : Cx} (hu : X.A.units + 64 < cLine) : OpR X (compareOp .Eq) (rEqN X.K) := by
  intro pins s σ H x y v u Q I rx ry h
  obtain ⟨a, b, xs, rfl, rfl, ha, hb, q⟩ := h
  cases (show v = Value.ref a from rx)
  cases (show u = Value.ref b from ry)
  obtain ⟨us, r1, p1, _⟩ := I.list ha
  obtain ⟨ws, r2, p2, _⟩ := I.list hb
  cases r2
  cases xs with
  | nil =>
    cases r1
    exact SeqAt.RcAt.lists (A := X.A) (e := fun _ => true) p1.isList p2.isList rfl (by omega) (fun j h1 _ => absurd h1 (by simp)) X.prog X.w _ _ ⟨.bl true, H, I, rfl, q⟩
  | cons x xs =>
    cases r1
    exact SeqAt.RcAt.lists_lengths (A := X.A) p1.isList p2.isList (by simp) (by omega) X.prog X.w _ _ ⟨.bl false, H, I, rfl, q⟩
section
variable {K : Fg} {ds : List PyData}
theorem r_neN : R2D K (rNeN K) (.list ds) (.list []) (.bool (!ds.isEmpty)) := fun v w B H s h1 h2 Q q => by
  cases h1 with
  | @lst a xs _ ha hs =>
    cases h2 with
    | @lst b ys _ hb ht =>
      cases ht
      refine ⟨a, b, xs, rfl, rfl, SqL.of (s _ _ ha), SqL.of (s _ _ hb), ?_⟩
      have e : xs.isEmpty = ds.isEmpty := by
        cases hs <;> rfl
      rw [e]
      exact q _ B H (Le.rfl' s) (.bl _)
theorem r_eqN : R2D K (rEqN K) (.list ds) (.list []) (.bool ds.isEmpty) := fun v w B H s h1 h2 Q q => by
  cases h1 with
  | @lst a xs _ ha hs =>
    cases h2 with
    | @lst b ys _ hb ht =>
      cases ht
      refine ⟨a, b, xs, rfl, rfl, SqL.of (s _ _ ha), SqL.of (s _ _ hb), ?_⟩
      have e : xs.isEmpty = ds.isEmpty := by
        cases hs <;> rfl
      rw [e]
      exact q _ B H (Le.rfl' s) (.bl _)
/-! ### the members in order, each once -/
def put (i : Int) : List Int → List Int
  | [] => [i]
  | j :: l => if i < j then i :: j :: l else if i = j then j :: l else j :: put i l
def canon (ns : List Int) : List Int := ns.foldr put []
theorem put_mem (i k : Int) : ∀ l : List Int, k ∈ put i l ↔ k = i ∨ k ∈ l
  | [] => by simp [put]
  | j :: l => by
    unfold put
    split
    · simp
    · split
      · rename_i e
        subst e
        simp
      · rw [List.mem_cons, put_mem i k l, List.mem_cons]
        constructor
        · rintro (h | h | h)
          · exact .inr (.inl h)
          · exact .inl h
          · exact .inr (.inr h)
        · rintro (h | h | h)
          · exact .inr (.inl h)
          · exact .inl h
          · exact .inr (.inr h)
theorem put_pw (i : Int) : ∀ l : List Int, l.Pairwise (· < ·) → (put i l).Pairwise (· < ·)
  | [], _ => by simp [put]
  | j :: l, h => by
    rw [List.pairwise_cons] at h
    unfold put
    split
    · rename_i hij
      rw [List.pairwise_cons, List.pairwise_cons]
      refine ⟨fun k hk => ?_, h⟩
      rcases List.mem_cons.mp hk with e | e
      · omega
      · have := h.1 k e
        omega
    · split
      · rw [List.pairwise_cons]
        exact h
      · rw [List.pairwise_cons]
        refine ⟨fun k hk => ?_, put_pw i l h.2⟩
        rcases (put_mem i k l).mp hk with e | e
        · omega
        · exact h.1 k e
theorem canon_mem (k : Int) : ∀ ns : List Int, k ∈ canon ns ↔ k ∈ ns
  | [] => Iff.rfl
  | i :: ns => by
    show k ∈ put i (canon ns) ↔ _
    rw [put_mem, canon_mem k ns, List.mem_cons]
theorem canon_pw : ∀ ns : List Int, (canon ns).Pairwise (· < ·)
  | [] => .nil
  | i :: ns => put_pw i _ (canon_pw ns)
theorem pw_eq : ∀ {l m : List Int}, l.Pairwise (· < ·) → m.Pairwise (· < ·) → (∀ k, k ∈ l ↔ k ∈ m) → l = m
  | [], [], _, _, _ => rfl
  | [], j :: m, _, _, h => nomatch (h j).mpr (List.mem_cons_self ..)
  | i :: l, [], _, _, h => nomatch (h i).mp (List.mem_cons_self ..)
  | i :: l, j :: m, h1, h2, h => by
    rw [List.pairwise_cons] at h1 h2
    have e : i = j := by
      rcases List.mem_cons.mp ((h i).mp (List.mem_cons_self ..)) with z | z
      · exact z
      · rcases List.mem_cons.mp ((h j).mpr (List.mem_cons_self ..)) with y | y
        · exact y.symm
        · have a := h2.1 i z
          have b := h1.1 j y
          omega
    subst e
    rw [pw_eq h1.2 h2.2 fun k => ?_]
    constructor
    · intro hk
      rcases List.mem_cons.mp ((h k).mp (List.mem_cons_of_mem _ hk)) with z | z
      · have := h1.1 k hk
        omega
      · exact z
    · intro hk
      rcases List.mem_cons.mp ((h k).mpr (List.mem_cons_of_mem _ hk)) with z | z
      · have := h2.1 k hk
        omega
      · exact z
theorem canon_self {ns : List Int} : ns = canon ns ↔ ns.Pairwise (· < ·) := ⟨fun e => e ▸ canon_pw ns, fun h => pw_eq h (canon_pw ns) fun k => (canon_mem k ns).symm⟩
theorem das_ints {K : Fg} {B : Hp} : ∀ {ns : List Int} {xs : List V}, Das K B xs (ns.map PyData.int) → xs = ns.map V.int
  | [], _, h => by
    cases h
    rfl
  | n :: ns, _, h => by
    obtain ⟨v, r, rfl, dv, dr⟩ := Das.inv1 (x := .int n) h
    cases dv
    rw [das_ints dr]
    rfl
/-- sorted(set(l)) -/
theorem ed_sortedSet {K : Fg} {w : World} {ρ : En} {te : TE} {ns : List Int} (h : ED K te ρ (.list (ns.map PyData.int))) (hl : ns.length < 60) : ED K (tCB (rSortedSet w) (tCons (tCB (rSetI K w) (tCons te tNil)) tNil)) ρ (.list ((canon ns).map PyData.int)) := fun σ B H s sd Q q =>
  h σ B H s sd _ fun v B1 H1 l1 d1 => by
    cases d1 with
    | @lst a xs _ ha hs =>
      have exs : xs = ns.map V.int := das_ints hs
      subst exs
      refine ⟨a, ns, rfl, SqL.of (l1.sub _ _ ha), hl, fun p n hp hn => ⟨p, _, n, rfl, upd_same, by omega, fun ms t hpw hm hlen ht => ?_⟩⟩
      have e : ms = canon ns := pw_eq hpw (canon_pw ns) fun k => (hm k).trans (by rw [canon_mem]; exact decide_eq_true_iff)
      subst e
      have l2 := Le.new (o := SetO w p (fun j => decide (j ∈ ns)) n) l1.sub hp
      have l3 := Le.new (o := .lst ((canon ns).map V.int)) l2.sub ht
      refine q _ _ _ ((l1.tr l2).tr l3) (.lst upd_same ?_)
      have go : ∀ (B : Hp) (ms : List Int), Das K B (ms.map V.int) (ms.map PyData.int) := fun B ms => by
        induction ms with
        | nil => exact .nil
        | cons m ms ih => exact .cons (.int m) ih
      exact go _ _
end
end
end TD

set_option maxHeartbeats 4000000
/-! # G13: the law's own kinds and the program's: the same functions of data -/
namespace TD
open PySem PySem.Spec PyProof.Rows L2
open Evl (Ex)
open PySem.W (alike alikeAll dataLt)
/-! ### sizes: no list or tuple in it is longer than 50 -/
mutual
def szOk : PyData → Bool
  | .list ds => decide (ds.length ≤ 50) && szAll ds
  | .tuple ds => decide (ds.length ≤ 50) && szAll ds
  | _ => true
def szAll : List PyData → Bool
  | [] => true
  | d :: ds => szOk d && szAll ds
end
theorem szAll_mem : ∀ {ds : List PyData}, szAll ds = true → ∀ d ∈ ds, szOk d = true
  | [], _, d, h => nomatch h
  | e :: ds, h, d, m => by
    rw [szAll, Bool.and_eq_true] at h
    rcases List.mem_cons.mp m with z | z
    · exact z ▸ h.1
    · exact szAll_mem h.2 d z
theorem sz_list {ds : List PyData} (h : szOk (.list ds) = true) : ds.length ≤ 50 ∧ ∀ d ∈ ds, szOk d = true := by
  rw [szOk, Bool.and_eq_true] at h
  exact ⟨of_decide_eq_true h.1, szAll_mem h.2⟩
theorem sz_tup {ds : List PyData} (h : szOk (.tuple ds) = true) : ds.length ≤ 50 ∧ ∀ d ∈ ds, szOk d = true := by
  rw [szOk, Bool.and_eq_true] at h
  exact ⟨of_decide_eq_true h.1, szAll_mem h.2⟩
theorem sz_Sm {d : PyData} (h : szOk d = true) : Sm d := by
  intro ds e
  rcases e with rfl | rfl
  · exact Nat.le_trans (sz_list h).1 (by decide)
  · exact Nat.le_trans (sz_tup h).1 (by decide)
/-! ### lists of ints -/
def intsD (ns : List Int) : List PyData := ns.map PyData.int
theorem eqv_ints : ∀ ns ms : List Int, PyData.eqvAll (intsD ns) (intsD ms) = decide (ns = ms)
  | [], [] => by simp [intsD, PyData.eqvAll]
  | [], m :: ms => by simp [intsD, PyData.eqvAll]
  | n :: ns, [] => by simp [intsD, PyData.eqvAll]
  | n :: ns, m :: ms => by
    show PyData.eqvAll (.int n :: intsD ns) (.int m :: intsD ms) = _
    rw [PyData.eqvAll, eqv_ints ns ms, PyData.eqv]
    by_cases h : n = m
    · subst h
      simp
    · simp [h]
theorem depth_intsD (ns : List Int) : PyData.depthAll (intsD ns) = 0 := depth_ints fun d hd => let ⟨i, _, e⟩ := List.mem_map.mp hd; ⟨i, e.symm⟩
theorem lay_ints : ∀ ns : List Int, PyData.canLayAll0 (intsD ns) = true
  | [] => by simp [intsD, PyData.canLayAll0]
  | n :: ns => by
    show PyData.canLayAll0 (.int n :: intsD ns) = true
    rw [PyData.canLayAll0, lay_ints ns]
    rfl
theorem sh_ints (ns : List Int) : SeqAt.shaped (.list (intsD ns)) = true := by
  unfold SeqAt.shaped
  rw [PyData.canLay0, lay_ints, PyData.depth, depth_intsD]
  rfl
theorem all_ints {r : Int} : ∀ {ds : List PyData}, (∀ d ∈ ds, fitsRoom r d = true) → ∃ ns : List Int, ds = intsD ns ∧ ∀ i ∈ ns, 0 ≤ i ∧ i < r
  | [], _ => ⟨[], rfl, fun i h => nomatch h⟩
  | d :: ds, h => by
    obtain ⟨ns, rfl, hn⟩ := all_ints fun e he => h e (List.mem_cons_of_mem _ he)
    have hd := h d (List.mem_cons_self ..)
    cases d with
    | int i =>
      have hd' : (decide (0 ≤ i) && decide (i < r)) = true := hd
      simp only [Bool.and_eq_true, decide_eq_true_eq] at hd'
      refine ⟨i :: ns, rfl, fun j hj => ?_⟩
      rcases List.mem_cons.mp hj with e | e
      · exact e ▸ hd'
      · exact hn j e
    | _ => exact nomatch (show false = true from hd)
theorem asc_pw {r : Int} : ∀ {a : Int} {ns : List Int}, (∀ i ∈ ns, 0 ≤ i ∧ i < r) → (asc r a (intsD ns) = true ↔ (∀ i ∈ ns, a < i) ∧ ns.Pairwise (· < ·))
  | a, [], _ => ⟨fun _ => ⟨fun i h => (nomatch h), .nil⟩, fun _ => rfl⟩
  | a, n :: ns, h => by
    have ih := asc_pw (a := n) (ns := ns) fun i hi => h i (List.mem_cons_of_mem _ hi)
    obtain ⟨h1, h2⟩ := h n (List.mem_cons_self ..)
    show ((decide (0 ≤ n) && decide (n < r)) && (decide (a < n) && asc r n (intsD ns))) = true ↔ _
    simp only [Bool.and_eq_true, decide_eq_true_eq, List.pairwise_cons]
    rw [ih]
    constructor
    · rintro ⟨_, h3, h4, h5⟩
      refine ⟨fun i hi => ?_, h4, h5⟩
      rcases List.mem_cons.mp hi with e | e
      · omega
      · have := h4 i e
        omega
    · rintro ⟨h3, h4, h5⟩
      exact ⟨⟨h1, h2⟩, h3 n (List.mem_cons_self ..), h4, h5⟩
/-- the law's word of lights, the program's -/
theorem lights_eq {r : Int} {ns : List Int} (h : ∀ i ∈ ns, 0 ≤ i ∧ i < r) : PyData.eqv (.list (intsD ns)) (.list (intsD (canon ns))) = fitsLights r (.list (intsD ns)) := by
  rw [PyData.eqv, eqv_ints]
  show _ = asc r (-1) (intsD ns)
  have k := asc_pw (a := -1) h
  by_cases p : ns.Pairwise (· < ·)
  · rw [decide_eq_true (canon_self.mpr p), k.mpr ⟨fun i hi => by have := (h i hi).1; omega, p⟩]
  · rw [decide_eq_false (fun e => p (canon_self.mp e))]
    symm
    rw [Bool.eq_false_iff]
    exact fun e => p (k.mp e).2
theorem lights_rooms {r : Int} {ds : List PyData} (h : fitsLights r (.list ds) = true) : ∀ d ∈ ds, fitsRoom r d = true := fun d hd => by
  obtain ⟨i, rfl, h1, h2⟩ := asc_ints h d hd
  show (decide (0 ≤ i) && decide (i < r)) = true
  rw [decide_eq_true h1, decide_eq_true h2]
  rfl
/-! ### what is left of a list by a test -/
def offs (f : PyData → Bool) (ds : List PyData) : List PyData := picked ds (fun d => !f d) id
theorem offs_nil {f : PyData → Bool} {ds : List PyData} : (offs f ds).isEmpty = ds.all f := by
  unfold offs picked
  rw [List.map_id]
  induction ds with
  | nil => rfl
  | cons d ds ih =>
    rw [List.filter_cons, List.all_cons]
    cases h : f d with
    | true => simpa [h] using ih
    | false => simp [h]
end TD

set_option maxHeartbeats 4000000
/-! # G14: defs that draw and hand back what they made -/
namespace TD
open PySem PySem.Spec PyProof.Rows L2
open Evl (Ex)
/-- a body that draws and returns -/
def RG (K : Fg) (j : Nat) (t : TS) (ρ : En) (n : Nat) (P : PyData → Prop) (m : Nat) : Prop := ∀ g σ B H (D : Ends), Ex B H → B g = none → GenAt g n H → σ[j]? = some (some (.ref g)) → SD K B σ ρ →
  (∀ v d B' H', LeG g B H B' H' → GenAt g m H' → Da K B' v d → P d → D.rt v H') → t D σ H
theorem rg_ret {K : Fg} {j : Nat} {te : TE} {ρ : En} {n m : Nat} {P : PyData → Prop} (h : EG K j te ρ n P m) : RG K j (tRet te) ρ n P m := fun g σ B H D s hg ga hs sd q => h g σ B H s hg ga hs sd _ q
/-- the generator in the first slot, data in the next ones -/
def enG (N : List Str) (ds : List PyData) : En := none :: (ds.map some ++ List.replicate (N.length - (ds.length + 1)) none)
theorem sd_startG {K : Fg} {B : Hp} {N : List Str} {g : Addr} {ws : List V} {ds : List PyData} (h : Das K B ws ds) : SD K B (L2.start N (.ref g :: ws)) (enG N ds) := by
  have hl := h.len
  refine ⟨by unfold L2.start enG; simp [hl], fun i d e => ?_⟩
  unfold enG at e
  match i, e with
  | 0, e => simp at e
  | i + 1, e =>
    rw [List.getElem?_cons_succ] at e
    by_cases hi : i < ds.length
    · rw [List.getElem?_append_left (by rw [List.length_map]; exact hi), List.getElem?_map] at e
      obtain ⟨d2, e1, e2⟩ := Option.map_eq_some_iff.mp e
      cases e2
      obtain ⟨v, hv, hd⟩ := h.getD e1
      refine ⟨v, ?_, hd⟩
      unfold L2.start
      rw [List.getElem?_append_left (by rw [List.length_map, List.length_cons, hl]; omega), List.getElem?_map, List.getElem?_cons_succ, hv]
      rfl
    · rw [List.getElem?_append_right (by rw [List.length_map]; omega), List.getElem?_replicate] at e
      split at e <;> cases e
section
variable {P : Program} {w : World} {K : Fg} {mg : Str → Option Value} {base : Heap} {x : Str} {ps N : List Str} {k c : Nat} {st : Stmt}
theorem fg_mk {Pre : List PyData → Prop} {R : List PyData → PyData → Prop} (a : At K mg x st) (S : FnScope N ps (defScope st))
    (hb : ∀ (kV doc pm : Value) (an : Option Addr) (cdv ct : Value) (us : List Value), us.length = ps.length → bindArgs (PySem.W.fnOf x x (defArgs st) (defBody st) (defScope st) .none kV doc pm an cdv ct) ⟨us, []⟩ = pure (ps.zip us))
    (hl : ∀ ds, Pre ds → ds.length + 1 = ps.length)
    (body : ∀ (f : Addr) (cdv : Value) (A : Around) (outer : List Env) (s : Shared) (H : Hp) (E : XK), A.guards = some [] → Room k (A.deeper (envOfC x (defScope st) s.heap.objs.size f cdv)) →
      ∃ t, PSs (cxOf CX0 P w K mg base N x (defScope st) f cdv A outer s H E).nox (defBody st) t ∧ ∀ ds n, Pre ds → RG K 0 t (enG N ds) (n + c) (R ds) n) : Fc P w K mg base x ps (k + 1) (SpG K c Pre R) := by
  obtain ⟨f, fd, F, hm⟩ := a
  refine ⟨f, fd, hm, F.kp, F.binds hb, fnG F S ?_ ?_⟩
  · rintro vs H Q E ⟨g, ws, B, ds, n, rfl, _, _, _, hd, pre, _⟩
    rw [List.length_cons, hd.len]
    exact hl ds pre
  · intro cdv A outer s H vs Q E gu hr ⟨g, ws, B, ds, n, ev, sx, hg, ga, hd, pre, q⟩
    subst ev
    obtain ⟨t, ht, hx⟩ := body f cdv A outer s H E gu hr
    refine ⟨t, ht.nox, hx ds n pre g _ B H _ sx hg ga ?_ (sd_startG hd) q⟩
    unfold L2.start
    rfl
end
/-! ### lights that are drawn -/
theorem ints_snoc (ns : List Int) (i : Int) : intsD ns ++ [.int i] = intsD (ns ++ [i]) := by
  unfold intsD
  rw [List.map_append]
  rfl
end TD

set_option maxHeartbeats 4000000
/-! # G15: comprehensions over known lists that draw; statements ahead of a return -/
namespace TD
open PySem PySem.Spec PyProof.Rows L2
open Evl (Ex)
section
variable {K : Fg} {j : Nat} {ρ : En} {te : TE} {t : TS} {n m o : Nat} {P P1 : PyData → Prop}
theorem rg_asg {i : Nat} (hij : i ≠ j) (h : EG K j te ρ n P1 m) (k : ∀ d, P1 d → RG K j t (ρ.set i (some d)) m P o) : RG K j (tSeq (tAsg te (gName i)) t) ρ n P o := fun g σ B H D s hg ga hs sd q =>
  h g σ B H s hg ga hs sd _ fun v d B1 H1 l1 g1 hd p => k d p g (σ.set i (some v)) B1 H1 D l1.sub (l1.g hg ga.some) g1 (by rw [List.getElem?_set_ne hij]; exact hs) ((sd.up l1.ek).put i hd)
    fun v2 d2 B2 H2 l2 g2 hd2 p2 => q v2 d2 B2 H2 (l1.tr l2 g1.some) g2 hd2 p2
theorem rg_par {i i2 : Nat} {ta : TA} {Ps : PyData → PyData → Prop} (hij : i ≠ j) (hij2 : i2 ≠ j) (h : EGA K j ta ρ n (fun ds => ∃ x y, ds = [x, y] ∧ Ps x y) m) (k : ∀ x y, Ps x y → RG K j t ((ρ.set i (some x)).set i2 (some y)) m P o) :
    RG K j (tSeq (tPar i i2 ta) t) ρ n P o := fun g σ B H D s hg ga hs sd q =>
  h g σ B H s hg ga hs sd _ fun vs ds B1 H1 l1 g1 hd p => by
    obtain ⟨x, y, rfl, pxy⟩ := p
    obtain ⟨v, r, rfl, dv, dr⟩ := hd.inv1
    obtain ⟨u, r2, rfl, du, dr2⟩ := dr.inv1
    cases dr2
    refine ⟨v, u, rfl, ?_⟩
    refine k x y pxy g _ B1 H1 D l1.sub (l1.g hg ga.some) g1 ?_ (((sd.up l1.ek).put i dv).put i2 du) fun v2 d2 B2 H2 l2 g2 hd2 p2 => q v2 d2 B2 H2 (l1.tr l2 g1.some) g2 hd2 p2
    rw [List.getElem?_set_ne hij2, List.getElem?_set_ne hij]
    exact hs
/-- [e for x in xs], e draws -/
theorem eg_lcL {tl : TE} {i0 : Nat} {vs : List Nat} {N c : Nat} {Pl : List PyData → Prop} {Pe : PyData → PyData → Prop} (h : EG K j tl ρ n (fun d => ∃ ds, d = .list ds ∧ Pl ds ∧ ds.length ≤ N) (m + N * c)) (hN : N ≤ 40000) (hi : i0 ∈ vs) (hj : j ∉ vs)
    (he : ∀ (x : PyData) (k : Nat), EG K j te ((wipeD ρ vs).set i0 (some x)) (k + c) (Pe x) k) :
    EG K j (tLc (iList K tl) (gName i0) tYes te vs) ρ n (fun d => ∃ ds out, Pl ds ∧ d = .list out ∧ out.length ≤ ds.length ∧ ∀ y ∈ out, ∃ x ∈ ds, Pe x y) m := fun g σ B H s hg ga hs sd Q q =>
  h g σ B H s hg ga hs sd _ fun v d B1 H1 l1 g1 hd p => by
    obtain ⟨ds, rfl, pl, hlN⟩ := p
    cases hd with
    | @lst pa xs _ ha hxs =>
      have hg1 := l1.g hg ga.some
      have hpg : pa ≠ g := fun z => by
        rw [z, hg1] at ha
        cases ha
      have hx : SqL K H1 pa xs := SqL.of (l1.sub _ _ ha)
      refine ⟨pa, rfl, ⟨xs, hx⟩, fun D hD => ?_⟩
      have hDg : D ≠ g := fun z => by
        rw [z] at hD
        exact g1.some hD
      refine lc_list (K := K) (a := pa) (xs := xs) (fun i H' => ∃ out, Cg K g B1 H1 D out H' ∧ GenAt g (m + (N - i) * c) H' ∧ out.length ≤ i ∧ ∀ y ∈ out, ∃ x ∈ ds, Pe x y)
        ⟨[], ⟨B1, [], ⟨fun a o _ e => Ex.new hD a o e, Ex.refl B1, l1.sub.trans (Ex.new hD), fun _ z _ => z⟩, Evl.fresh_back l1.sub hD, upd_same, .nil⟩, g1.ex (Ex.new hD), Nat.le_refl _, fun _ h => nomatch h⟩
        (fun i H' _ ⟨out, ⟨B', acc, l, _⟩, _⟩ => SqL.of (l.ex _ _ hpg (l1.sub _ _ ha))) (fun i x H' hit ⟨out, ⟨B', acc, l, nD, eD, ho⟩, gi, hol, hJ⟩ => ?_) (fun H' ⟨out, ⟨B', acc, l, nD, eD, ho⟩, gi, hol, hJ⟩ => ?_)
      · obtain ⟨dx, hdx, dax⟩ := hxs.get hit
        have iN : i < N := by
          have := (List.getElem?_eq_some_iff.mp hdx).1
          omega
        refine ⟨wipe_set vs σ i0 _ L2.wipe (fun _ => rfl) (fun _ _ _ => rfl) hi |>.trans (wipe_none vs), ?_⟩
        have sd' : SD K B' ((L2.wipe σ vs).set i0 (some x)) ((wipeD ρ vs).set i0 (some dx)) := (((sd.up l1.ek).up l.ek).wipe vs).put i0 (dax.ex l.ek)
        have nji : i0 ≠ j := fun z => hj (z ▸ hi)
        have hs' : ((L2.wipe σ vs).set i0 (some x))[j]? = some (some (.ref g)) := by
          rw [List.getElem?_set_ne nji, wipe_keep hj]
          exact hs
        have ef : m + (N - i) * c = (m + (N - (i + 1)) * c) + c := by
          have : N - i = (N - (i + 1)) + 1 := by omega
          rw [this, Nat.add_mul]
          omega
        have hgB : B' g = none := l.g hg1 g1.some
        rw [ef] at gi
        show te _ H' _
        refine he dx _ g _ B' H' l.sub hgB gi hs' sd' _ fun v d B4 H4 l4 g4 d4 p4 => ?_
        have n4 : B4 D = none := l4.old D nD (fun z => by rw [eD] at z; cases z)
        have e4 := l4.ex D _ hDg eD
        have ll4 : LeG g B1 H1 B4 H4 := l.tr l4 gi.some
        have hol2 : (out ++ [d]).length ≤ i + 1 := by
          rw [List.length_append, List.length_singleton]
          omega
        refine ⟨acc, e4, Evl.sz_lt (by rw [ho.len]; omega), out ++ [d], ⟨B4, acc ++ [v], ⟨fun a o na z => ?_, ll4.ek, fun a o z => ?_, ll4.old⟩, n4, upd_same, (ho.ex l4.ek).app (.cons d4 .nil)⟩, ?_, hol2, fun y hy => ?_⟩
        · by_cases w : a = D
          · subst w
            rw [hD] at z
            cases z
          · rw [upd_ne w]
            exact ll4.ex a o na z
        · rw [upd_ne (ne_of_none z n4)]
          exact l4.sub a o z
        · obtain ⟨a, b, c3, z, r⟩ := g4
          exact ⟨a, b, c3, by rw [upd_ne (Ne.symm hDg)]; exact z, r⟩
        · rcases List.mem_append.mp hy with z | z
          · exact hJ y z
          · rw [List.mem_singleton.mp z]
            exact ⟨dx, List.mem_of_getElem? hdx, p4⟩
      · have k : Ex B' (upd B' D (.lst acc)) := fun a o z => by
          rw [upd_ne (ne_of_none z nD)]
          exact z
        refine q (.ref D) (.list out) (upd B' D (.lst acc)) H' (l1.tr ⟨l.ex, l.ek.trans k, fun a o z => ?_, fun a z1 z2 => ?_⟩ g1.some) (gi.less (by omega)) (.lst upd_same (ho.ex k)) ⟨ds, out, pl, rfl, by rw [hxs.len] at hol; exact hol, hJ⟩
        · by_cases w : a = D
          · subst w
            rw [upd_same] at z
            cases z
            exact eD
          · rw [upd_ne w] at z
            exact l.sub a o z
        · rw [upd_ne (fun w => z2 (by rw [w]; exact hD))]
          exact l.old a z1 z2
end
end TD

set_option maxHeartbeats 4000000
/-! # G16: a list of data, sorted -/
namespace TD
open PySem PySem.Spec PyProof.Rows L2
open Evl (Ex)
open PySem.W (AllAlike Sortable EachIs dataLe sorted_data)
theorem each_das {K : Fg} {H : Hp} : ∀ {vs : List V} {us : List Value} {ds : List PyData}, Das K H vs ds → Vals vs us → EachIs (fun u d => ∃ x : V, RelV x u ∧ Da K H x d) us ds
  | _, _, _, .nil, r => by
    cases r
    exact .nil
  | _, _, _, .cons h t, r => by
    cases r with
    | cons r1 r2 => exact .cons ⟨_, r1, h⟩ (each_das t r2)
theorem das_each {K : Fg} {H : Hp} : ∀ {us : List Value} {ds : List PyData}, EachIs (fun u d => ∃ x : V, RelV x u ∧ Da K H x d) us ds → ∃ vs, Vals vs us ∧ Das K H vs ds
  | _, _, .nil => ⟨[], .nil, .nil⟩
  | _, _, .cons h t => by
    obtain ⟨x, h1, h2⟩ := h
    obtain ⟨vs, h3, h4⟩ := das_each t
    exact ⟨x :: vs, .cons h1 h3, .cons h2 h4⟩
theorem each_reads {X : Cx} {pins : List (Addr × Obj)} {σ : L2.St} {H : Hp} {s : Shared} {B : Hp} (sB : Ex B H) (sm : ∃ mm, X.base.Ns sysModules mm) (I : Inv X pins σ H s) : ∀ {us : List Value} {ds : List PyData}, EachIs (fun u d => ∃ x : V, RelV x u ∧ Da X.K B x d) us ds → EachIs (fun u d => ∃ as, Reads s.heap u (id d) as) us ds
  | _, _, .nil => .nil
  | _, _, .cons h t => by
    obtain ⟨x, h1, h2⟩ := h
    obtain ⟨as, r, _⟩ := Da.reads sm I _ x _ (h2.ex sB) h1
    exact .cons ⟨as, r⟩ (each_reads sB sm I t)
def rSortD (K : Fg) : List V → Hp → VK → Prop := fun xs H Q => ∃ B a vs ds, Ex B H ∧ xs = [.ref a] ∧ SqL K H a vs ∧ Das K B vs ds ∧ AllAlike ds ∧ Sortable ds ∧ ds.length ≤ 100000 ∧ (∀ d ∈ ds, d.depth ≤ 60) ∧ ∀ p ys, H p = none → Das K B ys (ds.mergeSort (dataLe false id)) → Q (.ref p) (upd H p (.lst ys))
theorem call_sortD {X : Cx} (sm : ∃ mm, X.base.Ns sysModules mm) (hu : X.A.units + 200 < cLine) : CallR X (.builtin "sorted") (rSortD X.K) := by
  intro pins s σ H xs us Q I r h
  obtain ⟨B, a, vs, ds, sB, rfl, hS, hD, hal, hso, hz, hdp, q⟩ := h
  obtain ⟨u, rfl, ru⟩ := vals1 r
  cases (show u = Value.ref a from ru)
  obtain ⟨its, rv, pl, _⟩ := I.list hS
  have e1 := each_das hD rv
  have e2 := each_reads sB sm I e1
  have em : ds.map (id : PyData → PyData) = ds := List.map_id ds
  refine sorted_data (enc := id) (bs := ds) pl.isList e1 e2 (by rw [em]; exact hal) (by rw [em]; exact hso) (Evl.sz_of hz) (fun b hb => ?_) fun out hl eo => ?_
  · have := hdp b hb
    show X.A.units + 2 + b.depth < cLine
    omega
  · obtain ⟨ys, ry, dy⟩ := das_each eo
    obtain ⟨c, hc⟩ := sortedAll_at s.heap its out.toArray
    have hy : ys.length ≤ sizeLine := by
      rw [ry.length, hl]
      exact Evl.sz_of hz
    have J := I.laid (a := s.heap.objs.size + 1) (o := .lst ys) (h' := sortedAll s.heap its out.toArray) (t' := s.toks) (fun b u e => sortedAll_old e) (Nat.le_succ _) ⟨hy, out, c, ry, hc⟩
    exact ⟨.ref _, _, J, rfl, q _ ys (I.hok.fresh (Nat.le_succ _)) dy⟩
section
variable {K : Fg} {ρ : En} {te : TE} {ds : List PyData}
theorem ed_sortD (h : ED K te ρ (.list ds)) (hal : AllAlike ds) (hso : Sortable ds) (hz : ds.length ≤ 100000) (hdp : ∀ d ∈ ds, d.depth ≤ 60) : ED K (tCB (rSortD K) (tCons te tNil)) ρ (.list (ds.mergeSort (dataLe false id))) := fun σ B H s sd Q q =>
  h σ B H s sd _ fun v B1 H1 l1 d1 => by
    cases d1 with
    | @lst a xs _ ha hs =>
      refine ⟨B1, a, xs, ds, l1.sub, rfl, SqL.of (l1.sub _ _ ha), hs, hal, hso, hz, hdp, fun p ys hp hy => ?_⟩
      have l2 := Le.new (o := .lst ys) l1.sub hp
      exact q _ _ _ (l1.tr l2) (.lst upd_same (hy.ex l2.ek))
end
end TD

set_option maxHeartbeats 4000000
/-! # G17: values that are looked through and printed: of a known size -/
namespace TD
open PySem PySem.Spec PyProof.Rows L2
open Evl (Ex)
structure Gd (k w : Nat) (d : PyData) : Prop where
  sz : szOk d = true
  sh : d.showable = true
  dp : d.depth ≤ k
  up : TD.sz d ≤ w
theorem Gd.up' {k k' w w' : Nat} {d : PyData} (h : Gd k w d) (hk : k ≤ k') (hw : w ≤ w') : Gd k' w' d := ⟨h.sz, h.sh, Nat.le_trans h.dp hk, Nat.le_trans h.up hw⟩
theorem Gd.fine {k w : Nat} {d : PyData} (h : Gd k w d) (hk : k ≤ 100) (hw : w ≤ 16000000) : Fine d := ⟨h.sh, Nat.le_trans h.dp hk, Nat.le_trans h.up hw⟩
def gdB (k w : Nat) (d : PyData) : Bool := szOk d && d.showable && decide (d.depth ≤ k) && decide (TD.sz d ≤ w)
theorem gd_of {k w : Nat} {d : PyData} (h : gdB k w d = true) : Gd k w d := by
  unfold gdB at h
  simp only [Bool.and_eq_true, decide_eq_true_eq] at h
  exact ⟨h.1.1.1, h.1.1.2, h.1.2, h.2⟩
theorem gd_all {k w : Nat} : ∀ {ds : List PyData}, (∀ d ∈ ds, Gd k w d) → szAll ds = true ∧ PyData.showableAll ds = true ∧ PyData.depthAll ds ≤ k ∧ szs ds ≤ ds.length * (w + 2)
  | [], _ => ⟨by simp [szAll], by simp [PyData.showableAll], by simp [PyData.depthAll], by simp [szs]⟩
  | d :: ds, h => by
    obtain ⟨h1, h2, h3, h4⟩ := gd_all fun e he => h e (List.mem_cons_of_mem _ he)
    have hd := h d (List.mem_cons_self ..)
    refine ⟨?_, ?_, ?_, ?_⟩
    · rw [szAll, hd.sz, h1]
      rfl
    · rw [PyData.showableAll, hd.sh, h2]
      rfl
    · rw [PyData.depthAll]
      exact Nat.max_le.mpr ⟨hd.dp, h3⟩
    · rw [szs, List.length_cons, Nat.add_mul]
      have := hd.up
      omega
theorem gd_list {k w n : Nat} {ds : List PyData} (h : ∀ d ∈ ds, Gd k w d) (hl : ds.length ≤ n) (hn : n ≤ 50) : Gd (k + 1) (n * (w + 2) + 5) (.list ds) := by
  obtain ⟨h1, h2, h3, h4⟩ := gd_all h
  refine ⟨?_, ?_, ?_, ?_⟩
  · rw [szOk, h1, decide_eq_true (by omega)]
    rfl
  · rw [PyData.showable]
    exact h2
  · rw [PyData.depth]
    omega
  · show szs ds + 5 ≤ _
    have := Nat.mul_le_mul_right (w + 2) hl
    omega
theorem gd_tup {k w n : Nat} {ds : List PyData} (h : ∀ d ∈ ds, Gd k w d) (hl : ds.length ≤ n) (hn : n ≤ 50) : Gd (k + 1) (n * (w + 2) + 5) (.tuple ds) := by
  obtain ⟨h1, h2, h3, h4⟩ := gd_all h
  refine ⟨?_, ?_, ?_, ?_⟩
  · rw [szOk, h1, decide_eq_true (by omega)]
    rfl
  · rw [PyData.showable]
    exact h2
  · rw [PyData.depth]
    omega
  · show szs ds + 5 ≤ _
    have := Nat.mul_le_mul_right (w + 2) hl
    omega
theorem gd_int {i : Int} (h : -1000 ≤ i ∧ i ≤ 1000) : Gd 0 2000 (.int i) := by
  refine ⟨rfl, decide_eq_true ?_, Nat.zero_le _, Nat.le_of_ble_eq_true rfl⟩
  have h1 : i.natAbs < 2 ^ 10 := Nat.lt_of_le_of_lt (show i.natAbs ≤ 1000 by omega) (by decide)
  exact Nat.lt_of_lt_of_le (PySem.Flt.log2_lt_of (by decide) h1) (by decide)
/-- lights of at most 8 rooms -/
theorem gd_lights {r : Nat} {ns : List Int} (h : fitsLights r (.list (intsD ns)) = true) (hr : r ≤ 8) (hl : ns.length ≤ r) : Gd 1 16100 (.list (intsD ns)) := by
  refine (gd_list (k := 0) (w := 2000) (n := 8) (fun d hd => ?_) (by unfold intsD; rw [List.length_map]; omega) (by decide)).up' (Nat.le_refl _) (by decide)
  obtain ⟨i, rfl, h0, h1⟩ := asc_ints h d hd
  exact gd_int (by omega)
section
variable {K : Fg} {j : Nat} {ρ : En} {te : TE} {tr : TA} {n m k l : Nat} {G : PyData → Prop}
theorem ega_all0 : EGA K j tNil ρ n (fun ds => ds.length = 0 ∧ ∀ x ∈ ds, G x) n := fun g σ B H s hg ga hs sd Q q => ega_nil g σ B H s hg ga hs sd Q fun vs ds B' H' l g2 hd p => q vs ds B' H' l g2 hd (by
  subst p
  exact ⟨rfl, fun x h => nomatch h⟩)
theorem ega_all1 (h : EG K j te ρ n G m) (hr : EGA K j tr ρ m (fun ds => ds.length = l ∧ ∀ x ∈ ds, G x) k) : EGA K j (tCons te tr) ρ n (fun ds => ds.length = l + 1 ∧ ∀ x ∈ ds, G x) k := fun g σ B H s hg ga hs sd Q q =>
  ega_cons h hr g σ B H s hg ga hs sd Q fun vs ds B' H' l' g2 hd p => q vs ds B' H' l' g2 hd (by
    obtain ⟨d, r, rfl, hd, hl, hr⟩ := p
    refine ⟨by rw [List.length_cons, hl], fun x hx => ?_⟩
    rcases List.mem_cons.mp hx with z | z
    · exact z ▸ hd
    · exact hr x z)
theorem eg_gd {d : PyData} (h : ED K te ρ d) (hg : G d) : EG K j te ρ n G n := eg_to (eg_of h) fun x e => e ▸ hg
end
end TD

set_option maxHeartbeats 4000000
/-! # G18: slices, tuple(list), a loop that gathers -/
namespace TD
open PySem PySem.Spec PyProof.Rows L2
open Evl (Ex)
def cutD (ds : List PyData) (lo hi : Option Int) : List PyData := (ds.drop (HT.sIx ds.length 0 lo)).take (HT.sIx ds.length ds.length hi - HT.sIx ds.length 0 lo)
theorem cutD_mem {ds : List PyData} {lo hi : Option Int} {x : PyData} (h : x ∈ cutD ds lo hi) : x ∈ ds := List.mem_of_mem_drop (List.mem_of_mem_take h)
theorem cutD_len (ds : List PyData) (lo hi : Option Int) : (cutD ds lo hi).length ≤ ds.length := by
  unfold cutD
  rw [List.length_take, List.length_drop]
  omega
section
variable {K : Fg} {ρ : En} {te : TE} {ds : List PyData}
theorem Das.cut {B : Hp} {vs : List V} (h : Das K B vs ds) (lo hi : Option Int) : Das K B (cutV vs lo hi) (cutD ds lo hi) := by
  unfold cutV cutD
  rw [h.len]
  exact (h.drop _).take _
def EO (K : Fg) (to : TO) (ρ : En) (o : Option Int) : Prop := ∀ σ B H, Ex B H → SD K B σ ρ → ∀ Q : Option Int → Hp → Prop, (∀ B' H', Le B H B' H' → Q o H') → to σ H Q
theorem eo_some {i : Int} (h : ED K te ρ (.int i)) : EO K (tPart te) ρ (some i) := fun σ B H s sd Q q => h σ B H s sd _ fun v B1 H1 l1 d1 => by
  cases d1
  exact ⟨i, rfl, q B1 H1 l1⟩
theorem ed_slice {tl th : TO} {lo hi : Option Int} (h : ED K te ρ (.list ds)) (hl : EO K tl ρ lo) (hh : EO K th ρ hi) : ED K (tSl (rSlL K) te tl th) ρ (.list (cutD ds lo hi)) := fun σ B H s sd Q q =>
  h σ B H s sd _ fun v B1 H1 l1 d1 => hl σ B1 H1 l1.sub (sd.up l1.ek) _ fun B2 H2 l2 => hh σ B2 H2 l2.sub (sd.up (l1.tr l2).ek) _ fun B3 H3 l3 => by
    have d3 := d1.ex (l2.tr l3).ek
    cases d3 with
    | @lst a xs _ ha hs =>
      refine ⟨a, xs, rfl, SqL.of (l3.sub _ _ ha), fun p hp => ?_⟩
      have l4 := Le.new (o := .lst (cutV xs lo hi)) l3.sub hp
      exact q _ _ _ (((l1.tr l2).tr l3).tr l4) (.lst upd_same ((hs.cut lo hi).ex l4.ek))
theorem rc_tupleL : RcD K (fun xs H Q => ∃ p ys, xs = [.ref p] ∧ ((SqL K H p ys ∧ ∀ l, H l = none → Q (.ref l) (upd H l (.tup ys))) ∨ (SqT K H p ys ∧ Q (.ref p) H))) [.list ds] (.tuple ds) := fun vs B H s h Q q => by
  obtain ⟨v, r, rfl, a, t⟩ := h.inv1
  cases t
  cases a with
  | @lst p xs _ ha hs =>
    refine ⟨p, xs, rfl, .inl ⟨SqL.of (s _ _ ha), fun l hl => ?_⟩⟩
    have l2 := Le.new (o := .tup xs) s hl
    exact q _ _ _ l2 (.tup upd_same (hs.ex l2.ek))
theorem seq_forL {tl : TE} {g : TG} {tb u : TS} {D : Ends} {σ : L2.St} {H : Hp} (h : tl σ H fun x H1 => ∃ a, x = .ref a ∧ (∃ xs, SqL K H1 a xs) ∧ tFor (fun _ _ R => R (Itl K a) H1) g tb { D with nx := u D } σ H1) : tSeq (tFor (iList K tl) g tb) u D σ H := h
/-- for x in xs: found = ..; what is found is data -/
theorem rg_gather {j i0 i1 : Nat} {tl : TE} {u : TS} {n m o N : Nat} {G P : PyData → Prop} {f0 : List PyData} (I : Nat → List PyData → Prop) (h : EG K j tl ρ n (fun d => ∃ ds, d = .list ds ∧ ds.length ≤ N ∧ ∀ x ∈ ds, G x) m) (h0 : i0 ≠ j) (h1 : i1 ≠ j) (h01 : i0 ≠ i1) (hf : ρ[i1]? = some (some (.list f0))) (hI : I 0 f0)
    (step : ∀ i x fs, i < N → G x → I i fs → ∃ fs', I (i + 1) fs' ∧ ED K te (((ρ.set i1 (some (.list fs))).set i0 (some x))) (.list fs'))
    (rest : ∀ i fs, i ≤ N → I i fs → RG K j u ((ρ.set i1 (some (.list fs))).set i0 none) m P o) : RG K j (tSeq (tFor (iList K tl) (gName i0) (tAsg te (gName i1))) u) ρ n P o := fun g σ B H D s hg ga hs sd q => by
  refine seq_forL (h g σ B H s hg ga hs sd _ fun v d B1 H1 l1 g1 hd p => ?_)
  obtain ⟨ds, rfl, hN, hG⟩ := p
  cases hd with
  | @lst pa xs _ ha hxs =>
    have hg1 := l1.g hg ga.some
    have hpg : pa ≠ g := fun z => by
      rw [z, hg1] at ha
      cases ha
    refine ⟨pa, rfl, ⟨xs, SqL.of (l1.sub _ _ ha)⟩, ?_⟩
    have ρ0 : SD K B1 σ ((ρ.set i1 (some (.list f0))).set i0 none) := by
      refine (sd.up l1.ek).less (by rw [List.length_set, List.length_set]) fun i d e => ?_
      by_cases w : i0 = i
      · subst w
        by_cases l : i0 < (ρ.set i1 (some (.list f0))).length
        · rw [List.getElem?_set_self l] at e
          cases e
        · rw [List.getElem?_eq_none (by rw [List.length_set]; omega)] at e
          cases e
      · rw [List.getElem?_set_ne w] at e
        by_cases w2 : i1 = i
        · subst w2
          have l : i1 < ρ.length := (List.getElem?_eq_some_iff.mp hf).1
          rw [List.getElem?_set_self l] at e
          rw [hf]
          exact e
        · rwa [List.getElem?_set_ne w2] at e
    refine for_list (K := K) (a := pa) (xs := xs) (fun i σ' H' => ∃ B' fs, SD K B' σ' ((ρ.set i1 (some (.list fs))).set i0 none) ∧ σ'[j]? = some (some (.ref g)) ∧ LeG g B1 H1 B' H' ∧ GenAt g m H' ∧ I i fs) ⟨B1, f0, ρ0, hs, ⟨fun _ _ _ e => e, Ex.refl _, l1.sub, fun _ z _ => z⟩, g1, hI⟩
      (fun i σ' H' _ ⟨B', fs, _, _, l, _⟩ => SqL.of (l.ex _ _ hpg (l1.sub _ _ ha))) (fun i x σ' H' hit ⟨B', fs, sd', hs', l, gi, hJ⟩ => ?_) (fun σ' H' ⟨B', fs, sd', hs', l, gi, hJ⟩ => ?_)
    · obtain ⟨dx, hdx, dax⟩ := hxs.get hit
      have iN : i < N := by
        have := (List.getElem?_eq_some_iff.mp hdx).1
        omega
      obtain ⟨fs', hI', he⟩ := step i dx fs iN (hG dx (List.mem_of_getElem? hdx)) hJ
      have sd2 : SD K B' (σ'.set i0 (some x)) ((ρ.set i1 (some (.list fs))).set i0 (some dx)) := by
        have z := sd'.put i0 (dax.ex l.ek)
        rwa [List.set_set] at z
      refine he _ B' H' l.sub sd2 _ fun v B4 H4 l4 d4 => ?_
      refine ⟨B4, fs', ?_, ?_, l.tr (LeG.of l4) gi.some, gi.ex l4.ex, hI'⟩
      · have z := ((sd2.up l4.ek).put i1 d4).drop i0 ((σ'.set i0 (some x)).set i1 (some v))[i0]?.join
        have e1 : ((((ρ.set i1 (some (.list fs))).set i0 (some dx)).set i1 (some (.list fs'))).set i0 none) = ((ρ.set i1 (some (.list fs'))).set i0 none) := by
          rw [List.set_comm _ _ h01, List.set_set, List.set_set]
        rw [e1] at z
        refine ⟨by have := z.1; rw [List.length_set] at this; exact this, fun i d e => ?_⟩
        by_cases w : i0 = i
        · subst w
          by_cases lq : i0 < (ρ.set i1 (some (.list fs'))).length
          · rw [List.getElem?_set_self lq] at e
            cases e
          · rw [List.getElem?_eq_none (by rw [List.length_set]; omega)] at e
            cases e
        · obtain ⟨v2, q1, q2⟩ := z.2 i d e
          rw [List.getElem?_set_ne w] at q1
          exact ⟨v2, q1, q2⟩
      · rw [List.getElem?_set_ne h1, List.getElem?_set_ne h0]
        exact hs'
    · have hle : xs.length ≤ N := by
        rw [hxs.len]
        exact hN
      exact rest _ fs hle hJ g σ' B' H' D l.sub (l.g hg1 g1.some) gi hs' sd' fun v2 d2 B2 H2 l2 g2 hd2 p2 => q v2 d2 B2 H2 ((l1.tr l g1.some).tr l2 gi.some) g2 hd2 p2
end
end TD

set_option maxHeartbeats 4000000
/-! # G19: loops over a drawn list whose turns keep the generator's slot -/
namespace TD
open PySem PySem.Spec PyProof.Rows L2
open Evl (Ex)
def XJ (K : Fg) (j : Nat) (t : TS) (ρ ρ' : En) : Prop := ∀ σ B H (D : Ends), Ex B H → SD K B σ ρ → (∀ σ' B' H', Le B H B' H' → SD K B' σ' ρ' → σ'[j]? = σ[j]? → D.nx σ' H') → t D σ H
section
variable {K : Fg} {j : Nat} {ρ ρ1 ρ2 : En} {te : TE} {tt : TT} {t u : TS} {d x y : PyData}
theorem xj_asg {i : Nat} (hij : i ≠ j) (h : ED K te ρ d) : XJ K j (tAsg te (gName i)) ρ (ρ.set i (some d)) := fun σ B H D s sd q =>
  h σ B H s sd _ fun v B1 H1 l1 d1 => q _ B1 H1 l1 ((sd.up l1.ek).put i d1) (List.getElem?_set_ne hij)
theorem xj_par {i i2 : Nat} {ta : TA} (hi : i ≠ j) (hi2 : i2 ≠ j) (h : EA K ta ρ [x, y]) : XJ K j (tPar i i2 ta) ρ ((ρ.set i (some x)).set i2 (some y)) := fun σ B H D s sd q =>
  h σ B H s sd _ fun vs B1 H1 l1 d1 => by
    obtain ⟨v, r, rfl, a, b⟩ := d1.inv1
    obtain ⟨v2, r2, rfl, a2, b2⟩ := b.inv1
    cases b2
    refine ⟨v, v2, rfl, q _ B1 H1 l1 (((sd.up l1.ek).put i a).put i2 a2) ?_⟩
    rw [List.getElem?_set_ne hi2, List.getElem?_set_ne hi]
theorem xj_skip (h : ET K tt ρ false) : XJ K j (tIfS tt t tNext) ρ ρ := fun σ B H D s sd q =>
  h σ B H s sd _ fun B1 H1 l1 => q σ B1 H1 l1 (sd.up l1.ek) rfl
theorem xj_seq (h1 : XJ K j t ρ ρ1) (h2 : XJ K j u ρ1 ρ2) : XJ K j (tSeq t u) ρ ρ2 := fun σ B H D s sd q =>
  h1 σ B H _ s sd fun σ1 B1 H1 l1 s1 e1 => h2 σ1 B1 H1 D l1.sub s1 fun σ2 B2 H2 l2 s2 e2 => q σ2 B2 H2 (l1.tr l2) s2 (e2.trans e1)
theorem wipeD_len : ∀ (cs : List Nat) (ρ : En), (wipeD ρ cs).length = ρ.length
  | [], _ => rfl
  | c :: cs, ρ => by
    show ((wipeD ρ cs).set c none).length = _
    rw [List.length_set, wipeD_len cs ρ]
theorem wipeD_sub : ∀ (cs : List Nat) {ρ : En} {i : Nat} {d : PyData}, (wipeD ρ cs)[i]? = some (some d) → ρ[i]? = some (some d)
  | [], _, _, _, h => h
  | c :: cs, ρ, i, d, h => by
    have h' : ((wipeD ρ cs).set c none)[i]? = some (some d) := h
    by_cases w : c = i
    · subst w
      by_cases l : c < (wipeD ρ cs).length
      · rw [List.getElem?_set_self l] at h'
        cases h'
      · rw [List.getElem?_eq_none (by rw [List.length_set]; omega)] at h'
        cases h'
    · rw [List.getElem?_set_ne w] at h'
      exact wipeD_sub cs h'
theorem rg_each {i0 : Nat} {cs : List Nat} {tl : TE} {n m o : Nat} {G P : PyData → Prop} (h : EG K j tl ρ n (fun d => ∃ ds, d = .list ds ∧ ∀ x ∈ ds, G x) m) (h0 : i0 ≠ j)
    (body : ∀ x, G x → ∃ ρ2, XJ K j t ((wipeD ρ cs).set i0 (some x)) ρ2 ∧ ρ2.length = ρ.length ∧ ∀ (i : Nat) (d : PyData), (wipeD ρ cs)[i]? = some (some d) → ρ2[i]? = some (some d))
    (rest : RG K j u (wipeD ρ cs) m P o) : RG K j (tSeq (tFor (iList K tl) (gName i0) t) u) ρ n P o := fun g σ B H D s hg ga hs sd q => by
  refine seq_forL (h g σ B H s hg ga hs sd _ fun v d B1 H1 l1 g1 hd p => ?_)
  obtain ⟨ds, rfl, hG⟩ := p
  cases hd with
  | @lst pa xs _ ha hxs =>
    have hg1 := l1.g hg ga.some
    have hpg : pa ≠ g := fun z => by
      rw [z, hg1] at ha
      cases ha
    refine ⟨pa, rfl, ⟨xs, SqL.of (l1.sub _ _ ha)⟩, ?_⟩
    refine for_list (K := K) (a := pa) (xs := xs) (fun i σ' H' => ∃ B', SD K B' σ' (wipeD ρ cs) ∧ σ'[j]? = some (some (.ref g)) ∧ Le B1 H1 B' H') ⟨B1, (sd.up l1.ek).less (wipeD_len cs ρ) fun i d e => wipeD_sub cs e, hs, Le.rfl' l1.sub⟩
      (fun i σ' H' _ ⟨B', _, _, l⟩ => SqL.of (l.ex _ _ (l1.sub _ _ ha))) (fun i x σ' H' hit ⟨B', sd', hs', l⟩ => ?_) (fun σ' H' ⟨B', sd', hs', l⟩ => ?_)
    · obtain ⟨dx, hdx, dax⟩ := hxs.get hit
      obtain ⟨ρ2, hx, hl, hsub⟩ := body dx (hG dx (List.mem_of_getElem? hdx))
      refine hx _ B' H' _ l.sub (sd'.put i0 (dax.ex l.ek)) fun σ2 B2 H2 l2 s2 e2 => ?_
      refine ⟨B2, s2.less (by rw [wipeD_len, hl]) hsub, ?_, l.tr l2⟩
      rw [e2, List.getElem?_set_ne h0]
      exact hs'
    · have lg : LeG g B1 H1 B' H' := LeG.of l
      exact rest g σ' B' H' D l.sub (lg.g hg1 g1.some) (g1.ex l.ex) hs' sd' fun v2 d2 B2 H2 l2 g2 hd2 p2 => q v2 d2 B2 H2 ((l1.tr lg g1.some).tr l2 (g1.ex l.ex).some) g2 hd2 p2
theorem rg_seqJ {n o : Nat} {P : PyData → Prop} (h : XJ K j t ρ ρ1) (k : RG K j u ρ1 n P o) : RG K j (tSeq t u) ρ n P o := fun g σ B H D s hg ga hs sd q =>
  h σ B H _ s sd fun σ1 B1 H1 l1 s1 e1 => k g σ1 B1 H1 D l1.sub ((LeG.of l1).g hg ga.some) (ga.ex l1.ex) (e1.trans hs) s1 fun v d B2 H2 l2 g2 hd p => q v d B2 H2 ((LeG.of l1).tr l2 (ga.ex l1.ex).some) g2 hd p
end
theorem rc_repr {K : Fg} {d : PyData} (hf : Fine d) : RcD K (rRepr K) [d] (.str d.shown) := fun vs B H s h Q q => by
  obtain ⟨v, r, rfl, a, t⟩ := h.inv1
  cases t
  exact ⟨v, d, rfl, a.ex s, hf, q _ B H (Le.rfl' s) (.str _)⟩
end TD

set_option maxHeartbeats 4000000
/-! # G20: a def that is handed a def: calls of what a slot holds, in comprehensions, too -/
namespace TD
open PySem PySem.Spec PyProof.Rows L2
open Evl (Ex)
/-- the def at f may be called, and keeps sp -/
def CPc (P : Program) (w : World) (K : Fg) (mg : Str → Option Value) (base : Heap) (k : Nat) : Addr → Sp → Prop := fun f sp => ∃ x ps, Fc P w K mg base x ps k sp ∧ mg x = some (.ref f)
def tCallN (CP : Addr → Sp → Prop) (i : Nat) (t : TA) : TE := fun σ H Q => ∃ f sp, σ[i]? = some (some (.ref f)) ∧ CP f sp ∧ t σ H fun vs H2 => sp vs H2 Q E0
section
variable {X : Cx} {e : Expr} {es : List Expr} {pos : Pos} {t : TA} {k : Nat}
theorem pe_callNc {a : Str} {p : Pos} {i : Nat} {CP : Addr → Sp → Prop} (hcp : ∀ f sp, CP f sp → CPc X.prog X.w X.K X.mg X.base k f sp) (gu : X.A.guards = some []) (hr : Room k X.A) (hN : X.N[i]? = some a) (hv : Vis X.env.scope a) (ha : PA X (e :: es) t)
    (z1 : (a == ("__debug__" : Str)) = false := by decide) (z2 : (a == ("__classdict__" : Str)) = false := by decide)
    (d2 : starEach (e :: es) X.env = (false, eval e X.env) :: starEach es X.env := by rfl)
    (d3 : (backTo pos (starEach es X.env)).any (·.1) = false := by rfl) :
    PE X (.Call (.Name a p) (e :: es) [] pos) (tCallN CP i t) := by
  refine ⟨fun pins s σ H Q I ⟨f, sp, hs, hcp1, q⟩ => ?_⟩
  obtain ⟨x, ps, ⟨f', fd, hm', kp, hb, F⟩, hm⟩ := hcp f sp hcp1
  rw [hm] at hm'
  cases hm'
  refine wpAny_Call_Name_kw (thn ((pe_var (pos := p) (i := i) hN hv z1 z2).run pins s σ H (fun v H1 => v = .ref f ∧ H1 = H) I ⟨.ref f, hs, rfl, rfl⟩) fun u s1 ⟨v, H1, I1, r1, ev, eh⟩ => ?_)
  subst ev
  subst eh
  cases (show u = Value.ref f from r1)
  refine PySem.W.callWith_K (h₀ := X.base) I1.ok.mod.kin kp (thn (ha.run pos pins s1 σ H1 _ I1 q) ?_) d2 d3
  intro us s2 ⟨vs, H2, I2, r, q2⟩
  have b := hb s2 us I2.kIn (by rw [List.append_nil, ← r.length]; exact F.ln _ _ _ _ q2)
  rw [List.append_nil] at b
  exact ⟨I2.kIn, runG F gu hr b pass0 I2 r q2⟩
end
section
variable {P : Program} {w : World} {K : Fg} {mg : Str → Option Value} {base : Heap} {x : Str} {ps N : List Str} {k : Nat} {st : Stmt} {sp : Sp}
/-- a def with a promise of any form -/
theorem fcg_mk (a : At K mg x st) (S : FnScope N ps (defScope st))
    (hb : ∀ (kV doc pm : Value) (an : Option Addr) (cdv ct : Value) (us : List Value), us.length = ps.length → bindArgs (PySem.W.fnOf x x (defArgs st) (defBody st) (defScope st) .none kV doc pm an cdv ct) ⟨us, []⟩ = pure (ps.zip us))
    (hl : ∀ vs H Q E, sp vs H Q E → vs.length = ps.length)
    (body : ∀ (f : Addr) (cdv : Value) (A : Around) (outer : List Env) (s : Shared) (H : Hp) (vs : List V) (Q : VK) (E : XK), A.guards = some [] → Room k (A.deeper (envOfC x (defScope st) s.heap.objs.size f cdv)) → sp vs H Q E →
      ∃ t, PSs (cxOf CX0 P w K mg base N x (defScope st) f cdv A outer s H E).nox (defBody st) t ∧ t { nx := fun _ H' => Q .non H', rt := Q } (L2.start N vs) H) : Fc P w K mg base x ps (k + 1) sp := by
  obtain ⟨f, fd, F, hm⟩ := a
  refine ⟨f, fd, hm, F.kp, F.binds hb, fnG F S hl ?_⟩
  intro cdv A outer s H vs Q E gu hr h
  obtain ⟨t, ht, hx⟩ := body f cdv A outer s H vs Q E gu hr h
  exact ⟨t, ht.nox, hx⟩
end
section
variable {K : Fg} {ρ ρ' : En} {te : TE} {J : L2.St → Prop} {d : PyData}
/-- a reading where J is known of the slots -/
def EDs (K : Fg) (J : L2.St → Prop) (te : TE) (ρ : En) (d : PyData) : Prop := ∀ σ, J σ → ∀ B H, Ex B H → SD K B σ ρ → ∀ Q : VK, (∀ v B' H', Le B H B' H' → Da K B' v d → Q v H') → te σ H Q
theorem eds_callN {CP : Addr → Sp → Prop} {f : Addr} {R : List PyData → PyData → Prop} {i : Nat} {ta : TA} {ds : List PyData} (c : CP f (SpR K R)) (ha : EA K ta ρ ds) (hR : R ds d) : EDs K (fun σ => σ[i]? = some (some (.ref f))) (tCallN CP i ta) ρ d := fun σ hs B H s sd Q q =>
  ⟨f, _, hs, c, ha σ B H s sd _ fun vs B1 H1 l1 d1 => ⟨B1, ds, d, l1.sub, d1, hR, fun u B2 H2 l2 d2 => q u B2 H2 (l1.tr l2) d2⟩⟩
theorem czs_turn {B H : Hp} {D : Addr} {out : List PyData} {H' : Hp} {σ' : L2.St} {y : PyData} (hD : H D = none) (c : Cz K B H D out H') (sd : SD K B σ' ρ') (js : J σ') (hl : out.length ≤ 50000) (he : EDs K J te ρ' y) {P : Hp → Prop}
    (h1 : ∀ H2, Cz K B H D (out ++ [y]) H2 → P H2) :
    tYes σ' H' fun b2 H3 => if b2 = true then te σ' H3 fun v H4 => ∃ acc, H4 D = some (.lst acc) ∧ acc.length < sizeLine ∧ P (upd H4 D (.lst (acc ++ [v]))) else P H3 := by
  obtain ⟨B', acc, l, n, e, h⟩ := c
  show te σ' H' _
  refine he σ' js B' H' l.sub (sd.up l.ek) _ fun v B4 H4 l4 d4 => ?_
  have n4 : B4 D = none := l4.old D n (fun z => by rw [e] at z; cases z)
  refine ⟨acc, l4.ex D _ e, Evl.sz_lt (by rw [h.len]; omega), h1 _ ⟨B4, acc ++ [v], ⟨fun a o q => ?_, (l.tr l4).ek, fun a o q => ?_, (l.tr l4).old⟩, n4, upd_same, (h.ex l4.ek).app (.cons d4 .nil)⟩⟩
  · by_cases z : a = D
    · subst z
      rw [hD] at q
      cases q
    · rw [upd_ne z]
      exact (l.tr l4).ex a o q
  · rw [upd_ne (ne_of_none q n4)]
    exact l4.sub a o q
/-- [e for x in xs] over a list -/
theorem eds_lcL {tl : TE} {j : Nat} {vs : List Nat} {ds : List PyData} (g : PyData → PyData) (h : ED K tl ρ (.list ds)) (hj : j ∈ vs) (hz : ds.length ≤ 40000) (hJ : ∀ σ x, J σ → J ((L2.wipe σ vs).set j (some x)))
    (he : ∀ d, d ∈ ds → EDs K J te ((wipeD ρ vs).set j (some d)) (g d)) : EDs K J (tLc (iList K tl) (gName j) tYes te vs) ρ (.list (ds.map g)) := fun σ js B H s sd Q q =>
  h σ B H s sd _ fun v B1 H1 l1 d1 => by
    cases d1 with
    | @lst p xs _ ha hs =>
      have hx : SqL K H1 p xs := SqL.of (l1.sub _ _ ha)
      refine ⟨p, rfl, ⟨xs, hx⟩, fun D hD => ?_⟩
      refine lc_list (K := K) (a := p) (xs := xs) (fun i H' => Cz K B1 H1 D ((ds.take i).map g) H') (cz_start l1.sub hD) (fun i H' _ ⟨B', acc, l, _⟩ => SqL.of (l.ex _ _ (l1.sub _ _ ha))) (fun i x H' hi c => ?_) (fun H' c => ?_)
      · obtain ⟨e, he1, hd⟩ := hs.get hi
        have me : e ∈ ds := List.mem_of_getElem? he1
        refine ⟨?_, ?_⟩
        · exact wipe_set vs σ j (some x) L2.wipe (fun _ => rfl) (fun _ _ _ => rfl) hj |>.trans (wipe_none vs)
        · refine czs_turn hD c ((((sd.up l1.ek).wipe vs)).put j hd) (hJ σ x js) ?_ (he e me) (fun H2 c2 => ?_)
          · have z2 : ((ds.take i).map g).length ≤ ds.length := by
              rw [List.length_map, List.length_take]
              omega
            omega
          · show Cz K B1 H1 D ((ds.take (i + 1)).map g) H2
            have e : (ds.take (i + 1)).map g = (ds.take i).map g ++ [g e] := by
              rw [List.take_add_one, he1, List.map_append]
              rfl
            rw [e]
            exact c2
      · have e : ds.take xs.length = ds := by
          rw [hs.len]
          exact List.take_length
        rw [e] at c
        obtain ⟨B', l, hd⟩ := cz_end hD c
        exact q _ _ _ (l1.tr l) hd
theorem eds_allL {tl : TE} {j : Nat} {vs : List Nat} {ds : List PyData} (p : PyData → Bool) (h : ED K tl ρ (.list ds)) (hj : j ∈ vs) (hz : ds.length ≤ 40000) (hJ : ∀ σ x, J σ → J ((L2.wipe σ vs).set j (some x)))
    (he : ∀ d, d ∈ ds → EDs K J te ((wipeD ρ vs).set j (some d)) (.bool (p d))) :
    EDs K J (tCB (rAll K) (tCons (tLc (iList K tl) (gName j) tYes te vs) tNil)) ρ (.bool (ds.all p)) := fun σ js B H s sd Q q => by
  have e2 : ds.all p = (ds.map p).all id := by rw [List.all_map]; rfl
  rw [e2] at q
  have h1 := eds_lcL (te := te) (J := J) (fun d => .bool (p d)) h hj hz hJ he
  have e : (ds.map fun d => PyData.bool (p d)) = (ds.map p).map PyData.bool := by rw [List.map_map]; rfl
  rw [e] at h1
  exact h1 σ js B H s sd _ fun v B1 H1 l1 d1 => rc_all _ B1 H1 l1.sub (.cons d1 .nil) Q fun u B3 H3 l3 d3 => q u B3 H3 (l1.tr l3) d3
/-- statements beside such a slot -/
def XSs (K : Fg) (J : L2.St → Prop) (t : TS) (ρ : En) (o : Out) : Prop := ∀ σ, J σ → ∀ B H (D : Ends), Ex B H → SD K B σ ρ → Meet K D B H o → t D σ H
theorem xss_of {t : TS} {o : Out} (h : XS K t ρ o) : XSs K J t ρ o := fun σ _ B H D s sd m => h σ B H D s sd m
theorem xss_ret (h : EDs K J te ρ d) : XSs K J (tRet te) ρ (.ret d) := fun σ js B H D s sd m => h σ js B H s sd _ m
/-- a slot that is not written keeps what it holds -/
def KeepsS (J : L2.St → Prop) (t : TS) (ρ ρ' : En) (K : Fg) : Prop := ∀ σ, J σ → ∀ B H (D : Ends), Ex B H → SD K B σ ρ → (∀ σ' B' H', J σ' → Le B H B' H' → SD K B' σ' ρ' → D.nx σ' H') → t D σ H
theorem xss_seq {t u : TS} {ρ1 : En} {o : Out} (h1 : KeepsS J t ρ ρ1 K) (h2 : XSs K J u ρ1 o) : XSs K J (tSeq t u) ρ o := fun σ js B H D s sd m =>
  h1 σ js B H _ s sd fun σ' B' H' js' l s' => h2 σ' js' B' H' D l.sub s' (m.back l)
theorem ks_skip {tt : TT} {t : TS} (h : ET K tt ρ false) : KeepsS J (tIfS tt t tNext) ρ ρ K := fun σ js B H D s sd m =>
  h σ B H s sd _ fun B1 H1 l1 => by
    show tNext D σ H1
    exact m σ B1 H1 js l1 (sd.up l1.ek)
theorem ks_asg2 {i j : Nat} {x y : PyData} (h : ED K te ρ (.tuple [x, y])) (hJ : ∀ σ a b, J σ → J ((σ.set i (some a)).set j (some b))) : KeepsS J (tAsg te (gTup K 2 (gCons (gName i) (gCons (gName j) gNil)))) ρ ((ρ.set i (some x)).set j (some y)) K := fun σ js B H D s sd m =>
  h σ B H s sd _ fun v B1 H1 l1 d1 => by
    cases d1 with
    | tup ha hs =>
      obtain ⟨v1, r1, rfl, a1, hs⟩ := hs.inv1
      obtain ⟨v2, r2, rfl, a2, hs⟩ := hs.inv1
      cases hs
      exact ⟨_, _, rfl, SqT.of (l1.sub _ _ ha), rfl, v1, _, rfl, v2, _, rfl, rfl, m _ B1 H1 (hJ σ v1 v2 js) l1 (((sd.up l1.ek).put i a1).put j a2)⟩
end
end TD

namespace TD
open PySem PySem.Spec PyProof.Rows L2
/-- the i-th statement of the row's text -/
def topS (i : Nat) : Stmt := PySem.Challenge.pw_timedoors_k01_levels_presses_and_runs.main.body.getD i (.Pass ⟨0, 0, 0, 0⟩)
end TD

set_option maxHeartbeats 4000000
namespace TD
open PySem PySem.Spec PyProof.Rows L2
open Evl (Ex)
/-! # kinds: what is a door, a level, .. -/
/-- the built-in names that the program uses are not its own -/
structure Bl (mg : Str → Option Value) : Prop where
  isinstance : mg "isinstance" = none
  int : mg "int" = none
  bool : mg "bool" = none
  list : mg "list" = none
  tuple : mg "tuple" = none
  len : mg "len" = none
  all : mg "all" = none
section
variable {P : Program} {w : World} {K : Fg} {mg : Str → Option Value} {base : Heap}
abbrev s_is_whole : Stmt := topS 6
def R_is_whole : List PyData → PyData → Prop := fun ds d => ∃ x, ds = [x] ∧ d = .bool (isWhole x)
theorem f_is_whole (T : Bl mg) (a : At K mg "is_whole" s_is_whole) : Fc P w K mg base "is_whole" ["value"] 1 (SpR K R_is_whole) := by
  have S : FnScope ["value"] ["value"] (defScope s_is_whole) := ⟨rfl, rfl, rfl, by decide +kernel, rfl, by decide +kernel, by decide +kernel⟩
  refine fc_mk a S (fun _ _ _ _ _ _ us hl => match us, hl with | [_], _ => rfl) (by rintro _ _ ⟨x, rfl, rfl⟩; rfl) fun f cdv A outer s H E gu hr => ⟨_, (pss_one (ps_ret (pe_and (pe_callB call_isi (by rfl) T.isinstance (by decide +kernel) (pa_cons (pv 0) (pa_cons (pe_bltn (v := .ty "int") (by rfl) T.int boot_int rfl) pa_nil))) (pe_one (pe_not (pe_callB call_isi (by rfl) T.isinstance (by decide +kernel) (pa_cons (pv 0) (pa_cons (pe_bltn (v := .ty "bool") (by rfl) T.bool boot_bool rfl) pa_nil)))))))), ?_⟩
  rintro _ _ ⟨x, rfl, rfl⟩
  exact xr_ret (xs_ret (ed_and (ed_isi (ed_var rfl)) fun _ => ed_not (ed_isi (ed_var rfl))))
abbrev s_is_count : Stmt := topS 7
def R_is_count : List PyData → PyData → Prop := fun ds d => ∃ x, ds = [x] ∧ d = .bool (isCount x)
theorem f_is_count (a : At K mg "is_count" s_is_count) (c_is_whole : Fc P w K mg base "is_whole" ["value"] 1 (SpR K R_is_whole)) : Fc P w K mg base "is_count" ["value"] 2 (SpR K R_is_count) := by
  have S : FnScope ["value"] ["value"] (defScope s_is_count) := ⟨rfl, rfl, rfl, by decide +kernel, rfl, by decide +kernel, by decide +kernel⟩
  refine fc_mk a S (fun _ _ _ _ _ _ us hl => match us, hl with | [_], _ => rfl) (by rintro _ _ ⟨x, rfl, rfl⟩; rfl) fun f cdv A outer s H E gu hr => ⟨_, (pss_one (ps_ret (pe_and (pe_f c_is_whole gu (hr.mono (by decide)) (by rfl) (pa_cons (pv 0) pa_nil)) (pe_one (pe_cmpR op_ge (pv 0) pe_int (nomark _)))))), ?_⟩
  rintro _ _ ⟨x, rfl, rfl⟩
  cases hx : isWhole x with
  | false =>
    refine xr_ret (xs_ret (ed_is (ed_and (a := false) (b := false) (ed_call (ea_cons (ed_var rfl) ea_nil) ⟨x, rfl, by rw [hx]⟩) (fun z => nomatch z)) ?_))
    cases x <;> first | rfl | exact nomatch (show true = false from hx)
  | true =>
    obtain ⟨i, rfl⟩ := whole_int hx
    exact xr_ret (xs_ret (ed_and (a := true) (b := decide (0 ≤ i)) (ed_call (ea_cons (ed_var rfl) ea_nil) ⟨_, rfl, by rw [hx]⟩) (fun _ => ed_op (ed_var rfl) ed_int r_Ib)))
abbrev s_is_tuple_of : Stmt := topS 8
def R_is_tuple_of : List PyData → PyData → Prop := fun ds d => ∃ (n : Int) (x : PyData), ds = [.int n, x] ∧ d = .bool (isTup n x)
theorem f_is_tuple_of (T : Bl mg) (a : At K mg "is_tuple_of" s_is_tuple_of) : Fc P w K mg base "is_tuple_of" ["many", "value"] 1 (SpR K R_is_tuple_of) := by
  have S : FnScope ["many", "value"] ["many", "value"] (defScope s_is_tuple_of) := ⟨rfl, rfl, rfl, by decide +kernel, rfl, by decide +kernel, by decide +kernel⟩
  refine fc_mk a S (fun _ _ _ _ _ _ us hl => match us, hl with | [_, _], _ => rfl) (by rintro _ _ ⟨n, x, rfl, rfl⟩; rfl) fun f cdv A outer s H E gu hr => ?_
  have hc : (cxOf CX0 P w K mg base ["many", "value"] "is_tuple_of" (defScope s_is_tuple_of) f cdv A outer s H E).nox.calm = true := rfl
  refine ⟨_, (pss_one (ps_ret (pe_and (pe_callB call_isi (by rfl) T.isinstance (by decide +kernel) (pa_cons (pv 1) (pa_cons (pe_bltn (v := .ty "tuple") (by rfl) T.tuple boot_tuple rfl) pa_nil))) (pe_one (pe_cmpR op_eq (pe_callB call_len_seq (by rfl) T.len (by decide +kernel) (pa_cons (pv 1) pa_nil)) (pv 0) (nomark _)))))), ?_⟩
  rintro _ _ ⟨n, x, rfl, rfl⟩
  cases x with
  | tuple ds => exact xr_ret (xs_ret (ed_is (ed_and (ed_isi (ed_var rfl)) fun _ => ed_op (ed_cb (ea_cons (ed_var rfl) ea_nil) rc_lenT) (ed_var rfl) r_eqI) rfl))
  | _ => exact xr_ret (xs_ret (ed_is (ed_and (b := false) (ed_isi (ed_var rfl)) (fun z => nomatch (show false = true from z))) rfl))
abbrev s_fits_room : Stmt := topS 9
def R_fits_room : List PyData → PyData → Prop := fun ds d => ∃ (r : Int) (x : PyData), ds = [.int r, x] ∧ d = .bool (fitsRoom r x)
theorem f_fits_room (a : At K mg "fits_room" s_fits_room) (c_is_count : Fc P w K mg base "is_count" ["value"] 2 (SpR K R_is_count)) : Fc P w K mg base "fits_room" ["rooms", "value"] 3 (SpR K R_fits_room) := by
  have S : FnScope ["rooms", "value"] ["rooms", "value"] (defScope s_fits_room) := ⟨rfl, rfl, rfl, by decide +kernel, rfl, by decide +kernel, by decide +kernel⟩
  refine fc_mk a S (fun _ _ _ _ _ _ us hl => match us, hl with | [_, _], _ => rfl) (by rintro _ _ ⟨n, x, rfl, rfl⟩; rfl) fun f cdv A outer s H E gu hr => ?_
  have hc : (cxOf CX0 P w K mg base ["rooms", "value"] "fits_room" (defScope s_fits_room) f cdv A outer s H E).nox.calm = true := rfl
  refine ⟨_, (pss_one (ps_ret (pe_and (pe_f c_is_count gu (hr.mono (by decide)) (by rfl) (pa_cons (pv 1) pa_nil)) (pe_one (pe_cmpR op_lt (pv 1) (pv 0) (nomark _)))))), ?_⟩
  rintro _ _ ⟨r, x, rfl, rfl⟩
  cases x with
  | int i => exact xr_ret (xs_ret (ed_and (ed_call (ea_cons (ed_var rfl) ea_nil) ⟨_, rfl, rfl⟩) fun _ => ed_op (ed_var rfl) (ed_var rfl) r_Ib))
  | _ => exact xr_ret (xs_ret (ed_is (ed_and (b := false) (ed_call (ea_cons (ed_var rfl) ea_nil) ⟨_, rfl, rfl⟩) (fun z => nomatch (show false = true from z))) rfl))
abbrev s_fits_lights : Stmt := topS 10
def R_fits_lights : List PyData → PyData → Prop := fun ds d => ∃ (r : Int) (x : PyData), ds = [.int r, x] ∧ d = .bool (fitsLights r x)
theorem f_fits_lights (T : Bl mg) (a : At K mg "fits_lights" s_fits_lights) (c_fits_room : Fc P w K mg base "fits_room" ["rooms", "value"] 3 (SpR K R_fits_room)) : Fc P w K mg base "fits_lights" ["rooms", "value"] 4 (SpR K R_fits_lights) := by
  have S : FnScope ["rooms", "value", "ahead", "room"] ["rooms", "value"] (defScope s_fits_lights) := ⟨rfl, rfl, rfl, by decide +kernel, rfl, by decide +kernel, by decide +kernel⟩
  refine fc_mk a S (fun _ _ _ _ _ _ us hl => match us, hl with | [_, _], _ => rfl) (by rintro _ _ ⟨n, x, rfl, rfl⟩; rfl) fun f cdv A outer s H E gu hr => ?_
  have hc : (cxOf CX0 P w K mg base ["rooms", "value", "ahead", "room"] "fits_lights" (defScope s_fits_lights) f cdv A outer s H E).nox.calm = true := rfl
  refine ⟨_, (pss_cons (ps_if (pt_not (pt_val (pe_callB call_isi (by rfl) T.isinstance (by decide +kernel) (pa_cons (pv 1) (pa_cons (pe_bltn (v := .ty "list") (by rfl) T.list boot_list rfl) pa_nil))))) (pss_one (ps_ret pe_bl)) pss_nil)
  (pss_cons (ps_set (i := 2) S.nd rfl (by first | exact Or.inl rfl | exact Or.inr rfl) (pe_un un_neg pe_int))
  (pss_cons (ps_for PassesOwn.never hc (pi_list (pv 1)) (pg_name (i := 3) S.nd rfl (by first | exact Or.inl rfl | exact Or.inr rfl))
    (pss_cons (ps_if (PW.pt (pw_or (pt_not (pt_val (pe_f c_fits_room gu (hr.mono (by decide)) (by rfl) (pa_cons (pv 0) (pa_cons (pv 3) pa_nil))))) (pw_or1 (pt_cmpR op_le (pv 3) (pv 2) (nomark _))))) (pss_one (ps_ret pe_bl)) pss_nil)
  (pss_one (ps_set (i := 2) S.nd rfl (by first | exact Or.inl rfl | exact Or.inr rfl) (pv 3)))))
  (pss_one (ps_ret pe_bl))))), ?_⟩
  rintro _ _ ⟨r, x, rfl, rfl⟩
  cases x with
  | list es =>
    refine xr_ret (xs_seq (xs_if (et_not (et_B (ed_isi (ed_var rfl)))) (fun z => nomatch (show false = true from z)) fun _ => xs_next) (xs_seq (xs_asg ed_neg1) ?_))
    -- the loop: either an item is refused, or all rise
    show XS K _ [some (.int r), some (.list es), some (.int (-1)), none] _
    have key : ∀ (ds : List PyData) (a : Int) (o : Option PyData), (asc r a ds = true → ∃ b o', XF K (gName 3) (tSeq (tIfS (tOr (tNot (tB (tCall (SpR K R_fits_room) [] E0 (tCons (tVar 0) (tCons (tVar 3) tNil))))) (tTest (tOp (rI0 fun i j => .bl (decide (i ≤ j))) (tVar 3) (tVar 2)))) (tRet (tC (.bl false))) tNext) (tAsg (tVar 3) (gName 2))) ds [some (.int r), some (.list es), some (.int a), o] (.nx [some (.int r), some (.list es), some (.int b), o'])) ∧
        (asc r a ds = false → XF K (gName 3) (tSeq (tIfS (tOr (tNot (tB (tCall (SpR K R_fits_room) [] E0 (tCons (tVar 0) (tCons (tVar 3) tNil))))) (tTest (tOp (rI0 fun i j => .bl (decide (i ≤ j))) (tVar 3) (tVar 2)))) (tRet (tC (.bl false))) tNext) (tAsg (tVar 3) (gName 2))) ds [some (.int r), some (.list es), some (.int a), o] (.ret (.bool false))) := by
      intro ds
      induction ds with
      | nil => exact fun a o => ⟨fun _ => ⟨a, o, .nil⟩, fun z => nomatch (show true = false from z)⟩
      | cons x ds ih =>
        intro a o
        cases x with
        | int i =>
          have e : asc r a (.int i :: ds) = ((decide (0 ≤ i) && decide (i < r)) && (decide (a < i) && asc r i ds)) := rfl
          have t1 : ET K (tNot (tB (tCall (SpR K R_fits_room) [] E0 (tCons (tVar 0) (tCons (tVar 3) tNil))))) [some (.int r), some (.list es), some (.int a), some (.int i)] (!(decide (0 ≤ i) && decide (i < r))) :=
            et_not (et_B (ed_call (ea_cons (ed_var rfl) (ea_cons (ed_var rfl) ea_nil)) ⟨_, _, rfl, rfl⟩))
          have t2 : ET K (tTest (tOp (rI0 fun i j => .bl (decide (i ≤ j))) (tVar 3) (tVar 2))) [some (.int r), some (.list es), some (.int a), some (.int i)] (decide (i ≤ a)) := et_test (ed_op (ed_var rfl) (ed_var rfl) r_Ib)
          have t3 := et_or t1 (fun _ => t2)
          cases h1 : (decide (0 ≤ i) && decide (i < r)) with
          | false =>
            rw [h1] at e t3
            refine ⟨(fun z => nomatch (e.symm.trans z)), fun _ => .ret tg_name (xs_leave (xs_if t3 (fun _ => xs_ret ed_bl) (fun z => nomatch (show true = false from z))) trivial)⟩
          | true =>
            rw [h1] at e t3
            by_cases h2 : a < i
            · have e2 : decide (i ≤ a) = false := decide_eq_false (by omega)
              rw [decide_eq_true h2] at e
              rw [e2] at t3
              obtain ⟨k1, k2⟩ := ih i (some (.int i))
              refine ⟨fun z => ?_, fun z => ?_⟩
              · obtain ⟨b, o', f⟩ := k1 (e.symm.trans z)
                exact ⟨b, o', .go tg_name (xs_seq (xs_if t3 (fun z => nomatch (show false = true from z)) (fun _ => xs_next)) (xs_asg (ed_var rfl))) f⟩
              · exact .go tg_name (xs_seq (xs_if t3 (fun z => nomatch (show false = true from z)) (fun _ => xs_next)) (xs_asg (ed_var rfl))) (k2 (e.symm.trans z))
            · have e2 : decide (i ≤ a) = true := decide_eq_true (by omega)
              rw [decide_eq_false h2] at e
              rw [e2] at t3
              refine ⟨(fun z => nomatch (e.symm.trans z)), fun _ => .ret tg_name (xs_leave (xs_if t3 (fun _ => xs_ret ed_bl) (fun z => nomatch (show true = false from z))) trivial)⟩
        | _ =>
          refine ⟨(fun z => nomatch (show false = true from z)), fun _ => .ret tg_name (xs_leave (xs_if (et_or (b := true) (et_not (et_B (ed_call (ea_cons (ed_var rfl) (ea_cons (ed_var rfl) ea_nil)) ⟨_, _, rfl, rfl⟩))) (fun z => nomatch (show true = false from z))) (fun _ => xs_ret ed_bl) (fun z => nomatch (show true = false from z))) trivial)⟩
    obtain ⟨k1, k2⟩ := key es (-1) none
    cases h : asc r (-1) es with
    | true =>
      obtain ⟨b, o', f⟩ := k1 h
      refine xs_seq (xs_forL (ed_var rfl) f) (xs_is (xs_ret ed_bl) ?_)
      show Out.ret (.bool true) = Out.ret (.bool (asc r (-1) es))
      rw [h]
    | false =>
      refine xs_leave (xs_is (xs_forL (ed_var rfl) (k2 h)) ?_) trivial
      show Out.ret (.bool false) = Out.ret (.bool (asc r (-1) es))
      rw [h]
  | _ => exact xr_ret (xs_leave (xs_if (et_not (et_B (ed_isi (ed_var rfl)))) (fun _ => xs_ret ed_bl) (fun z => nomatch (show true = false from z))) trivial)
abbrev s_fits_presses : Stmt := topS 11
def R_fits_presses : List PyData → PyData → Prop := fun ds d => ∃ (r : Int) (x : PyData), ds = [.int r, x] ∧ Sm x ∧ d = .bool (fitsPresses r x)
theorem f_fits_presses (T : Bl mg) (a : At K mg "fits_presses" s_fits_presses) (c_fits_lights : Fc P w K mg base "fits_lights" ["rooms", "value"] 4 (SpR K R_fits_lights)) : Fc P w K mg base "fits_presses" ["rooms", "value"] 5 (SpR K R_fits_presses) := by
  have S : FnScope ["rooms", "value", "lights"] ["rooms", "value"] (defScope s_fits_presses) := ⟨rfl, rfl, rfl, by decide +kernel, rfl, by decide +kernel, by decide +kernel⟩
  refine fc_mk a S (fun _ _ _ _ _ _ us hl => match us, hl with | [_, _], _ => rfl) (by rintro _ _ ⟨r, x, rfl, _⟩; rfl) fun f cdv A outer s H E gu hr => ?_
  have hc : (cxOf CX0 P w K mg base ["rooms", "value", "lights"] "fits_presses" (defScope s_fits_presses) f cdv A outer s H E).nox.calm = true := rfl
  refine ⟨_, (pss_one (ps_ret (pe_and (pe_callB call_isi (by rfl) T.isinstance (by decide +kernel) (pa_cons (pv 1) (pa_cons (pe_bltn (v := .ty "list") (by rfl) T.list boot_list rfl) pa_nil))) (pe_one (pe_callB (cr_all hc) (by rfl) T.all (by decide +kernel) (pa_cons (pe_lc (own := [("lights", 2)]) hc S.nd (pi_list (pv 1)) (blkOk_by (N := ["rooms", "value", "lights"]) (sc := defScope s_fits_presses) (by decide +kernel)) (fun _ _ _ _ _ => (pg_name (i := 2) S.nd rfl (by first | exact Or.inl rfl | exact Or.inr rfl))) (fun _ _ _ _ _ => pts_nil) (fun _ _ _ _ _ => (pe_f c_fits_lights gu (hr.mono (by decide)) (by rfl) (pa_cons (pv 0) (pa_cons (pv 2) pa_nil))))) pa_nil)))))), ?_⟩
  rintro _ _ ⟨r, x, rfl, hs, rfl⟩
  cases x with
  | list es => exact xr_ret (xs_ret (ed_is (ed_and (ed_isi (ed_var rfl)) fun _ => ed_allL (fitsLights r) (ed_var rfl) (by decide) (Nat.le_trans (hs es (.inl rfl)) (by decide)) fun d _ => ed_call (ea_cons (ed_var rfl) (ea_cons (ed_var rfl) ea_nil)) ⟨_, _, rfl, rfl⟩) rfl))
  | _ => exact xr_ret (xs_ret (ed_is (ed_and (b := false) (ed_isi (ed_var rfl)) (fun z => nomatch (show false = true from z))) rfl))
/-- the module's constant NEXT -/
structure BN (mg : Str → Option Value) (t0 : Tok) : Prop where
  NEXT : mg "NEXT" = some (.int 1 t0)
def isShiftW (q : Int) : PyData → Bool
  | .int i => decide (-q ≤ i) && decide (i ≤ q)
  | _ => false
def fitsDoorW (q r : Int) : PyData → Bool
  | .tuple [n, m, s] => fitsLights r n && (fitsRoom r m && isShiftW q s)
  | _ => false
theorem fitsDoorW_one (r : Int) (x : PyData) : fitsDoorW 1 r x = fitsDoor r x := by
  cases x with
  | tuple ds => match ds with
    | [n, m, s] =>
      show (fitsLights r n && (fitsRoom r m && isShiftW 1 s)) = (fitsLights r n && (fitsRoom r m && isShift s))
      cases s <;> rfl
    | [] => rfl
    | [_] => rfl
    | [_, _] => rfl
    | _ :: _ :: _ :: _ :: _ => rfl
  | _ => rfl
theorem tup3_of {x : PyData} (h3 : isTup 3 x = true) : ∃ n m q, x = .tuple [n, m, q] := by
  cases x with
  | tuple ds => match ds, h3 with
    | [n, m, q], _ => exact ⟨n, m, q, rfl⟩
    | [], h => exact nomatch (show false = true from h)
    | [_], h => exact nomatch (show false = true from h)
    | [_, _], h => exact nomatch (show false = true from h)
    | _ :: _ :: _ :: _ :: _, h =>
      simp [isTup] at h
      omega
  | _ => exact nomatch (show false = true from h3)
theorem tup2_of {x : PyData} (h2 : isTup 2 x = true) : ∃ n m, x = .tuple [n, m] := by
  cases x with
  | tuple ds => match ds, h2 with
    | [n, m], _ => exact ⟨n, m, rfl⟩
    | [], h => exact nomatch (show false = true from h)
    | [_], h => exact nomatch (show false = true from h)
    | _ :: _ :: _ :: _, h =>
      simp [isTup] at h
      omega
  | _ => exact nomatch (show false = true from h2)
abbrev s_fits_door_within : Stmt := topS 13
def R_fits_door_within : List PyData → PyData → Prop := fun ds d => ∃ (r q : Int) (x : PyData), ds = [.int r, x, .int q] ∧ d = .bool (fitsDoorW q r x)
theorem f_fits_door_within (a : At K mg "fits_door_within" s_fits_door_within) (c_is_tuple_of : Fc P w K mg base "is_tuple_of" ["many", "value"] 1 (SpR K R_is_tuple_of)) (c_fits_lights : Fc P w K mg base "fits_lights" ["rooms", "value"] 4 (SpR K R_fits_lights)) (c_fits_room : Fc P w K mg base "fits_room" ["rooms", "value"] 3 (SpR K R_fits_room)) (c_is_whole : Fc P w K mg base "is_whole" ["value"] 1 (SpR K R_is_whole)) : Fc P w K mg base "fits_door_within" ["rooms", "value", "farthest"] 5 (SpR K R_fits_door_within) := by
  have S : FnScope ["rooms", "value", "farthest", "needs", "room", "shift"] ["rooms", "value", "farthest"] (defScope s_fits_door_within) := ⟨rfl, rfl, rfl, by decide +kernel, rfl, by decide +kernel, by decide +kernel⟩
  refine fc_mk a S (fun _ _ _ _ _ _ us hl => match us, hl with | [_, _, _], _ => rfl) (by rintro _ _ ⟨r, q, x, rfl, _⟩; rfl) fun f cdv A outer s H E gu hr => ?_
  have hc : (cxOf CX0 P w K mg base ["rooms", "value", "farthest", "needs", "room", "shift"] "fits_door_within" (defScope s_fits_door_within) f cdv A outer s H E).nox.calm = true := rfl
  refine ⟨_, (pss_cons (ps_if (pt_not (pt_val (pe_f c_is_tuple_of gu (hr.mono (by decide)) (by rfl) (pa_cons pe_int (pa_cons (pv 1) pa_nil))))) (pss_one (ps_ret pe_bl)) pss_nil)
  (pss_cons (ps_asg (pv 1) (pg_tup hc (pgs_cons (pg_name (i := 3) S.nd rfl (by first | exact Or.inl rfl | exact Or.inr rfl)) (pgs_cons (pg_name (i := 4) S.nd rfl (by first | exact Or.inl rfl | exact Or.inr rfl)) (pgs_cons (pg_name (i := 5) S.nd rfl (by first | exact Or.inl rfl | exact Or.inr rfl)) pgs_nil)))))
  (pss_cons (ps_if (PW.pt (pw_or (pt_not (pt_val (pe_f c_fits_lights gu (hr.mono (by decide)) (by rfl) (pa_cons (pv 0) (pa_cons (pv 3) pa_nil))))) (pw_or1 (pt_not (pt_val (pe_f c_fits_room gu (hr.mono (by decide)) (by rfl) (pa_cons (pv 0) (pa_cons (pv 4) pa_nil)))))))) (pss_one (ps_ret pe_bl)) pss_nil)
  (pss_one (ps_ret (pe_and (pe_f c_is_whole gu (hr.mono (by decide)) (by rfl) (pa_cons (pv 5) pa_nil)) (pe_one (pe_chain op_le op_le (pe_un un_neg (pv 2)) (pv 5) (pv 2) (by with_unfolding_all rfl))))))))), ?_⟩
  rintro _ _ ⟨r, q, x, rfl, rfl⟩
  have no : isTup 3 x = false → fitsDoorW q r x = false := by
    intro h
    cases x with
    | tuple ds => match ds, h with
      | [], _ => rfl
      | [_], _ => rfl
      | [_, _], _ => rfl
      | _ :: _ :: _ :: _ :: _, _ => rfl
      | [_, _, _], h => exact nomatch (show true = false from h)
    | _ => rfl
  cases h3 : isTup 3 x with
  | false => exact xr_ret (xs_leave (xs_if (et_not (a := false) (et_B (ed_call (ea_cons ed_int (ea_cons (ed_var rfl) ea_nil)) ⟨_, _, rfl, by rw [h3]⟩))) (fun _ => xs_is (xs_ret ed_bl) (by rw [no h3])) (fun z => nomatch (show true = false from z))) trivial)
  | true =>
    obtain ⟨n, m, s', rfl⟩ := tup3_of h3
    refine xr_ret (xs_seq (xs_if (et_not (et_B (ed_call (ea_cons ed_int (ea_cons (ed_var rfl) ea_nil)) ⟨_, _, rfl, rfl⟩))) (fun z => nomatch (show false = true from z)) (fun _ => xs_next)) (xs_seq (xs_asgG (ed_var rfl) (tg_tup (tgs_cons tg_name (tgs_cons tg_name (tgs_cons tg_name tgs_nil))))) ?_))
    have t1 : ET K _ [some (.int r), some (.tuple [n, m, s']), some (.int q), some n, some m, some s'] _ := et_or (et_not (et_B (ed_call (K := K) (R := R_fits_lights) (E := E0) (ea_cons (ed_var (i := 0) rfl) (ea_cons (ed_var (i := 3) rfl) ea_nil)) ⟨_, _, rfl, rfl⟩))) fun _ => et_not (et_B (ed_call (K := K) (R := R_fits_room) (E := E0) (ea_cons (ed_var (i := 0) rfl) (ea_cons (ed_var (i := 4) rfl) ea_nil)) ⟨_, _, rfl, rfl⟩))
    have e : fitsDoorW q r (.tuple [n, m, s']) = (fitsLights r n && (fitsRoom r m && isShiftW q s')) := rfl
    cases h1 : fitsLights r n with
    | false =>
      rw [h1] at t1 e
      exact xs_leave (xs_if t1 (fun _ => xs_is (xs_ret ed_bl) (by rw [e]; rfl)) (fun z => nomatch (show true = false from z))) trivial
    | true =>
      cases h2 : fitsRoom r m with
      | false =>
        rw [h1, h2] at t1 e
        exact xs_leave (xs_if t1 (fun _ => xs_is (xs_ret ed_bl) (by rw [e]; rfl)) (fun z => nomatch (show true = false from z))) trivial
      | true =>
        rw [h1, h2] at t1 e
        refine xs_seq (xs_if t1 (fun z => nomatch (show false = true from z)) (fun _ => xs_next)) (xs_ret ?_)
        rw [e]
        cases s' with
        | int i => exact ed_is (ed_and (a := true) (b := decide (-q ≤ i) && decide (i ≤ q)) (ed_call (ea_cons (ed_var (i := 5) rfl) ea_nil) ⟨_, rfl, rfl⟩) fun _ => ed_chain (ed_un (ed_var (i := 2) rfl) r1_neg) (ed_var (i := 5) rfl) r_Ib (fun _ => ed_var (i := 2) rfl) (fun _ => r_Ib)) rfl
        | _ => exact ed_is (ed_and (a := false) (b := false) (ed_call (ea_cons (ed_var (i := 5) rfl) ea_nil) ⟨_, rfl, rfl⟩) (fun z => nomatch z)) rfl
abbrev s_fits_door : Stmt := topS 12
def R_fits_door : List PyData → PyData → Prop := fun ds d => ∃ (r : Int) (x : PyData), ds = [.int r, x] ∧ d = .bool (fitsDoor r x)
theorem f_fits_door {t0 : Tok} (T : BN mg t0) (a : At K mg "fits_door" s_fits_door) (c_fits_door_within : Fc P w K mg base "fits_door_within" ["rooms", "value", "farthest"] 5 (SpR K R_fits_door_within)) : Fc P w K mg base "fits_door" ["rooms", "value"] 6 (SpR K R_fits_door) := by
  have S : FnScope ["rooms", "value"] ["rooms", "value"] (defScope s_fits_door) := ⟨rfl, rfl, rfl, by decide +kernel, rfl, by decide +kernel, by decide +kernel⟩
  refine fc_mk a S (fun _ _ _ _ _ _ us hl => match us, hl with | [_, _], _ => rfl) (by rintro _ _ ⟨r, x, rfl, _⟩; rfl) fun f cdv A outer s H E gu hr => ⟨_, (pss_one (ps_ret (pe_f c_fits_door_within gu (hr.mono (by decide)) (by rfl) (pa_cons (pv 0) (pa_cons (pv 1) (pa_cons (pe_glob (v := .int 1) (by rfl) T.NEXT ⟨_, rfl⟩) pa_nil)))))), ?_⟩
  rintro _ _ ⟨r, x, rfl, rfl⟩
  rw [← fitsDoorW_one]
  exact xr_ret (xs_ret (ed_call (ea_cons (ed_var rfl) (ea_cons (ed_var rfl) (ea_cons ed_int ea_nil))) ⟨_, _, _, rfl, rfl⟩))
/-- a level by what its doors have to be -/
def fitsLevelW2 (g : Int → PyData → Bool) : PyData → PyData → Bool
  | .int r, .list ds => decide (1 ≤ r) && ds.all (g r)
  | _, _ => false
def fitsLevelW (g : Int → PyData → Bool) : PyData → Bool
  | .tuple [a, b] => fitsLevelW2 g a b
  | _ => false
theorem fitsLevelW_door (x : PyData) : fitsLevelW fitsDoor x = fitsLevel x := by
  cases x with
  | tuple ds => match ds with
    | [a, b] => cases a <;> cases b <;> rfl
    | [] => rfl
    | [_] => rfl
    | _ :: _ :: _ :: _ => rfl
  | _ => rfl
def R_one (g : Int → PyData → Bool) : List PyData → PyData → Prop := fun ds d => ∃ (r : Int) (x : PyData), ds = [.int r, x] ∧ d = .bool (g r x)
abbrev s_fits_level_with : Stmt := topS 15
/-- handed the def at one -/
def SpW (K : Fg) (one : Addr) (g : Int → PyData → Bool) : Sp := fun vs H Q _ => ∃ B v x, vs = [v, .ref one] ∧ Ex B H ∧ Da K B v x ∧ (∀ r es, x = .tuple [r, .list es] → es.length ≤ 30000) ∧ ∀ u B' H', Le B H B' H' → Da K B' u (.bool (fitsLevelW g x)) → Q u H'
theorem f_fits_level_with (T : Bl mg) (a : At K mg "fits_level_with" s_fits_level_with) (c_is_tuple_of : Fc P w K mg base "is_tuple_of" ["many", "value"] 1 (SpR K R_is_tuple_of)) (c_is_whole : Fc P w K mg base "is_whole" ["value"] 1 (SpR K R_is_whole)) {one : Addr} {g : Int → PyData → Bool} (hone : CPc P w K mg base 6 one (SpR K (R_one g))) : Fc P w K mg base "fits_level_with" ["value", "fits_one"] 7 (SpW K one g) := by
  have S : FnScope ["value", "fits_one", "rooms", "doors", "door"] ["value", "fits_one"] (defScope s_fits_level_with) := ⟨rfl, rfl, rfl, by decide +kernel, rfl, by decide +kernel, by decide +kernel⟩
  refine fcg_mk a S (fun _ _ _ _ _ _ us hl => match us, hl with | [_, _], _ => rfl) (by rintro _ _ _ _ ⟨_, _, _, rfl, _⟩; rfl) fun f cdv A outer s H vs Q E gu hr h => ?_
  have hc : (cxOf CX0 P w K mg base ["value", "fits_one", "rooms", "doors", "door"] "fits_level_with" (defScope s_fits_level_with) f cdv A outer s H E).nox.calm = true := rfl
  obtain ⟨B, v, x, rfl, sx, dv, hz, q⟩ := h
  refine ⟨_, (pss_cons (ps_if (pt_not (pt_val (pe_f c_is_tuple_of gu (hr.mono (by decide)) (by rfl) (pa_cons pe_int (pa_cons (pv 0) pa_nil))))) (pss_one (ps_ret pe_bl)) pss_nil)
  (pss_cons (ps_asg (pv 0) (pg_tup hc (pgs_cons (pg_name (i := 2) S.nd rfl (by first | exact Or.inl rfl | exact Or.inr rfl)) (pgs_cons (pg_name (i := 3) S.nd rfl (by first | exact Or.inl rfl | exact Or.inr rfl)) pgs_nil))))
  (pss_cons (ps_if (PW.pt (pw_or (pt_not (pt_val (pe_f c_is_whole gu (hr.mono (by decide)) (by rfl) (pa_cons (pv 2) pa_nil)))) (pw_or (pt_cmpR op_lt (pv 2) pe_int (nomark _)) (pw_or1 (pt_not (pt_val (pe_callB call_isi (by rfl) T.isinstance (by decide +kernel) (pa_cons (pv 3) (pa_cons (pe_bltn (v := .ty "list") (by rfl) T.list boot_list rfl) pa_nil))))))))) (pss_one (ps_ret pe_bl)) pss_nil)
  (pss_one (ps_ret (pe_callB (cr_all hc) (by rfl) T.all (by decide +kernel) (pa_cons (pe_lc (own := [("door", 4)]) hc S.nd (pi_list (pv 3)) (blkOk_by (N := ["value", "fits_one", "rooms", "doors", "door"]) (sc := defScope s_fits_level_with) (by decide +kernel)) (fun _ _ _ _ _ => (pg_name (i := 4) S.nd rfl (by first | exact Or.inl rfl | exact Or.inr rfl))) (fun _ _ _ _ _ => pts_nil) (fun _ _ _ _ _ => (pe_callNc (k := 6) (CP := CPc P w K mg base 6) (fun _ _ h => h) gu (hr.mono (by decide)) (i := 1) rfl (by first | exact Or.inl rfl | exact Or.inr (Or.inl rfl) | exact Or.inr (Or.inr rfl)) (pa_cons (pv 2) (pa_cons (pv 4) pa_nil))))) pa_nil))))))), ?_⟩
  have sd : SD K B (L2.start ["value", "fits_one", "rooms", "doors", "door"] [v, .ref one]) [some x, none, none, none, none] := by
    refine ⟨rfl, fun i d e => ?_⟩
    match i, e with
    | 0, e =>
      cases e
      exact ⟨v, rfl, dv⟩
    | 1, e => exact nomatch (show (none : Option PyData) = some d from Option.some.inj e)
    | 2, e => exact nomatch (show (none : Option PyData) = some d from Option.some.inj e)
    | 3, e => exact nomatch (show (none : Option PyData) = some d from Option.some.inj e)
    | 4, e => exact nomatch (show (none : Option PyData) = some d from Option.some.inj e)
    | _ + 5, e => exact nomatch e
  let J : L2.St → Prop := fun σ => σ[1]? = some (some (.ref one))
  have js : J (L2.start ["value", "fits_one", "rooms", "doors", "door"] [v, .ref one]) := rfl
  have no : isTup 2 x = false → fitsLevelW g x = false := by
    intro h
    cases x with
    | tuple ds => match ds, h with
      | [], _ => rfl
      | [_], _ => rfl
      | _ :: _ :: _ :: _, _ => rfl
      | [_, _], h => exact nomatch (show true = false from h)
    | _ => rfl
  cases h2 : isTup 2 x with
  | false =>
    refine (xs_leave (o := .ret (.bool (fitsLevelW g x))) (xs_if (et_not (a := false) (et_B (ed_call (ea_cons ed_int (ea_cons (ed_var (i := 0) rfl) ea_nil)) ⟨_, _, rfl, by rw [h2]⟩))) (fun _ => xs_is (xs_ret ed_bl) (by rw [no h2])) (fun z => nomatch (show true = false from z))) trivial) _ B H _ sx sd q
  | true =>
    obtain ⟨n, m, rfl⟩ := tup2_of h2
    refine xss_seq (J := J) (ρ1 := [some (.tuple [n, m]), none, none, none, none]) (ks_skip (et_not (a := true) (et_B (ed_call (K := K) (R := R_is_tuple_of) (E := E0) (ea_cons (ed_int (i := 2)) (ea_cons (ed_var (i := 0) rfl) ea_nil)) ⟨2, .tuple [n, m], rfl, rfl⟩)))) (o := .ret (.bool (fitsLevelW g (.tuple [n, m])))) ?_ _ js B H _ sx sd q
    refine xss_seq (J := J) (ρ1 := [some (.tuple [n, m]), none, some n, some m, none]) (ks_asg2 (ed_var (i := 0) rfl) (fun σ a b h => by
      show ((σ.set 2 (some a)).set 3 (some b))[1]? = _
      rw [List.getElem?_set_ne (by decide), List.getElem?_set_ne (by decide)]
      exact h)) ?_
    cases hn : isWhole n with
    | false =>
      refine xss_of (xs_leave (xs_if (et_or (a := true) (b := true) (et_is (et_not (et_B (ed_call (ea_cons (ed_var (i := 2) rfl) ea_nil) ⟨_, rfl, rfl⟩))) (by rw [hn]; rfl)) (fun z => nomatch z)) (fun _ => xs_is (xs_ret ed_bl) ?_) (fun z => nomatch (show true = false from z))) trivial)
      cases n <;> first | rfl | exact nomatch (show true = false from hn)
    | true =>
      obtain ⟨r, rfl⟩ := whole_int hn
      have t1 : ET K _ [some (.tuple [.int r, m]), none, some (.int r), some m, none] _ := et_or (et_not (et_B (ed_call (K := K) (R := R_is_whole) (E := E0) (ea_cons (ed_var (i := 2) rfl) ea_nil) ⟨_, rfl, rfl⟩))) fun _ => et_or (et_test (ed_op (ed_var (i := 2) rfl) (ed_int (i := 1)) (r_Ib (g := fun i j => decide (i < j))))) fun _ => et_not (et_B (ed_isi (T := "list") (ed_var (i := 3) rfl)))
      by_cases h1 : r < 1
      · refine xss_of (xs_leave (xs_if (et_is t1 (b := true) ?_) (fun _ => xs_is (xs_ret ed_bl) ?_) (fun z => nomatch (show true = false from z))) trivial)
        · rw [decide_eq_true h1]
          rfl
        · show Out.ret (.bool false) = Out.ret (.bool (fitsLevelW g (.tuple [.int r, m])))
          cases m with
          | list es =>
            show Out.ret (.bool false) = Out.ret (.bool (decide (1 ≤ r) && es.all (g r)))
            rw [decide_eq_false (by omega)]
            rfl
          | _ => rfl
      · rw [decide_eq_false h1] at t1
        cases m with
        | list es =>
          refine xss_seq (J := J) (ks_skip t1) (xss_ret ?_)
          have e : fitsLevelW g (.tuple [.int r, .list es]) = es.all (g r) := by
            show (decide (1 ≤ r) && es.all (g r)) = es.all (g r)
            rw [decide_eq_true (by omega)]
            rfl
          rw [e]
          refine eds_allL (J := J) (g r) (ed_var (i := 3) rfl) (by decide) (Nat.le_trans (hz _ es rfl) (by decide)) (fun σ x h => by
            show ((L2.wipe σ [4]).set 4 (some x))[1]? = _
            rw [List.getElem?_set_ne (by decide)]
            show (σ.set 4 none)[1]? = _
            rw [List.getElem?_set_ne (by decide)]
            exact h) fun d _ => eds_callN hone (ea_cons (ed_var (i := 2) rfl) (ea_cons (ed_var (i := 4) rfl) ea_nil)) ⟨_, _, rfl, rfl⟩
        | _ => exact xss_of (xs_leave (xs_if t1 (fun _ => xs_ret ed_bl) (fun z => nomatch (show true = false from z))) trivial)
abbrev s_fits_level : Stmt := topS 14
def R_fits_level : List PyData → PyData → Prop := fun ds d => ∃ x : PyData, ds = [x] ∧ (∀ r es, x = .tuple [r, .list es] → es.length ≤ 30000) ∧ d = .bool (fitsLevel x)
theorem ed_callW {E : XK} {te : TE} {ρ : En} {one : Addr} {g : Int → PyData → Bool} {x : PyData} (h : ED K te ρ x) (hz : ∀ r es, x = .tuple [r, .list es] → es.length ≤ 30000) : ED K (tCall (SpW K one g) [] E (tCons te (tCons (tC (.ref one)) tNil))) ρ (.bool (fitsLevelW g x)) := fun σ B H s sd Q q =>
  h σ B H s sd _ fun v B1 H1 l1 d1 => ⟨B1, v, x, rfl, l1.sub, d1, hz, fun u B2 H2 l2 d2 => q u B2 H2 (l1.tr l2) d2⟩
theorem f_fits_level {a_fits_door : Addr} (m_fits_door : mg "fits_door" = some (.ref a_fits_door)) (a : At K mg "fits_level" s_fits_level) (c_fits_level_with : Fc P w K mg base "fits_level_with" ["value", "fits_one"] 7 (SpW K a_fits_door fitsDoor)) : Fc P w K mg base "fits_level" ["value"] 8 (SpR K R_fits_level) := by
  have S : FnScope ["value"] ["value"] (defScope s_fits_level) := ⟨rfl, rfl, rfl, by decide +kernel, rfl, by decide +kernel, by decide +kernel⟩
  refine fc_mk a S (fun _ _ _ _ _ _ us hl => match us, hl with | [_], _ => rfl) (by rintro _ _ ⟨x, rfl, _⟩; rfl) fun f cdv A outer s H E gu hr => ⟨_, (pss_one (ps_ret (pe_f c_fits_level_with gu (hr.mono (by decide)) (by rfl) (pa_cons (pv 0) (pa_cons (pe_glob (v := .ref a_fits_door) (by rfl) m_fits_door rfl) pa_nil))))), ?_⟩
  rintro _ _ ⟨x, rfl, hz, rfl⟩
  rw [← fitsLevelW_door]
  exact xr_ret (xs_ret (ed_callW (ed_var rfl) hz))
end
end TD

set_option maxHeartbeats 4000000
namespace TD
open PySem PySem.Spec PyProof.Rows L2
open Evl (Ex)
/-! # what the law draws -/
structure Bg (mg : Str → Option Value) : Prop where
  int : mg "int" = none
  len : mg "len" = none
  max : mg "max" = none
  sum : mg "sum" = none
  range : mg "range" = none
section
variable {X : Cx}
/-- a power of a great number -/
theorem op_powB : OpR X (binaryOp .Pow) (rI (fun i j => i = 10 ^ 60 ∧ j = 10) fun i j => .int (i ^ j.toNat)) := opI fun i j t u s Q E hc q => by
  obtain ⟨rfl, rfl⟩ := hc
  exact PySem.AutoIntOps.pow_4 (by decide) (by decide) (by decide) (by decide) (by decide +kernel) q
end
def rInt1 : List V → Hp → VK → Prop := fun xs H Q => (∃ i, xs = [.int i] ∧ Q (.int i) H) ∨ ∃ k, xs = [.bl k] ∧ Q (.int (if k then 1 else 0)) H
section
variable {P : Program} {w : World} {K : Fg} {mg : Str → Option Value} {base : Heap}
theorem rc_int {i : Int} : RcD K rInt1 [.int i] (.int i) := fun vs B H s h Q q => by
  obtain ⟨v, r, rfl, a, t⟩ := h.inv1
  cases a
  cases t
  exact .inl ⟨i, rfl, q _ B H (Le.rfl' s) (.int _)⟩
def hashV (s i : Int) : Int := ((((s * 1140671 + 27644437 * i * i + 131 * i + 19) % 2147483629) * ((s * 1140671 + 27644437 * i * i + 131 * i + 19) % 2147483629) + 62089 * i + 32416187) % 2147483587) * 48271 % 2147483647
theorem hashV_in (s i : Int) : 0 ≤ hashV s i ∧ hashV s i < 2147483647 := ⟨Int.emod_nonneg _ (by decide), Int.emod_lt_of_pos _ (by decide)⟩
abbrev s__law_hash : Stmt := topS 30
def R__law_hash : List PyData → PyData → Prop := fun ds d => ∃ s i : Int, ds = [.int s, .int i] ∧ (0 ≤ s ∧ s < 2147483647) ∧ (0 ≤ i ∧ i ≤ 1000000000) ∧ d = .int (hashV s i)
theorem f__law_hash (T : Bg mg) (a : At K mg "_law_hash" s__law_hash) : Fc P w K mg base "_law_hash" ["_law_seed", "_law_index"] 1 (SpR K R__law_hash) := by
  have S : FnScope ["_law_seed", "_law_index", "_law_mixed"] ["_law_seed", "_law_index"] (defScope s__law_hash) := ⟨rfl, rfl, rfl, by decide +kernel, rfl, by decide +kernel, by decide +kernel⟩
  refine fc_mk a S (fun _ _ _ _ _ _ us hl => match us, hl with | [_, _], _ => rfl) (by rintro _ _ ⟨s, i, rfl, _⟩; rfl) fun f cdv A outer s H E gu hr => ⟨_, (pss_cons (ps_set (i := 2) S.nd rfl (by first | exact Or.inl rfl | exact Or.inr rfl) (pe_op op_mod (pe_callTy call_int1 (by rfl) T.int (by decide +kernel) (pa_cons (pe_op op_add (pe_op op_add (pe_op op_add (pe_op op_mul (pv 0) pe_int) (pe_op op_mul (pe_op op_mul pe_int (pv 1)) (pv 1))) (pe_op op_mul pe_int (pv 1))) pe_int) pa_nil)) pe_int))
  (pss_cons (ps_set (i := 2) S.nd rfl (by first | exact Or.inl rfl | exact Or.inr rfl) (pe_op op_mod (pe_callTy call_int1 (by rfl) T.int (by decide +kernel) (pa_cons (pe_op op_add (pe_op op_add (pe_op op_mul (pv 2) (pv 2)) (pe_op op_mul pe_int (pv 1))) pe_int) pa_nil)) pe_int))
  (pss_one (ps_ret (pe_op op_mod (pe_callTy call_int1 (by rfl) T.int (by decide +kernel) (pa_cons (pe_op op_mul (pv 2) pe_int) pa_nil)) pe_int))))), ?_⟩
  rintro _ _ ⟨s, i, rfl, hs, hi, rfl⟩
  have m1 : ∀ {x y : Int}, (-(2 ^ 64) < x ∧ x < 2 ^ 64) → CMul x y := fun h => .inl h
  have m2 : ∀ {x y : Int}, (-(2 ^ 64) < y ∧ y < 2 ^ 64) → CMul x y := fun h => .inr h
  have q1 := Int.emod_nonneg (s * 1140671 + 27644437 * i * i + 131 * i + 19) (show (2147483629 : Int) ≠ 0 by decide)
  have q2 := Int.emod_lt_of_pos (s * 1140671 + 27644437 * i * i + 131 * i + 19) (show (0 : Int) < 2147483629 by decide)
  have i64 : -(2 ^ 64) < i ∧ i < 2 ^ 64 := ⟨by omega, by omega⟩
  refine xr_ret (xs_seq (xs_asg (ed_op (ed_cb (ea_cons (ed_op (ed_op (ed_op (ed_op (ed_var rfl) ed_int (r_IC (m2 (by decide)))) (ed_op (ed_op ed_int (ed_var rfl) (r_IC (m1 (by decide)))) (ed_var rfl) (r_IC (m2 i64))) r_Ii) (ed_op ed_int (ed_var rfl) (r_IC (m1 (by decide)))) r_Ii) ed_int r_Ii) ea_nil) rc_int) ed_int (r_IC (show (0 : Int) < _ by decide)))) ?_)
  refine xs_seq (xs_asg (ed_op (ed_cb (ea_cons (ed_op (ed_op (ed_op (ed_var rfl) (ed_var rfl) (r_IC (m1 ⟨by omega, by omega⟩))) (ed_op ed_int (ed_var rfl) (r_IC (m1 (by decide)))) r_Ii) ed_int r_Ii) ea_nil) rc_int) ed_int (r_IC (show (0 : Int) < _ by decide)))) ?_
  exact xs_ret (ed_op (ed_cb (ea_cons (ed_op (ed_var rfl) ed_int (r_IC (m2 (by decide)))) ea_nil) rc_int) ed_int (r_IC (show (0 : Int) < _ by decide)))
/-! ## the generator asked once -/
theorem bits_le {m : Int} (h : 1 ≤ m ∧ m ≤ 10 ^ 30) : Builtin.Int.intBits m ≤ 100 := intBits_le_iff.mpr (by
  have : m.natAbs ≤ 10 ^ 30 := by omega
  exact Nat.lt_of_le_of_lt this (by decide))
def preRnd : List PyData → Prop := fun ds => ∃ m : Int, ds = [.int m] ∧ 1 ≤ m ∧ m ≤ 10 ^ 30
def R_rnd : List PyData → PyData → Prop := fun ds d => ∃ m i : Int, ds = [.int m] ∧ d = .int i ∧ 0 ≤ i ∧ i < m
abbrev s__law_random : Stmt := topS 31
theorem f__law_random (T : Bg mg) (a : At K mg "_law_random" s__law_random) (c__law_hash : Fc P w K mg base "_law_hash" ["_law_seed", "_law_index"] 1 (SpR K R__law_hash)) : Fc P w K mg base "_law_random" ["_law_generator_here", "_law_bound"] 2 (SpG K 5 preRnd R_rnd) := by
  have S : FnScope ["_law_generator_here", "_law_bound", "_law_drawn", "_law_turn"] ["_law_generator_here", "_law_bound"] (defScope s__law_random) := ⟨rfl, rfl, rfl, by decide +kernel, rfl, by decide +kernel, by decide +kernel⟩
  obtain ⟨f, fd, F, hm⟩ := a
  refine ⟨f, fd, hm, F.kp, F.binds (fun _ _ _ _ _ _ us hl => match us, hl with | [_, _], _ => rfl), fnG F S ?_ ?_⟩
  · rintro vs H Q E ⟨g, ws, B, ds, n, rfl, _, _, _, hd, ⟨m, rfl, _⟩, _⟩
    have e := hd.len
    simp at e ⊢
    exact e
  intro cdv A outer s H vs Q E gu hr ⟨g, ws, B, ds, n, ev, sx, hg, ga, hd, ⟨m, ed, hm1, hm2⟩, q⟩
  subst ev ed
  obtain ⟨v, r, rfl, dv, dr⟩ := hd.inv1
  cases dv
  cases dr
  have hc : (cxOf CX0 P w K mg base ["_law_generator_here", "_law_bound", "_law_drawn", "_law_turn"] "_law_random" (defScope s__law_random) f cdv A outer s H E).nox.calm = true := rfl
  suffices h : ∃ t, PSs (cxOf CX0 P w K mg base ["_law_generator_here", "_law_bound", "_law_drawn", "_law_turn"] "_law_random" (defScope s__law_random) f cdv A outer s H E).nox (defBody s__law_random) t ∧ t { nx := fun _ H' => Q .non H', rt := Q } (L2.start ["_law_generator_here", "_law_bound", "_law_drawn", "_law_turn"] [.ref g, .int m]) H by
    obtain ⟨t, h1, h2⟩ := h
    exact ⟨t, h1.nox, h2⟩
  refine ⟨_, (pss_cons (ps_if (pt_cmpR op_gt (pe_ix ix_list (pv 0) pe_int (fun _ _ => rfl)) pe_int (nomark _)) (pss_cons (ps_set (i := 2) S.nd rfl (by first | exact Or.inl rfl | exact Or.inr rfl) (pe_op op_mod (pe_callTy call_int1 (by rfl) T.int (by decide +kernel) (pa_cons (pe_ix ix_list (pv 0) pe_int (fun _ _ => rfl)) pa_nil)) (pv 1)))
  (pss_cons (ps_asg (pe_op op_fdivW (pe_ix ix_list (pv 0) pe_int (fun _ _ => rfl)) (pv 1)) (pg_sub (pv 0) pe_int set_list))
  (pss_one (ps_ret (pv 2))))) pss_nil)
  (pss_cons (ps_set (i := 2) S.nd rfl (by first | exact Or.inl rfl | exact Or.inr rfl) pe_int)
  (pss_cons (ps_for PassesOwn.never hc (pi_range1 (by rfl) T.range (pa_cons (pe_op op_add pe_int (pe_op op_fdiv (pe_bits (pv 1)) pe_int)) pa_nil)) (pg_name (i := 3) S.nd rfl (by first | exact Or.inl rfl | exact Or.inr rfl))
    (pss_cons (ps_asg (pe_op op_add (pe_ix ix_list (pv 0) pe_int (fun _ _ => rfl)) pe_int) (pg_sub (pv 0) pe_int set_list))
  (pss_one (ps_set (i := 2) S.nd rfl (by first | exact Or.inl rfl | exact Or.inr rfl) (pe_op op_add (pe_op op_mul (pv 2) pe_int) (pe_f c__law_hash gu (hr.mono (by decide)) (by rfl) (pa_cons (pe_ix ix_list (pv 0) pe_int (fun _ _ => rfl)) (pa_cons (pe_ix ix_list (pv 0) pe_int (fun _ _ => rfl)) pa_nil))))))))
  (pss_one (ps_ret (pe_op op_mod (pe_callTy call_int1 (by rfl) T.int (by decide +kernel) (pa_cons (pv 2) pa_nil)) (pv 1))))))), ?_⟩
  obtain ⟨a, b, c, eg, ha, hb, hc0, hcn⟩ := ga
  have ex0 : ∀ (x y z : Int) (H' : Hp), (∀ p o, p ≠ g → H p = some o → H' p = some o) → H' g = some (.lst [.int x, .int y, .int z]) → 0 ≤ x → (0 ≤ y ∧ y < 2147483647) → 0 ≤ z → z + (n : Int) ≤ 1000000000 → ∀ i : Int, 0 ≤ i → i < m → Q (.int i) H' := by
    intro x y z H' k e h1 h2 h3 h4 i h5 h6
    refine q (.int i) (.int i) B H' ⟨k, Ex.refl B, fun p o hp => ?_, fun _ h _ => h⟩ ⟨x, y, z, e, h1, h2, h3, h4⟩ (.int i) ⟨m, i, rfl, rfl, h5, h6⟩
    have np : p ≠ g := fun z => by
      rw [z, hg] at hp
      cases hp
    exact k p o np (sx p o hp)
  have mlog : m.natAbs.log2 < 9000 := by
    have h1 : m.natAbs < 2 ^ 100 := Nat.lt_of_le_of_lt (show m.natAbs ≤ 10 ^ 30 by omega) (by decide)
    exact Nat.lt_of_lt_of_le (PySem.Flt.log2_lt_of (by decide) h1) (by decide)
  -- if generator[0] > 0
  refine ⟨.ref g, rfl, g, _, 0, .int a, rfl, rfl, SqL.of eg, atI_nat (j := 0) rfl, a, 0, rfl, rfl, _, rfl, ite2 (fun h => ?_) (fun h => ?_)⟩
  · have h0 := of_decide_eq_true h
    refine ⟨.ref g, rfl, g, _, 0, .int a, rfl, rfl, SqL.of eg, atI_nat (j := 0) rfl, .inl ⟨a, rfl, .int m, rfl, a, m, rfl, rfl, (show (0 : Int) < m by omega), ?_⟩⟩
    refine ⟨.ref g, rfl, g, _, 0, .int a, rfl, rfl, SqL.of eg, atI_nat (j := 0) rfl, .int m, rfl, a, m, rfl, rfl, ⟨by omega, mlog⟩, .ref g, rfl, g, _, 0, 0, rfl, rfl, eg, rfl, ?_⟩
    refine ⟨.int (a % m), rfl, ?_⟩
    exact ex0 (a / m) b c _ (fun p o np e => by rw [upd_ne np]; exact e) upd_same (Int.ediv_nonneg ha (by omega)) hb hc0 (by omega) _ (Int.emod_nonneg _ (by omega)) (Int.emod_lt_of_pos _ (by omega))
  · -- the hash's turns
    have hbits := bits_le ⟨hm1, hm2⟩
    have hl : (0 : Int) ≤ (Builtin.Int.intBits m : Int) / 30 ∧ (Builtin.Int.intBits m : Int) / 30 ≤ 3 := by omega
    generalize hk : (Builtin.Int.intBits m : Int) / 30 = k at hl
    refine ⟨.int m, rfl, m, rfl, _, 30, rfl, rfl, ⟨by decide, by decide⟩, 1, _, rfl, rfl, _, rfl, ?_, ?_, ?_⟩
    · rw [hk]
      omega
    · rw [hk]
      omega
    rw [hk]
    refine for_range (lo := 0) (n := (1 + k).toNat) (fun i σ' H' => ∃ (dr c' : Int) (o : Option V), σ' = [some (.ref g), some (.int m), some (.int dr), o] ∧ H' g = some (.lst [.int a, .int b, .int c']) ∧ (0 ≤ c' ∧ c' ≤ c + (i : Int)) ∧ ∀ p o, p ≠ g → H p = some o → H' p = some o)
      ⟨0, c, none, rfl, eg, ⟨hc0, by omega⟩, fun p o _ e => e⟩ ?_ ?_
    · rintro i σ' H' hi ⟨dr, c', o, rfl, e, hc', kp⟩
      have e1 : (upd H' g (.lst [.int a, .int b, .int (c' + 1)])) g = some (.lst [.int a, .int b, .int (c' + 1)]) := upd_same
      refine ⟨.ref g, rfl, g, _, 2, .int c', rfl, rfl, SqL.of e, atI_nat (j := 2) rfl, c', 1, rfl, rfl, .ref g, rfl, g, _, 2, 2, rfl, rfl, e, rfl, ?_⟩
      refine ⟨.int dr, rfl, dr, _, rfl, rfl, .inr (by decide), .ref g, rfl, g, _, 1, .int b, rfl, rfl, SqL.of e1, atI_nat (j := 1) rfl, .ref g, rfl, g, _, 2, .int (c' + 1), rfl, rfl, SqL.of e1, atI_nat (j := 2) rfl, ?_⟩
      refine ⟨_, [.int b, .int (c' + 1)], .int (hashV b (c' + 1)), Ex.refl _, .cons (.int _) (.cons (.int _) .nil), ⟨b, c' + 1, rfl, hb, ⟨by omega, by omega⟩, rfl⟩, ?_⟩
      intro v B3 H3 l3 d3
      cases d3
      refine ⟨_, _, rfl, rfl, _, c' + 1, _, rfl, l3.ex g _ e1, ⟨by omega, by omega⟩, fun p o np z => l3.ex p o ?_⟩
      rw [upd_ne np]
      exact kp p o np z
    · rintro σ' H' ⟨dr, c', o, rfl, e, hc', kp⟩
      refine ⟨.int dr, rfl, .inl ⟨dr, rfl, .int m, rfl, dr, m, rfl, rfl, (show (0 : Int) < m by omega), ?_⟩⟩
      exact ex0 a b c' _ kp e ha hb hc'.1 (by omega) _ (Int.emod_nonneg _ (by omega)) (Int.emod_lt_of_pos _ (by omega))
/-! ## the seed, the generator -/
abbrev s__law_cell : Stmt := topS 32
def spCell (K : Fg) : Sp := fun vs H Q _ => ∃ (s : Addr) (ns : List Int) (i : Int), vs = [.ref s, .int i] ∧ SqL K H s (ns.map V.int) ∧ 0 ≤ i ∧ i ≤ 1000 ∧ ∀ (z : Int) H', Ex H H' → Q (.int z) H'
theorem f__law_cell (T : Bg mg) (a : At K mg "_law_cell" s__law_cell) : Fc P w K mg base "_law_cell" ["_law_script", "_law_index"] 1 (spCell K) := by
  have S : FnScope ["_law_script", "_law_index"] ["_law_script", "_law_index"] (defScope s__law_cell) := ⟨rfl, rfl, rfl, by decide +kernel, rfl, by decide +kernel, by decide +kernel⟩
  obtain ⟨f, fd, F, hm⟩ := a
  refine ⟨f, fd, hm, F.kp, F.binds (fun _ _ _ _ _ _ us hl => match us, hl with | [_, _], _ => rfl), fnG F S ?_ ?_⟩
  · rintro vs H Q E ⟨s, ns, i, rfl, _⟩
    rfl
  intro cdv A outer s H vs Q E gu hr ⟨sc, ns, i, ev, hS, h0, h1, q⟩
  subst ev
  have hc : (cxOf CX0 P w K mg base ["_law_script", "_law_index"] "_law_cell" (defScope s__law_cell) f cdv A outer s H E).nox.calm = true := rfl
  suffices h : ∃ t, PSs (cxOf CX0 P w K mg base ["_law_script", "_law_index"] "_law_cell" (defScope s__law_cell) f cdv A outer s H E).nox (defBody s__law_cell) t ∧ t { nx := fun _ H' => Q .non H', rt := Q } (L2.start ["_law_script", "_law_index"] [.ref sc, .int i]) H by
    obtain ⟨t, h1, h2⟩ := h
    exact ⟨t, h1.nox, h2⟩
  refine ⟨_, (pss_cons (ps_if (pt_cmpR op_lt (pv 1) (pe_callB call_len_seq (by rfl) T.len (by decide +kernel) (pa_cons (pv 0) pa_nil)) (nomark _)) (pss_one (ps_ret (pe_ix ix_list (pv 0) (pv 1) (fun _ _ => rfl)))) pss_nil)
  (pss_one (ps_ret (pe_op op_mod (pe_callB (cr_sum hc) (by rfl) T.sum (by decide +kernel) (pa_cons (pe_slice sl_list (pv 0) po_none (po_some pe_int)) pa_nil)) pe_int)))), ?_⟩
  refine ⟨.int i, rfl, .ref sc, rfl, sc, _, rfl, .inl hS, i, _, rfl, rfl, _, rfl, ite2 (fun h => ?_) (fun h => ?_)⟩
  · have hi := of_decide_eq_true h
    rw [List.length_map] at hi
    obtain ⟨j, rfl⟩ : ∃ j : Nat, i = j := ⟨i.toNat, by omega⟩
    have hj : j < ns.length := by omega
    have e : (ns.map V.int)[j]? = some (.int ns[j]) := by
      rw [List.getElem?_map, List.getElem?_eq_getElem hj]
      rfl
    exact ⟨.ref sc, rfl, .int j, rfl, sc, _, j, _, rfl, rfl, hS, atI_nat e, q _ H (Ex.refl H)⟩
  · refine ⟨.ref sc, rfl, 1, rfl, sc, _, rfl, hS, fun p hp => ?_⟩
    have e : cutV (ns.map V.int) none (some 1) = (ns.take 1).map V.int := by
      rw [List.map_take]
      unfold cutV
      rw [show HT.sIx (ns.map V.int).length 0 none = 0 from HT.sIx_none _ _, show HT.sIx (ns.map V.int).length (ns.map V.int).length (some 1) = min 1 (ns.map V.int).length from HT.sIx_nat _ _ 1]
      simp
    refine ⟨p, ns.take 1, rfl, SqL.of (by rw [upd_same, e]), _, 1000003, rfl, rfl, (show (0 : Int) < 1000003 by decide), ?_⟩
    exact q _ _ (Ex.new hp)
abbrev s__law_generator : Stmt := topS 33
def spGen (K : Fg) : Sp := fun vs H Q _ => ∃ (s : Addr) (ns : List Int) (i : Int), vs = [.ref s, .int i] ∧ SqL K H s (ns.map V.int) ∧ 0 ≤ i ∧ i ≤ 1000 ∧ ∀ (g : Addr) H', H g = none → Ex H H' → GenAt g 900000000 H' → Q (.ref g) H'
theorem f__law_generator (T : Bg mg) (a : At K mg "_law_generator" s__law_generator) (c__law_cell : Fc P w K mg base "_law_cell" ["_law_script", "_law_index"] 1 (spCell K)) : Fc P w K mg base "_law_generator" ["_law_script", "_law_index"] 2 (spGen K) := by
  have S : FnScope ["_law_script", "_law_index", "_law_seed"] ["_law_script", "_law_index"] (defScope s__law_generator) := ⟨rfl, rfl, rfl, by decide +kernel, rfl, by decide +kernel, by decide +kernel⟩
  obtain ⟨f, fd, F, hm⟩ := a
  refine ⟨f, fd, hm, F.kp, F.binds (fun _ _ _ _ _ _ us hl => match us, hl with | [_, _], _ => rfl), fnG F S ?_ ?_⟩
  · rintro vs H Q E ⟨s, ns, i, rfl, _⟩
    rfl
  intro cdv A outer s H vs Q E gu hr ⟨sc, ns, i, ev, hS, h0, h1, q⟩
  subst ev
  have hc : (cxOf CX0 P w K mg base ["_law_script", "_law_index", "_law_seed"] "_law_generator" (defScope s__law_generator) f cdv A outer s H E).nox.calm = true := rfl
  suffices h : ∃ t, PSs (cxOf CX0 P w K mg base ["_law_script", "_law_index", "_law_seed"] "_law_generator" (defScope s__law_generator) f cdv A outer s H E).nox (defBody s__law_generator) t ∧ t { nx := fun _ H' => Q .non H', rt := Q } (L2.start ["_law_script", "_law_index", "_law_seed"] [.ref sc, .int i]) H by
    obtain ⟨t, h1, h2⟩ := h
    exact ⟨t, h1.nox, h2⟩
  refine ⟨_, (pss_cons (ps_set (i := 2) S.nd rfl (by first | exact Or.inl rfl | exact Or.inr rfl) (pe_f c__law_cell gu (hr.mono (by decide)) (by rfl) (pa_cons (pv 0) (pa_cons (pv 1) pa_nil))))
  (pss_one (ps_ret (pe_lst (pa_cons (pe_op op_mod (pe_callTy call_int1 (by rfl) T.int (by decide +kernel) (pa_cons (pe_callB (call_max2 hc) (by rfl) T.max (by decide +kernel) (pa_cons (pe_op op_sub (pv 2) (pe_op op_pow pe_int pe_int)) (pa_cons pe_int pa_nil))) pa_nil)) (pe_op op_powB (pe_op op_pow pe_int pe_int) pe_int)) (pa_cons (pe_op op_mod (pe_callTy call_int1 (by rfl) T.int (by decide +kernel) (pa_cons (pv 2) pa_nil)) pe_int) (pa_cons (pe_op op_mul pe_int (pv 1)) pa_nil))))))), ?_⟩
  refine ⟨.ref sc, rfl, .int i, rfl, sc, ns, i, rfl, hS, h0, h1, fun z H1 e1 => ?_⟩
  have pos : (0 : Int) < (10 ^ 60) ^ Int.toNat 10 := by decide +kernel
  refine ⟨.int z, rfl, 10, 18, rfl, rfl, ⟨by decide, by decide, by decide⟩, z, _, rfl, rfl, _, 0, rfl, .inl ⟨_, rfl, 10, 60, rfl, rfl, ⟨by decide, by decide, by decide⟩, _, 10, rfl, rfl, ⟨rfl, rfl⟩, _, _, rfl, rfl, pos, ?_⟩⟩
  refine ⟨.int z, rfl, .inl ⟨z, rfl, z, 2147483647, rfl, rfl, (show (0 : Int) < 2147483647 by decide), .int i, rfl, 1000, i, rfl, rfl, .inl ⟨by decide, by decide⟩, by show 3 ≤ sizeLine; decide, fun g hg => ?_⟩⟩
  refine q g _ (Evl.fresh_back e1 hg) (e1.trans (Ex.new hg)) ⟨_, _, _, upd_same, Int.emod_nonneg _ (Int.ne_of_gt pos), ⟨Int.emod_nonneg _ (by decide), Int.emod_lt_of_pos _ (by decide)⟩, by omega, by omega⟩
end
end TD

set_option maxHeartbeats 4000000
namespace TD
open PySem PySem.Spec PyProof.Rows L2
open Evl (Ex)
open PySem.W (alike alikeAll dataLt)
/-! # runs, endless presses, letters -/
section
variable {P : Program} {w : World} {K : Fg} {mg : Str → Option Value} {base : Heap}
structure B3 (mg : Str → Option Value) : Prop where
  len : mg "len" = none
  all : mg "all" = none
  range : mg "range" = none
theorem tup2_no {f : PyData → Bool} (hf : ∀ x, (∀ n m, x ≠ .tuple [n, m]) → f x = false) {x : PyData} (h : isTup 2 x = false) : f x = false := hf x fun n m e => by
  subst e
  exact nomatch (show true = false from h)
theorem tup2_yes {x : PyData} (h : isTup 2 x = true) : ∃ n m, x = .tuple [n, m] := by
  cases x with
  | tuple ds => match ds, h with
    | [n, m], _ => exact ⟨n, m, rfl⟩
    | [], h => exact nomatch (show false = true from h)
    | [_], h => exact nomatch (show false = true from h)
    | _ :: _ :: _ :: _, h =>
      simp [isTup] at h
      omega
  | _ => exact nomatch (show false = true from h)
theorem run_no {r : Int} : ∀ x : PyData, (∀ n m, x ≠ .tuple [n, m]) → fitsRun r x = false := by
  intro x h
  cases x with
  | tuple ds => match ds, h with
    | [], _ => rfl
    | [_], _ => rfl
    | [n, m], h => exact (h n m rfl).elim
    | _ :: _ :: _ :: _, _ => rfl
  | _ => rfl
theorem endless_no {r : Int} : ∀ x : PyData, (∀ n m, x ≠ .tuple [n, m]) → fitsEndless r x = false := by
  intro x h
  cases x with
  | tuple ds => match ds, h with
    | [], _ => rfl
    | [_], _ => rfl
    | [n, m], h => exact (h n m rfl).elim
    | _ :: _ :: _ :: _, _ => rfl
  | _ => rfl
abbrev s_fits_run : Stmt := topS 16
def R_fits_run : List PyData → PyData → Prop := fun ds d => ∃ (r : Int) (x : PyData), ds = [.int r, x] ∧ d = .bool (fitsRun r x)
theorem f_fits_run (a : At K mg "fits_run" s_fits_run) (c_is_tuple_of : Fc P w K mg base "is_tuple_of" ["many", "value"] 1 (SpR K R_is_tuple_of)) (c_fits_lights : Fc P w K mg base "fits_lights" ["rooms", "value"] 4 (SpR K R_fits_lights)) (c_is_count : Fc P w K mg base "is_count" ["value"] 2 (SpR K R_is_count)) : Fc P w K mg base "fits_run" ["rooms", "value"] 5 (SpR K R_fits_run) := by
  have S : FnScope ["rooms", "value"] ["rooms", "value"] (defScope s_fits_run) := ⟨rfl, rfl, rfl, by decide +kernel, rfl, by decide +kernel, by decide +kernel⟩
  refine fc_mk a S (fun _ _ _ _ _ _ us hl => match us, hl with | [_, _], _ => rfl) (by rintro _ _ ⟨r, x, rfl, _⟩; rfl) fun f cdv A outer s H E gu hr => ⟨_, (pss_one (ps_ret (pe_and (pe_f c_is_tuple_of gu (hr.mono (by decide)) (by rfl) (pa_cons pe_int (pa_cons (pv 1) pa_nil))) (pe_and (pe_f c_fits_lights gu (hr.mono (by decide)) (by rfl) (pa_cons (pv 0) (pa_cons (pe_ix ix_tup (pv 1) pe_int (fun _ _ => rfl)) pa_nil))) (pe_one (pe_f c_is_count gu (hr.mono (by decide)) (by rfl) (pa_cons (pe_ix ix_tup (pv 1) pe_int (fun _ _ => rfl)) pa_nil))))))), ?_⟩
  rintro _ _ ⟨r, x, rfl, rfl⟩
  cases h2 : isTup 2 x with
  | false =>
    rw [tup2_no run_no h2]
    exact xr_ret (xs_ret (ed_is (ed_and (a := false) (b := false) (ed_call (ea_cons ed_int (ea_cons (ed_var rfl) ea_nil)) ⟨_, _, rfl, by rw [h2]⟩) (fun z => nomatch z)) rfl))
  | true =>
    obtain ⟨n, m, rfl⟩ := tup2_yes h2
    exact xr_ret (xs_ret (ed_is (ed_and (a := true) (ed_call (ea_cons ed_int (ea_cons (ed_var rfl) ea_nil)) ⟨_, _, rfl, rfl⟩) fun _ => ed_and (ed_call (ea_cons (ed_var rfl) (ea_cons (ed_op (ed_var rfl) ed_int r_ixT0) ea_nil)) ⟨_, _, rfl, rfl⟩) fun _ => ed_call (ea_cons (ed_op (ed_var rfl) ed_int r_ixT1) ea_nil) ⟨_, rfl, rfl⟩) rfl))
abbrev s_fits_runs : Stmt := topS 17
def R_fits_runs : List PyData → PyData → Prop := fun ds d => ∃ (r : Int) (x : PyData), ds = [.int r, x] ∧ (∀ es, x = .list es → es.length ≤ 30000) ∧ d = .bool (fitsRuns r x)
theorem f_fits_runs (T : Bl mg) (a : At K mg "fits_runs" s_fits_runs) (c_fits_run : Fc P w K mg base "fits_run" ["rooms", "value"] 5 (SpR K R_fits_run)) : Fc P w K mg base "fits_runs" ["rooms", "value"] 6 (SpR K R_fits_runs) := by
  have S : FnScope ["rooms", "value", "run"] ["rooms", "value"] (defScope s_fits_runs) := ⟨rfl, rfl, rfl, by decide +kernel, rfl, by decide +kernel, by decide +kernel⟩
  refine fc_mk a S (fun _ _ _ _ _ _ us hl => match us, hl with | [_, _], _ => rfl) (by rintro _ _ ⟨r, x, rfl, _⟩; rfl) fun f cdv A outer s H E gu hr => ?_
  have hc : (cxOf CX0 P w K mg base ["rooms", "value", "run"] "fits_runs" (defScope s_fits_runs) f cdv A outer s H E).nox.calm = true := rfl
  refine ⟨_, (pss_one (ps_ret (pe_and (pe_callB call_isi (by rfl) T.isinstance (by decide +kernel) (pa_cons (pv 1) (pa_cons (pe_bltn (v := .ty "list") (by rfl) T.list boot_list rfl) pa_nil))) (pe_one (pe_callB (cr_all hc) (by rfl) T.all (by decide +kernel) (pa_cons (pe_lc (own := [("run", 2)]) hc S.nd (pi_list (pv 1)) (blkOk_by (N := ["rooms", "value", "run"]) (sc := defScope s_fits_runs) (by decide +kernel)) (fun _ _ _ _ _ => (pg_name (i := 2) S.nd rfl (by first | exact Or.inl rfl | exact Or.inr rfl))) (fun _ _ _ _ _ => pts_nil) (fun _ _ _ _ _ => (pe_f c_fits_run gu (hr.mono (by decide)) (by rfl) (pa_cons (pv 0) (pa_cons (pv 2) pa_nil))))) pa_nil)))))), ?_⟩
  rintro _ _ ⟨r, x, rfl, hz, rfl⟩
  cases x with
  | list es => exact xr_ret (xs_ret (ed_is (ed_and (ed_isi (ed_var rfl)) fun _ => ed_allL (fitsRun r) (ed_var rfl) (by decide) (Nat.le_trans (hz es rfl) (by decide)) fun d _ => ed_call (ea_cons (ed_var rfl) (ea_cons (ed_var rfl) ea_nil)) ⟨_, _, rfl, rfl⟩) rfl))
  | _ => exact xr_ret (xs_ret (ed_is (ed_and (b := false) (ed_isi (ed_var rfl)) (fun z => nomatch (show false = true from z))) rfl))
abbrev s_fits_endless : Stmt := topS 18
def R_fits_endless : List PyData → PyData → Prop := fun ds d => ∃ (r : Int) (x : PyData), ds = [.int r, x] ∧ (∀ p t, x = .tuple [p, t] → Sm p ∧ Sm t) ∧ d = .bool (fitsEndless r x)
theorem presses_list {r : Int} {x : PyData} (h : fitsPresses r x = true) : ∃ es, x = .list es := by
  cases x with
  | list es => exact ⟨es, rfl⟩
  | _ => exact nomatch (show false = true from h)
theorem f_fits_endless (T : Bl mg) (a : At K mg "fits_endless" s_fits_endless) (c_is_tuple_of : Fc P w K mg base "is_tuple_of" ["many", "value"] 1 (SpR K R_is_tuple_of)) (c_fits_presses : Fc P w K mg base "fits_presses" ["rooms", "value"] 5 (SpR K R_fits_presses)) : Fc P w K mg base "fits_endless" ["rooms", "value"] 6 (SpR K R_fits_endless) := by
  have S : FnScope ["rooms", "value", "presses", "turn"] ["rooms", "value"] (defScope s_fits_endless) := ⟨rfl, rfl, rfl, by decide +kernel, rfl, by decide +kernel, by decide +kernel⟩
  refine fc_mk a S (fun _ _ _ _ _ _ us hl => match us, hl with | [_, _], _ => rfl) (by rintro _ _ ⟨r, x, rfl, _⟩; rfl) fun f cdv A outer s H E gu hr => ?_
  have hc : (cxOf CX0 P w K mg base ["rooms", "value", "presses", "turn"] "fits_endless" (defScope s_fits_endless) f cdv A outer s H E).nox.calm = true := rfl
  refine ⟨_, (pss_cons (ps_if (pt_not (pt_val (pe_f c_is_tuple_of gu (hr.mono (by decide)) (by rfl) (pa_cons pe_int (pa_cons (pv 1) pa_nil))))) (pss_one (ps_ret pe_bl)) pss_nil)
  (pss_cons (ps_asg (pv 1) (pg_tup hc (pgs_cons (pg_name (i := 2) S.nd rfl (by first | exact Or.inl rfl | exact Or.inr rfl)) (pgs_cons (pg_name (i := 3) S.nd rfl (by first | exact Or.inl rfl | exact Or.inr rfl)) pgs_nil))))
  (pss_one (ps_ret (pe_and (pe_f c_fits_presses gu (hr.mono (by decide)) (by rfl) (pa_cons (pv 0) (pa_cons (pv 2) pa_nil))) (pe_and (pe_f c_fits_presses gu (hr.mono (by decide)) (by rfl) (pa_cons (pv 0) (pa_cons (pv 3) pa_nil))) (pe_one (pe_cmpR op_gt (pe_callB call_len_seq (by rfl) T.len (by decide +kernel) (pa_cons (pv 3) pa_nil)) pe_int (nomark _))))))))), ?_⟩
  rintro _ _ ⟨r, x, rfl, hz, rfl⟩
  cases h2 : isTup 2 x with
  | false =>
    rw [tup2_no endless_no h2]
    exact xr_ret (xs_leave (xs_if (et_not (a := false) (et_B (ed_call (ea_cons ed_int (ea_cons (ed_var rfl) ea_nil)) ⟨_, _, rfl, by rw [h2]⟩))) (fun _ => xs_ret ed_bl) (fun z => nomatch (show true = false from z))) trivial)
  | true =>
    obtain ⟨p, t, rfl⟩ := tup2_yes h2
    obtain ⟨hp, ht⟩ := hz p t rfl
    refine xr_ret (xs_seq (xs_if (et_not (et_B (ed_call (ea_cons ed_int (ea_cons (ed_var rfl) ea_nil)) ⟨_, _, rfl, rfl⟩))) (fun z => nomatch (show false = true from z)) (fun _ => xs_next)) (xs_seq (xs_asgG (ed_var rfl) (tg_tup (tgs_cons tg_name (tgs_cons tg_name tgs_nil)))) ?_))
    refine xs_ret (ed_and (ed_call (ea_cons (ed_var rfl) (ea_cons (ed_var rfl) ea_nil)) ⟨_, _, rfl, hp, rfl⟩) fun _ => ed_and (ed_call (ea_cons (ed_var rfl) (ea_cons (ed_var rfl) ea_nil)) ⟨_, _, rfl, ht, rfl⟩) fun h => ?_)
    obtain ⟨es, rfl⟩ := presses_list h
    refine ed_is (ed_op (ed_cb (ea_cons (ed_var rfl) ea_nil) rc_lenL) ed_int r_Ib) ?_
    cases es with
    | nil => rfl
    | cons e es =>
      show PyData.bool (decide (((e :: es).length : Int) > 0)) = .bool true
      rw [decide_eq_true (by rw [List.length_cons]; omega)]
abbrev s_fits_letters : Stmt := topS 19
def R_fits_letters : List PyData → PyData → Prop := fun ds d => ∃ (r : Int) (x : PyData), ds = [.int r, x] ∧ Sm x ∧ d = .bool (fitsLetters r x)
theorem f_fits_letters (T : B3 mg) (sm : ∃ mm, base.Ns sysModules mm) (a : At K mg "fits_letters" s_fits_letters) (c_fits_presses : Fc P w K mg base "fits_presses" ["rooms", "value"] 5 (SpR K R_fits_presses)) : Fc P w K mg base "fits_letters" ["rooms", "value"] 6 (SpR K R_fits_letters) := by
  have S : FnScope ["rooms", "value", "at"] ["rooms", "value"] (defScope s_fits_letters) := ⟨rfl, rfl, rfl, by decide +kernel, rfl, by decide +kernel, by decide +kernel⟩
  refine fc_mk a S (fun _ _ _ _ _ _ us hl => match us, hl with | [_, _], _ => rfl) (by rintro _ _ ⟨r, x, rfl, _⟩; rfl) fun f cdv A outer s H E gu hr => ?_
  have hc : (cxOf CX0 P w K mg base ["rooms", "value", "at"] "fits_letters" (defScope s_fits_letters) f cdv A outer s H E).nox.calm = true := rfl
  have hu64 : (cxOf CX0 P w K mg base ["rooms", "value", "at"] "fits_letters" (defScope s_fits_letters) f cdv A outer s H E).nox.A.units + 64 < cLine := hr.units
  refine ⟨_, (pss_cons (ps_if (PW.pt (pw_or (pt_not (pt_val (pe_f c_fits_presses gu (hr.mono (by decide)) (by rfl) (pa_cons (pv 0) (pa_cons (pv 1) pa_nil))))) (pw_or1 (pt_cmpR op_eq (pe_callB call_len_seq (by rfl) T.len (by decide +kernel) (pa_cons (pv 1) pa_nil)) pe_int (nomark _))))) (pss_one (ps_ret pe_bl)) pss_nil)
  (pss_one (ps_ret (pe_callB (cr_all hc) (by rfl) T.all (by decide +kernel) (pa_cons (pe_lc (own := [("at", 2)]) hc S.nd (pi_range1 (by rfl) T.range (pa_cons (pe_op op_sub (pe_callB call_len_seq (by rfl) T.len (by decide +kernel) (pa_cons (pv 1) pa_nil)) pe_int) pa_nil)) (blkOk_by (N := ["rooms", "value", "at"]) (sc := defScope s_fits_letters) (by decide +kernel)) (fun _ _ _ _ _ => (pg_name (i := 2) S.nd rfl (by first | exact Or.inl rfl | exact Or.inr rfl))) (fun _ _ _ _ _ => pts_nil) (fun _ _ _ _ _ => (pe_cmpR (op_ltAK (K := K) rfl (by exact sm) (by exact hu64)) (pe_ix (ix_listK (K := K) rfl) (pv 1) (pv 2) (fun _ _ => rfl)) (pe_ix (ix_listK (K := K) rfl) (pv 1) (pe_op op_add (pv 2) pe_int) (fun _ _ => rfl)) (nomark _)))) pa_nil))))), ?_⟩
  rintro _ _ ⟨r, x, rfl, hz, rfl⟩
  cases hp : fitsPresses r x with
  | false =>
    have e : fitsLetters r x = false := by
      cases x with
      | list es =>
        show (fitsPresses r (.list es) && _) = false
        rw [hp]
        rfl
      | _ => rfl
    rw [e]
    exact xr_ret (xs_leave (xs_if (et_or (a := true) (b := true) (et_not (a := false) (et_B (ed_call (ea_cons (ed_var rfl) (ea_cons (ed_var rfl) ea_nil)) ⟨_, _, rfl, hz, by rw [hp]⟩))) (fun z => nomatch z)) (fun _ => xs_ret ed_bl) (fun z => nomatch (show true = false from z))) trivial)
  | true =>
    obtain ⟨es, rfl⟩ := presses_list hp
    have hl : es.length ≤ 30000 := hz es (.inl rfl)
    have e : fitsLetters r (.list es) = (!es.isEmpty && ups es) := by
      show (fitsPresses r (.list es) && (!es.isEmpty && ups es)) = _
      rw [hp]
      rfl
    rw [e]
    have t0 : ET K _ [some (.int r), some (.list es), none] _ := et_or (et_not (a := true) (et_B (ed_call (K := K) (R := R_fits_presses) (E := E0) (ea_cons (ed_var (i := 0) rfl) (ea_cons (ed_var (i := 1) rfl) ea_nil)) ⟨_, _, rfl, hz, by rw [hp]⟩))) fun _ => et_test (ed_op (ed_cb (ea_cons (ed_var (i := 1) rfl) ea_nil) rc_lenL) (ed_int (i := 0)) r_eqI)
    cases es with
    | nil => exact xr_ret (xs_leave (xs_if t0 (fun _ => xs_ret ed_bl) (fun z => nomatch (show true = false from z))) trivial)
    | cons d es =>
      have hf : (!true || decide ((((d :: es).length : Nat) : Int) = 0)) = false := by
        rw [decide_eq_false (by rw [List.length_cons]; omega)]
        rfl
      refine xr_ret (xs_seq (xs_if (et_is t0 hf) (fun z => nomatch (show false = true from z)) (fun _ => xs_next)) (xs_ret (ed_is (ed_allR1 (n := ((d :: es).length : Int) - 1) (fun i => dataLt ((d :: es).getD i .none) ((d :: es).getD (i + 1) .none)) (ea_cons (ed_op (ed_cb (ea_cons (ed_var rfl) ea_nil) rc_lenL) ed_int r_Ii) ea_nil) ⟨by omega, by omega⟩ (by decide) fun i hi => ?_) ?_)))
      · have hi' : i + 1 < (d :: es).length := by omega
        have g1 : (d :: es)[i]? = some ((d :: es).getD i .none) := by
          rw [List.getD_eq_getElem?_getD, List.getElem?_eq_getElem (by omega)]
          rfl
        have g2 : (d :: es)[i + 1]? = some ((d :: es).getD (i + 1) .none) := by
          rw [List.getD_eq_getElem?_getD, List.getElem?_eq_getElem (by omega)]
          rfl
        have f1 := List.all_eq_true.mp (show (d :: es).all (fitsLights r) = true from hp) _ (List.mem_of_getElem? g1)
        have f2 := List.all_eq_true.mp (show (d :: es).all (fitsLights r) = true from hp) _ (List.mem_of_getElem? g2)
        obtain ⟨k1, k2, k3⟩ := lights_alike f1 f2
        exact ed_op (ed_op (ed_var rfl) (ed_var rfl) (r_ixL g1)) (ed_op (ed_var rfl) (ed_op (ed_var rfl) ed_int r_Ii) (r_ixL (i := i + 1) g2)) (r_ltA k1 k2 k3)
      · show PyData.bool _ = PyData.bool (!(d :: es).isEmpty && ups (d :: es))
        have e3 : (((d :: es).length : Int) - 1).toNat = (d :: es).length - 1 := by omega
        rw [e3]
        rfl
end
end TD

set_option maxHeartbeats 4000000
namespace TD
open PySem PySem.Spec PyProof.Rows L2
open Evl (Ex)
/-! # what is asked of levels -/
section
variable {P : Program} {w : World} {K : Fg} {mg : Str → Option Value} {base : Heap}
/-- a level that fits, of a size that is looked through -/
def Lv (x : PyData) (r : Int) : Prop := ∃ es, x = .tuple [.int r, .list es] ∧ es.length ≤ 30000 ∧ fitsLevel x = true
theorem Lv.sz {x : PyData} {r : Int} (h : Lv x r) : ∀ r' es, x = .tuple [r', .list es] → es.length ≤ 30000 := by
  obtain ⟨es, rfl, h1, h2⟩ := h
  intro r' es' e
  injection e with e
  injection e with _ e
  injection e with e _
  injection e with e
  exact e ▸ h1
abbrev s_check_level : Stmt := topS 21
def R_check_level : List PyData → PyData → Prop := fun ds d => ∃ x r, ds = [x] ∧ Lv x r ∧ d = .none
theorem f_check_level (a : At K mg "check_level" s_check_level) (c_fits_level : Fc P w K mg base "fits_level" ["value"] 8 (SpR K R_fits_level)) : Fc P w K mg base "check_level" ["level"] 9 (SpR K R_check_level) := by
  have S : FnScope ["level"] ["level"] (defScope s_check_level) := ⟨rfl, rfl, rfl, by decide +kernel, rfl, by decide +kernel, by decide +kernel⟩
  refine fc_mk a S (fun _ _ _ _ _ _ us hl => match us, hl with | [_], _ => rfl) (by rintro _ _ ⟨x, r, rfl, _⟩; rfl) fun f cdv A outer s H E gu hr => ⟨_, (pss_one (ps_if (pt_not (pt_val (pe_f c_fits_level gu (hr.mono (by decide)) (by rfl) (pa_cons (pv 0) pa_nil)))) (pss_one ps_no) pss_nil)), ?_⟩
  rintro _ _ ⟨x, r, rfl, hL, rfl⟩
  have hf : fitsLevel x = true := let ⟨_, _, _, h⟩ := hL; h
  exact xr_end (xs_if (et_not (a := true) (et_B (ed_call (ea_cons (ed_var rfl) ea_nil) ⟨_, rfl, hL.sz, by rw [hf]⟩))) (fun z => nomatch (show false = true from z)) (fun _ => xs_next))
abbrev s_is_level : Stmt := topS 23
def R_is_level : List PyData → PyData → Prop := fun ds d => ∃ x : PyData, ds = [x] ∧ (∀ r es, x = .tuple [r, .list es] → es.length ≤ 30000) ∧ d = .bool (fitsLevel x)
theorem f_is_level (a : At K mg "is_level" s_is_level) (c_fits_level : Fc P w K mg base "fits_level" ["value"] 8 (SpR K R_fits_level)) :
    Fc P w K mg base "is_level" ["value"] 9 (SpR K R_is_level) ∧ Fk P w K mg base "is_level" ["value"] ["value"] 9 (SpR K R_is_level) id id := by
  have S : FnScope ["value"] ["value"] (defScope s_is_level) := ⟨rfl, rfl, rfl, by decide +kernel, rfl, by decide +kernel, by decide +kernel⟩
  refine fc_mk2 a S (fun _ _ _ _ _ _ us hl => match us, hl with | [_], _ => rfl) (fun _ _ _ _ _ _ ws hl => match ws, hl with | [_], _ => rfl) (fun _ r => r) (by rintro _ _ ⟨x, rfl, _⟩; rfl) fun f cdv A outer s H E gu hr => ⟨_, (pss_one (ps_ret (pe_f c_fits_level gu (hr.mono (by decide)) (by rfl) (pa_cons (pv 0) pa_nil)))), ?_⟩
  rintro _ _ ⟨x, rfl, hz, rfl⟩
  exact xr_ret (xs_ret (ed_call (ea_cons (ed_var rfl) ea_nil) ⟨_, rfl, hz, rfl⟩))
abbrev s_is_door : Stmt := topS 24
def R_is_door : List PyData → PyData → Prop := fun ds d => ∃ (r : Int) (x : PyData), ds = [.int r, x] ∧ 1 ≤ r ∧ d = .bool (fitsDoor r x)
theorem f_is_door (a : At K mg "is_door" s_is_door) (c_is_whole : Fc P w K mg base "is_whole" ["value"] 1 (SpR K R_is_whole)) (c_fits_door : Fc P w K mg base "fits_door" ["rooms", "value"] 6 (SpR K R_fits_door)) :
    Fc P w K mg base "is_door" ["rooms", "value"] 7 (SpR K R_is_door) ∧ Fk P w K mg base "is_door" ["rooms", "value"] ["value", "rooms"] 7 (SpR K R_is_door) swap2 swap2 := by
  have S : FnScope ["rooms", "value"] ["rooms", "value"] (defScope s_is_door) := ⟨rfl, rfl, rfl, by decide +kernel, rfl, by decide +kernel, by decide +kernel⟩
  refine fc_mk2 a S (fun _ _ _ _ _ _ us hl => match us, hl with | [_, _], _ => rfl) (fun _ _ _ _ _ _ ws hl => match ws, hl with | [_, _], _ => rfl) (fun h r => swap_rel h r) (by rintro _ _ ⟨r, x, rfl, _⟩; rfl) fun f cdv A outer s H E gu hr => ⟨_, (pss_cons (ps_if (PW.pt (pw_or (pt_not (pt_val (pe_f c_is_whole gu (hr.mono (by decide)) (by rfl) (pa_cons (pv 0) pa_nil)))) (pw_or1 (pt_cmpR op_lt (pv 0) pe_int (nomark _))))) (pss_one ps_no) pss_nil)
  (pss_one (ps_ret (pe_f c_fits_door gu (hr.mono (by decide)) (by rfl) (pa_cons (pv 0) (pa_cons (pv 1) pa_nil)))))), ?_⟩
  rintro _ _ ⟨r, x, rfl, hr1, rfl⟩
  refine xr_ret (xs_seq (xs_if (et_is (et_or (et_not (a := true) (et_B (ed_call (ea_cons (ed_var rfl) ea_nil) ⟨_, rfl, rfl⟩))) fun _ => et_test (ed_op (ed_var rfl) ed_int (r_Ib (g := fun i j => decide (i < j))))) (b := false) ?_) (fun z => nomatch z) (fun _ => xs_next)) (xs_ret (ed_call (ea_cons (ed_var rfl) (ea_cons (ed_var rfl) ea_nil)) ⟨_, _, rfl, rfl⟩)))
  rw [decide_eq_false (by omega)]
  rfl
abbrev s_are_presses : Stmt := topS 25
def R_are_presses : List PyData → PyData → Prop := fun ds d => ∃ l r x, ds = [l, x] ∧ Lv l r ∧ Sm x ∧ d = .bool (fitsPresses r x)
theorem f_are_presses (a : At K mg "are_presses" s_are_presses) (c_check_level : Fc P w K mg base "check_level" ["level"] 9 (SpR K R_check_level)) (c_fits_presses : Fc P w K mg base "fits_presses" ["rooms", "value"] 5 (SpR K R_fits_presses)) :
    Fc P w K mg base "are_presses" ["level", "value"] 10 (SpR K R_are_presses) ∧ Fk P w K mg base "are_presses" ["level", "value"] ["value", "level"] 10 (SpR K R_are_presses) swap2 swap2 := by
  have S : FnScope ["level", "value"] ["level", "value"] (defScope s_are_presses) := ⟨rfl, rfl, rfl, by decide +kernel, rfl, by decide +kernel, by decide +kernel⟩
  refine fc_mk2 a S (fun _ _ _ _ _ _ us hl => match us, hl with | [_, _], _ => rfl) (fun _ _ _ _ _ _ ws hl => match ws, hl with | [_, _], _ => rfl) (fun h r => swap_rel h r) (by rintro _ _ ⟨l, r, x, rfl, _⟩; rfl) fun f cdv A outer s H E gu hr => ⟨_, (pss_cons (ps_expr (pe_f c_check_level gu (hr.mono (by decide)) (by rfl) (pa_cons (pv 0) pa_nil)))
  (pss_one (ps_ret (pe_f c_fits_presses gu (hr.mono (by decide)) (by rfl) (pa_cons (pe_ix ix_tup (pv 0) pe_int (fun _ _ => rfl)) (pa_cons (pv 1) pa_nil)))))), ?_⟩
  rintro _ _ ⟨l, r, x, rfl, hL, hz, rfl⟩
  have hL' := hL
  obtain ⟨es, rfl, _, _⟩ := hL'
  exact xr_ret (xs_seq (xs_drop (ed_call (ea_cons (ed_var rfl) ea_nil) ⟨_, r, rfl, hL, rfl⟩)) (xs_ret (ed_call (ea_cons (ed_op (ed_var rfl) ed_int r_ixT0) (ea_cons (ed_var rfl) ea_nil)) ⟨_, _, rfl, hz, rfl⟩)))
abbrev s_are_runs : Stmt := topS 26
def R_are_runs : List PyData → PyData → Prop := fun ds d => ∃ l r x, ds = [l, x] ∧ Lv l r ∧ (∀ es, x = .list es → es.length ≤ 30000) ∧ d = .bool (fitsRuns r x)
theorem f_are_runs (a : At K mg "are_runs" s_are_runs) (c_check_level : Fc P w K mg base "check_level" ["level"] 9 (SpR K R_check_level)) (c_fits_runs : Fc P w K mg base "fits_runs" ["rooms", "value"] 6 (SpR K R_fits_runs)) :
    Fc P w K mg base "are_runs" ["level", "value"] 10 (SpR K R_are_runs) ∧ Fk P w K mg base "are_runs" ["level", "value"] ["value", "level"] 10 (SpR K R_are_runs) swap2 swap2 := by
  have S : FnScope ["level", "value"] ["level", "value"] (defScope s_are_runs) := ⟨rfl, rfl, rfl, by decide +kernel, rfl, by decide +kernel, by decide +kernel⟩
  refine fc_mk2 a S (fun _ _ _ _ _ _ us hl => match us, hl with | [_, _], _ => rfl) (fun _ _ _ _ _ _ ws hl => match ws, hl with | [_, _], _ => rfl) (fun h r => swap_rel h r) (by rintro _ _ ⟨l, r, x, rfl, _⟩; rfl) fun f cdv A outer s H E gu hr => ⟨_, (pss_cons (ps_expr (pe_f c_check_level gu (hr.mono (by decide)) (by rfl) (pa_cons (pv 0) pa_nil)))
  (pss_one (ps_ret (pe_f c_fits_runs gu (hr.mono (by decide)) (by rfl) (pa_cons (pe_ix ix_tup (pv 0) pe_int (fun _ _ => rfl)) (pa_cons (pv 1) pa_nil)))))), ?_⟩
  rintro _ _ ⟨l, r, x, rfl, hL, hz, rfl⟩
  have hL' := hL
  obtain ⟨es, rfl, _, _⟩ := hL'
  exact xr_ret (xs_seq (xs_drop (ed_call (ea_cons (ed_var rfl) ea_nil) ⟨_, r, rfl, hL, rfl⟩)) (xs_ret (ed_call (ea_cons (ed_op (ed_var rfl) ed_int r_ixT0) (ea_cons (ed_var rfl) ea_nil)) ⟨_, _, rfl, hz, rfl⟩)))
abbrev s_are_endless : Stmt := topS 27
def R_are_endless : List PyData → PyData → Prop := fun ds d => ∃ l r x, ds = [l, x] ∧ Lv l r ∧ (∀ p t, x = .tuple [p, t] → Sm p ∧ Sm t) ∧ d = .bool (fitsEndless r x)
theorem f_are_endless (a : At K mg "are_endless" s_are_endless) (c_check_level : Fc P w K mg base "check_level" ["level"] 9 (SpR K R_check_level)) (c_fits_endless : Fc P w K mg base "fits_endless" ["rooms", "value"] 6 (SpR K R_fits_endless)) :
    Fc P w K mg base "are_endless" ["level", "value"] 10 (SpR K R_are_endless) ∧ Fk P w K mg base "are_endless" ["level", "value"] ["value", "level"] 10 (SpR K R_are_endless) swap2 swap2 := by
  have S : FnScope ["level", "value"] ["level", "value"] (defScope s_are_endless) := ⟨rfl, rfl, rfl, by decide +kernel, rfl, by decide +kernel, by decide +kernel⟩
  refine fc_mk2 a S (fun _ _ _ _ _ _ us hl => match us, hl with | [_, _], _ => rfl) (fun _ _ _ _ _ _ ws hl => match ws, hl with | [_, _], _ => rfl) (fun h r => swap_rel h r) (by rintro _ _ ⟨l, r, x, rfl, _⟩; rfl) fun f cdv A outer s H E gu hr => ⟨_, (pss_cons (ps_expr (pe_f c_check_level gu (hr.mono (by decide)) (by rfl) (pa_cons (pv 0) pa_nil)))
  (pss_one (ps_ret (pe_f c_fits_endless gu (hr.mono (by decide)) (by rfl) (pa_cons (pe_ix ix_tup (pv 0) pe_int (fun _ _ => rfl)) (pa_cons (pv 1) pa_nil)))))), ?_⟩
  rintro _ _ ⟨l, r, x, rfl, hL, hz, rfl⟩
  have hL' := hL
  obtain ⟨es, rfl, _, _⟩ := hL'
  exact xr_ret (xs_seq (xs_drop (ed_call (ea_cons (ed_var rfl) ea_nil) ⟨_, r, rfl, hL, rfl⟩)) (xs_ret (ed_call (ea_cons (ed_op (ed_var rfl) ed_int r_ixT0) (ea_cons (ed_var rfl) ea_nil)) ⟨_, _, rfl, hz, rfl⟩)))
abbrev s_are_letters : Stmt := topS 28
def R_are_letters : List PyData → PyData → Prop := fun ds d => ∃ l r x, ds = [l, x] ∧ Lv l r ∧ Sm x ∧ d = .bool (fitsLetters r x)
theorem f_are_letters (a : At K mg "are_letters" s_are_letters) (c_check_level : Fc P w K mg base "check_level" ["level"] 9 (SpR K R_check_level)) (c_fits_letters : Fc P w K mg base "fits_letters" ["rooms", "value"] 6 (SpR K R_fits_letters)) :
    Fc P w K mg base "are_letters" ["level", "value"] 10 (SpR K R_are_letters) ∧ Fk P w K mg base "are_letters" ["level", "value"] ["value", "level"] 10 (SpR K R_are_letters) swap2 swap2 := by
  have S : FnScope ["level", "value"] ["level", "value"] (defScope s_are_letters) := ⟨rfl, rfl, rfl, by decide +kernel, rfl, by decide +kernel, by decide +kernel⟩
  refine fc_mk2 a S (fun _ _ _ _ _ _ us hl => match us, hl with | [_, _], _ => rfl) (fun _ _ _ _ _ _ ws hl => match ws, hl with | [_, _], _ => rfl) (fun h r => swap_rel h r) (by rintro _ _ ⟨l, r, x, rfl, _⟩; rfl) fun f cdv A outer s H E gu hr => ⟨_, (pss_cons (ps_expr (pe_f c_check_level gu (hr.mono (by decide)) (by rfl) (pa_cons (pv 0) pa_nil)))
  (pss_one (ps_ret (pe_f c_fits_letters gu (hr.mono (by decide)) (by rfl) (pa_cons (pe_ix ix_tup (pv 0) pe_int (fun _ _ => rfl)) (pa_cons (pv 1) pa_nil)))))), ?_⟩
  rintro _ _ ⟨l, r, x, rfl, hL, hz, rfl⟩
  have hL' := hL
  obtain ⟨es, rfl, _, _⟩ := hL'
  exact xr_ret (xs_seq (xs_drop (ed_call (ea_cons (ed_var rfl) ea_nil) ⟨_, r, rfl, hL, rfl⟩)) (xs_ret (ed_call (ea_cons (ed_op (ed_var rfl) ed_int r_ixT0) (ea_cons (ed_var rfl) ea_nil)) ⟨_, _, rfl, hz, rfl⟩)))
end
end TD

set_option maxHeartbeats 4000000
namespace TD
open PySem PySem.Spec PyProof.Rows L2
open Evl (Ex)
/-! # the law's own kinds -/
structure B5k (mg : Str → Option Value) : Prop where
  isinstance : mg "isinstance" = none
  int : mg "int" = none
  bool : mg "bool" = none
  list : mg "list" = none
  tuple : mg "tuple" = none
  len : mg "len" = none
  sorted : mg "sorted" = none
  set : mg "set" = none
  range : mg "range" = none
section
variable {P : Program} {w : World} {K : Fg} {mg : Str → Option Value} {base : Heap}
theorem ed_offs {ρ : En} {tl : TE} {tt : TT} {j : Nat} {vs : List Nat} {ds : List PyData} (p : PyData → Bool) (h : ED K tl ρ (.list ds)) (hj : j ∈ vs) (hz : ds.length ≤ 40000) (hv : ∀ d, ((wipeD ρ vs).set j (some d))[j]? = some (some d))
    (ht : ∀ d, d ∈ ds → ET K tt ((wipeD ρ vs).set j (some d)) (!p d)) : ED K (tLc (iList K tl) (gName j) tt (tVar j) vs) ρ (.list (offs p ds)) :=
  ed_lcL (fun d => !p d) id h hj hz ht fun d _ _ => ed_var (hv d)
abbrev s__law_yes : Stmt := topS 34
def R__law_yes : List PyData → PyData → Prop := fun ds d => ∃ a b : Bool, ds = [.bool a, .bool b] ∧ d = .bool (a == b)
theorem f__law_yes (T : B5k mg) (a : At K mg "_law_yes" s__law_yes)  : Fc P w K mg base "_law_yes" ["_law_told", "_law_due"] 1 (SpR K R__law_yes) := by
  have S : FnScope ["_law_told", "_law_due"] ["_law_told", "_law_due"] (defScope s__law_yes) := ⟨rfl, rfl, rfl, by decide +kernel, rfl, by decide +kernel, by decide +kernel⟩
  refine fc_mk a S (fun _ _ _ _ _ _ us hl => match us, hl with | [_, _], _ => rfl) (by rintro _ _ ⟨_, _, rfl, _⟩; rfl) fun f cdv A outer s H E gu hr => ?_
  have hc : (cxOf CX0 P w K mg base ["_law_told", "_law_due"] "_law_yes" (defScope s__law_yes) f cdv A outer s H E).nox.calm = true := rfl
  have hu64 : (cxOf CX0 P w K mg base ["_law_told", "_law_due"] "_law_yes" (defScope s__law_yes) f cdv A outer s H E).nox.A.units + 64 < cLine := hr.units
  refine ⟨_, (pss_one (ps_ret (pe_and (pe_callB call_isi (by rfl) T.isinstance (by decide +kernel) (pa_cons (pv 0) (pa_cons (pe_bltn (v := .ty "bool") (by rfl) T.bool boot_bool rfl) pa_nil))) (pe_one (pe_cmpR op_eq (pv 0) (pv 1) (nomark _)))))), ?_⟩
  rintro _ _ ⟨x, y, rfl, rfl⟩
  exact xr_ret (xs_ret (ed_is (ed_and (a := true) (ed_isi (T := "bool") (d := .bool x) (ed_var rfl)) fun _ => ed_op (ed_var rfl) (ed_var rfl) r_eqB) rfl))
abbrev s__law_is_whole : Stmt := topS 35
def R__law_is_whole : List PyData → PyData → Prop := fun ds d => ∃ x, ds = [x] ∧ d = .bool (isWhole x)
theorem f__law_is_whole (T : B5k mg) (a : At K mg "_law_is_whole" s__law_is_whole)  : Fc P w K mg base "_law_is_whole" ["_law_value"] 1 (SpR K R__law_is_whole) := by
  have S : FnScope ["_law_value"] ["_law_value"] (defScope s__law_is_whole) := ⟨rfl, rfl, rfl, by decide +kernel, rfl, by decide +kernel, by decide +kernel⟩
  refine fc_mk a S (fun _ _ _ _ _ _ us hl => match us, hl with | [_], _ => rfl) (by rintro _ _ ⟨_, rfl, _⟩; rfl) fun f cdv A outer s H E gu hr => ?_
  have hc : (cxOf CX0 P w K mg base ["_law_value"] "_law_is_whole" (defScope s__law_is_whole) f cdv A outer s H E).nox.calm = true := rfl
  have hu64 : (cxOf CX0 P w K mg base ["_law_value"] "_law_is_whole" (defScope s__law_is_whole) f cdv A outer s H E).nox.A.units + 64 < cLine := hr.units
  refine ⟨_, (pss_one (ps_ret (pe_and (pe_callB call_isi (by rfl) T.isinstance (by decide +kernel) (pa_cons (pv 0) (pa_cons (pe_bltn (v := .ty "int") (by rfl) T.int boot_int rfl) pa_nil))) (pe_one (pe_not (pe_callB call_isi (by rfl) T.isinstance (by decide +kernel) (pa_cons (pv 0) (pa_cons (pe_bltn (v := .ty "bool") (by rfl) T.bool boot_bool rfl) pa_nil)))))))), ?_⟩
  rintro _ _ ⟨x, rfl, rfl⟩
  exact xr_ret (xs_ret (ed_and (ed_isi (ed_var rfl)) fun _ => ed_not (ed_isi (ed_var rfl))))
abbrev s__law_is_lights : Stmt := topS 39
def R__law_is_lights : List PyData → PyData → Prop := fun ds d => ∃ (r : Int) (x : PyData), ds = [.int r, x] ∧ szOk x = true ∧ d = .bool (fitsLights r x)
theorem f__law_is_lights (T : B5k mg) (sm : ∃ mm, base.Ns sysModules mm) (a : At K mg "_law_is_lights" s__law_is_lights) (c__law_is_whole : Fc P w K mg base "_law_is_whole" ["_law_value"] 1 (SpR K R__law_is_whole)) : Fc P w K mg base "_law_is_lights" ["_law_rooms", "_law_value"] 2 (SpR K R__law_is_lights) := by
  have S : FnScope ["_law_rooms", "_law_value", "_law_item"] ["_law_rooms", "_law_value"] (defScope s__law_is_lights) := ⟨rfl, rfl, rfl, by decide +kernel, rfl, by decide +kernel, by decide +kernel⟩
  refine fc_mk a S (fun _ _ _ _ _ _ us hl => match us, hl with | [_, _], _ => rfl) (by rintro _ _ ⟨_, _, rfl, _⟩; rfl) fun f cdv A outer s H E gu hr => ?_
  have hc : (cxOf CX0 P w K mg base ["_law_rooms", "_law_value", "_law_item"] "_law_is_lights" (defScope s__law_is_lights) f cdv A outer s H E).nox.calm = true := rfl
  have hu64 : (cxOf CX0 P w K mg base ["_law_rooms", "_law_value", "_law_item"] "_law_is_lights" (defScope s__law_is_lights) f cdv A outer s H E).nox.A.units + 64 < cLine := hr.units
  refine ⟨_, (pss_cons (ps_if (PW.pt (pw_or (pt_not (pt_val (pe_callB call_isi (by rfl) T.isinstance (by decide +kernel) (pa_cons (pv 1) (pa_cons (pe_bltn (v := .ty "list") (by rfl) T.list boot_list rfl) pa_nil))))) (pw_or1 (pt_cmpR (op_neN hu64) (pe_lc (own := [("_law_item", 2)]) hc S.nd (pi_list (pv 1)) (blkOk_by (N := ["_law_rooms", "_law_value", "_law_item"]) (sc := defScope s__law_is_lights) (by decide +kernel)) (fun _ _ _ _ _ => (pg_name (i := 2) S.nd rfl (by first | exact Or.inl rfl | exact Or.inr rfl))) (fun _ _ _ _ _ => (pts_one (PW.pt (pw_or (pt_not (pt_val (pe_f c__law_is_whole gu (hr.mono (by decide)) (by rfl) (pa_cons (pv 2) pa_nil)))) (pw_or1 (pt_not (pt_chain op_le op_lt pe_int (pv 2) (pv 0)))))))) (fun _ _ _ _ _ => (pv 2))) (pe_lst pa_nil) (nomark _))))) (pss_one (ps_ret pe_bl)) pss_nil)
  (pss_one (ps_ret (pe_cmpR (op_eqA sm hu64) (pv 1) (pe_callB (cr_sortedSet hc) (by rfl) T.sorted (by decide +kernel) (pa_cons (pe_callTy (call_setI hc) (by rfl) T.set (by decide +kernel) (pa_cons (pv 1) pa_nil)) pa_nil)) (nomark _))))), ?_⟩
  rintro _ _ ⟨r, x, rfl, hz, rfl⟩
  cases x with
  | list es =>
    have h50 := (sz_list hz).1
    have t1 : ∀ d, d ∈ es → ET K (tOr (tNot (tB (tCall (SpR K R__law_is_whole) [] E0 (tCons (tVar 2) tNil)))) (tNot (tTest (tChain (rI0 fun i j => .bl (decide (i ≤ j))) (rI0 fun i j => .bl (decide (i < j))) (tC (.int 0)) (tVar 2) (tVar 0))))) [some (.int r), some (.list es), some d] (!fitsRoom r d) := fun d _ => by
      refine et_is (et_or (b := !fitsRoom r d) (et_not (et_B (ed_call (ea_cons (ed_var rfl) ea_nil) ⟨_, rfl, rfl⟩))) fun hw => ?_) ?_
      · obtain ⟨i, rfl⟩ := whole_int (d := d) (by cases h : isWhole d with | true => rfl | false => rw [h] at hw; cases hw)
        exact et_not (et_test (ed_chain ed_int (ed_var rfl) r_Ib (fun _ => ed_var rfl) (fun _ => r_Ib)))
      · cases d with
        | int i =>
          show (!true || !fitsRoom r (.int i)) = _
          rfl
        | _ => rfl
    have e1 := ed_op (K := K) (ed_offs (ρ := [some (.int r), some (.list es), none]) (j := 2) (vs := [2]) (fitsRoom r) (ed_var (i := 1) rfl) (by decide) (by omega) (fun _ => rfl) t1) (ed_lst ea_nil) r_neN
    rw [offs_nil] at e1
    have t2 := et_or (et_not (et_B (ed_isi (K := K) (ρ := [some (.int r), some (.list es), none]) (T := "list") (ed_var (i := 1) rfl)))) fun _ => et_test e1
    cases hall : es.all (fitsRoom r) with
    | false =>
      have e : fitsLights r (.list es) = false := by
        rw [Bool.eq_false_iff]
        intro z
        rw [List.all_eq_true.mpr (lights_rooms z)] at hall
        cases hall
      rw [hall] at t2
      rw [e]
      exact xr_ret (xs_leave (xs_if t2 (fun _ => xs_ret ed_bl) (fun z => nomatch (show true = false from z))) trivial)
    | true =>
      rw [hall] at t2
      obtain ⟨ns, rfl, hr2⟩ := all_ints (List.all_eq_true.mp hall)
      have hl : ns.length < 60 := by
        have : (intsD ns).length = ns.length := by unfold intsD; rw [List.length_map]
        omega
      refine xr_ret (xs_seq (xs_if t2 (fun z => nomatch (show false = true from z)) (fun _ => xs_next)) (xs_ret (ed_is (ed_op (ed_var rfl) (ed_sortedSet (ns := ns) (ed_var rfl) hl) (r_eqA (sh_ints ns) (sh_ints (canon ns)))) ?_)))
      show PyData.bool (PyData.eqv (.list (intsD ns)) (.list (intsD (canon ns)))) = _
      rw [lights_eq hr2]
  | _ => exact xr_ret (xs_leave (xs_if (et_is (et_or (b := true) (et_not (et_B (ed_isi (ed_var rfl)))) (fun z => nomatch z)) rfl) (fun _ => xs_ret ed_bl) (fun z => nomatch (show true = false from z))) trivial)
theorem shift_in (k : Int) : (([.int (-1), .int 0, .int 1] : List PyData).any fun e => PyData.eqv e (.int k)) = isShift (.int k) := by
  have c : k < -1 ∨ k = -1 ∨ k = 0 ∨ k = 1 ∨ 1 < k := by omega
  show (PyData.eqv (.int (-1)) (.int k) || (PyData.eqv (.int 0) (.int k) || (PyData.eqv (.int 1) (.int k) || false))) = (decide (-1 ≤ k) && decide (k ≤ 1))
  simp only [PyData.eqv]
  rcases c with c | rfl | rfl | rfl | c
  · rw [decide_eq_false (p := -1 ≤ k) (by omega), beq_false_of_ne (by omega), beq_false_of_ne (by omega), beq_false_of_ne (by omega)]
    rfl
  · rfl
  · rfl
  · rfl
  · rw [decide_eq_false (p := k ≤ 1) (by omega), beq_false_of_ne (by omega), beq_false_of_ne (by omega), beq_false_of_ne (by omega), Bool.and_false]
    rfl
theorem len_ne {ds : List PyData} {n : Int} (h : (ds.length : Int) ≠ n) : (!decide ((ds.length : Int) = n)) = true := by
  rw [decide_eq_false h]
  rfl
abbrev s__law_is_door : Stmt := topS 40
def R__law_is_door : List PyData → PyData → Prop := fun ds d => ∃ (r : Int) (x : PyData), ds = [.int r, x] ∧ szOk x = true ∧ d = .bool (fitsDoor r x)
theorem f__law_is_door (T : B5k mg) (a : At K mg "_law_is_door" s__law_is_door) (c__law_is_whole : Fc P w K mg base "_law_is_whole" ["_law_value"] 1 (SpR K R__law_is_whole)) (c__law_is_lights : Fc P w K mg base "_law_is_lights" ["_law_rooms", "_law_value"] 2 (SpR K R__law_is_lights)) : Fc P w K mg base "_law_is_door" ["_law_rooms", "_law_value"] 3 (SpR K R__law_is_door) := by
  have S : FnScope ["_law_rooms", "_law_value"] ["_law_rooms", "_law_value"] (defScope s__law_is_door) := ⟨rfl, rfl, rfl, by decide +kernel, rfl, by decide +kernel, by decide +kernel⟩
  refine fc_mk a S (fun _ _ _ _ _ _ us hl => match us, hl with | [_, _], _ => rfl) (by rintro _ _ ⟨_, _, rfl, _⟩; rfl) fun f cdv A outer s H E gu hr => ?_
  have hc : (cxOf CX0 P w K mg base ["_law_rooms", "_law_value"] "_law_is_door" (defScope s__law_is_door) f cdv A outer s H E).nox.calm = true := rfl
  have hu64 : (cxOf CX0 P w K mg base ["_law_rooms", "_law_value"] "_law_is_door" (defScope s__law_is_door) f cdv A outer s H E).nox.A.units + 64 < cLine := hr.units
  refine ⟨_, (pss_cons (ps_if (PW.pt (pw_or (pt_not (pt_val (pe_callB call_isi (by rfl) T.isinstance (by decide +kernel) (pa_cons (pv 1) (pa_cons (pe_bltn (v := .ty "tuple") (by rfl) T.tuple boot_tuple rfl) pa_nil))))) (pw_or (pt_cmpR op_ne (pe_callB call_len_seq (by rfl) T.len (by decide +kernel) (pa_cons (pv 1) pa_nil)) pe_int (nomark _)) (pw_or1 (pt_not (pt_val (pe_f c__law_is_lights gu (hr.mono (by decide)) (by rfl) (pa_cons (pv 0) (pa_cons (pe_ix ix_tup (pv 1) pe_int (fun _ _ => rfl)) pa_nil))))))))) (pss_one (ps_ret pe_bl)) pss_nil)
  (pss_one (ps_ret (pe_and (pe_f c__law_is_whole gu (hr.mono (by decide)) (by rfl) (pa_cons (pe_ix ix_tup (pv 1) pe_int (fun _ _ => rfl)) pa_nil)) (pe_and (pe_chain op_le op_lt pe_int (pe_ix ix_tup (pv 1) pe_int (fun _ _ => rfl)) (pv 0) (by with_unfolding_all rfl)) (pe_and (pe_f c__law_is_whole gu (hr.mono (by decide)) (by rfl) (pa_cons (pe_ix ix_tup (pv 1) pe_int (fun _ _ => rfl)) pa_nil)) (pe_one (pe_cmpR op_in_seq (pe_ix ix_tup (pv 1) pe_int (fun _ _ => rfl)) (pe_lst (pa_cons (pe_un un_neg pe_int) (pa_cons pe_int (pa_cons pe_int pa_nil)))) (by with_unfolding_all rfl))))))))), ?_⟩
  rintro _ _ ⟨r, x, rfl, hz, rfl⟩
  cases x with
  | tuple es =>
    by_cases h3 : (es.length : Int) = 3
    · obtain ⟨n, m, q, rfl⟩ : ∃ n m q, es = [n, m, q] := by
        match es, h3 with
        | [n, m, q], _ => exact ⟨n, m, q, rfl⟩
        | [], h => exact absurd h (by decide)
        | [_], h => exact absurd h (by simp)
        | [_, _], h => exact absurd h (by simp)
        | _ :: _ :: _ :: _ :: _, h =>
          simp at h
          omega
      have zn := (sz_tup hz).2 n (by simp)
      have t1 := et_or (et_not (et_B (ed_isi (K := K) (ρ := [some (.int r), some (.tuple [n, m, q])]) (d := .tuple [n, m, q]) (T := "tuple") (ed_var (i := 1) rfl)))) fun _ => et_or (a := false) (et_is (et_test (ed_op (ed_cb (ea_cons (ed_var (i := 1) rfl) ea_nil) rc_lenT) (ed_int (i := 3)) r_neI)) rfl) fun _ => et_not (et_B (ed_call (R := R__law_is_lights) (E := E0) (ea_cons (ed_var (i := 0) rfl) (ea_cons (ed_op (ed_var (i := 1) rfl) (ed_int (i := 0)) r_ixT0) ea_nil)) ⟨_, _, rfl, zn, rfl⟩))
      cases hn : fitsLights r n with
      | false =>
        rw [hn] at t1
        have e : fitsDoor r (.tuple [n, m, q]) = false := by
          show (fitsLights r n && _) = false
          rw [hn]
          rfl
        rw [e]
        exact xr_ret (xs_leave (xs_if t1 (fun _ => xs_ret ed_bl) (fun z => nomatch (show true = false from z))) trivial)
      | true =>
        rw [hn] at t1
        have e : fitsDoor r (.tuple [n, m, q]) = (fitsRoom r m && isShift q) := by
          show (fitsLights r n && _) = _
          rw [hn]
          rfl
        rw [e]
        refine xr_ret (xs_seq (xs_if t1 (fun z => nomatch (show false = true from z)) (fun _ => xs_next)) (xs_ret ?_))
        cases m with
        | int i =>
          refine ed_is (ed_and (a := true) (b := fitsRoom r (.int i) && isShift q) (ed_call (ea_cons (ed_op (ed_var rfl) ed_int r_ixT1) ea_nil) ⟨_, rfl, rfl⟩) fun _ => ed_and (ed_chain ed_int (ed_op (ed_var rfl) ed_int r_ixT1) r_Ib (fun _ => ed_var rfl) (fun _ => r_Ib)) fun _ => ?_) rfl
          cases q with
          | int k =>
            refine ed_is (ed_and (a := true) (ed_call (ea_cons (ed_op (ed_var rfl) ed_int r_ixT2) ea_nil) ⟨_, rfl, rfl⟩) fun _ => ed_op (ed_op (ed_var rfl) ed_int r_ixT2) (ed_lst (ea_cons ed_neg1 (ea_cons ed_int (ea_cons ed_int ea_nil)))) (r_in rfl rfl)) ?_
            rw [shift_in]
            rfl
          | _ => exact ed_is (ed_and (a := false) (b := false) (ed_call (ea_cons (ed_op (ed_var rfl) ed_int r_ixT2) ea_nil) ⟨_, rfl, rfl⟩) (fun z => nomatch z)) rfl
        | _ => exact ed_is (ed_and (a := false) (b := false) (ed_call (ea_cons (ed_op (ed_var rfl) ed_int r_ixT1) ea_nil) ⟨_, rfl, rfl⟩) (fun z => nomatch z)) rfl
    · have e : fitsDoor r (.tuple es) = false := by
        match es, h3 with
        | [n, m, q], h => exact absurd rfl h
        | [], h => rfl
        | [_], h => rfl
        | [_, _], h => rfl
        | _ :: _ :: _ :: _ :: _, h => rfl
      rw [e]
      exact xr_ret (xs_leave (xs_if (et_is (et_or (a := false) (et_is (et_not (et_B (ed_isi (d := .tuple es) (T := "tuple") (ed_var rfl)))) rfl) fun _ => et_or (a := true) (b := true) (et_is (et_test (ed_op (ed_cb (ea_cons (ed_var rfl) ea_nil) rc_lenT) ed_int r_neI)) (len_ne h3)) fun z => nomatch z) rfl) (fun _ => xs_ret ed_bl) (fun z => nomatch (show true = false from z))) trivial)
  | _ => exact xr_ret (xs_leave (xs_if (et_is (et_or (b := true) (et_not (et_B (ed_isi (ed_var rfl)))) (fun z => nomatch z)) rfl) (fun _ => xs_ret ed_bl) (fun z => nomatch (show true = false from z))) trivial)
abbrev s__law_is_level : Stmt := topS 41
def R__law_is_level : List PyData → PyData → Prop := fun ds d => ∃ x : PyData, ds = [x] ∧ szOk x = true ∧ d = .bool (fitsLevel x)
theorem f__law_is_level (T : B5k mg) (a : At K mg "_law_is_level" s__law_is_level) (c__law_is_whole : Fc P w K mg base "_law_is_whole" ["_law_value"] 1 (SpR K R__law_is_whole)) (c__law_is_door : Fc P w K mg base "_law_is_door" ["_law_rooms", "_law_value"] 3 (SpR K R__law_is_door)) : Fc P w K mg base "_law_is_level" ["_law_value"] 4 (SpR K R__law_is_level) := by
  have S : FnScope ["_law_value", "_law_item"] ["_law_value"] (defScope s__law_is_level) := ⟨rfl, rfl, rfl, by decide +kernel, rfl, by decide +kernel, by decide +kernel⟩
  refine fc_mk a S (fun _ _ _ _ _ _ us hl => match us, hl with | [_], _ => rfl) (by rintro _ _ ⟨_, rfl, _⟩; rfl) fun f cdv A outer s H E gu hr => ?_
  have hc : (cxOf CX0 P w K mg base ["_law_value", "_law_item"] "_law_is_level" (defScope s__law_is_level) f cdv A outer s H E).nox.calm = true := rfl
  have hu64 : (cxOf CX0 P w K mg base ["_law_value", "_law_item"] "_law_is_level" (defScope s__law_is_level) f cdv A outer s H E).nox.A.units + 64 < cLine := hr.units
  refine ⟨_, (pss_cons (ps_if (PW.pt (pw_or (pt_not (pt_val (pe_callB call_isi (by rfl) T.isinstance (by decide +kernel) (pa_cons (pv 0) (pa_cons (pe_bltn (v := .ty "tuple") (by rfl) T.tuple boot_tuple rfl) pa_nil))))) (pw_or (pt_cmpR op_ne (pe_callB call_len_seq (by rfl) T.len (by decide +kernel) (pa_cons (pv 0) pa_nil)) pe_int (nomark _)) (pw_or (pt_not (pt_val (pe_f c__law_is_whole gu (hr.mono (by decide)) (by rfl) (pa_cons (pe_ix (ix_tupK (K := K) rfl) (pv 0) pe_int (fun _ _ => rfl)) pa_nil)))) (pw_or (pt_cmpR op_lt (pe_ix (ix_tupK (K := K) rfl) (pv 0) pe_int (fun _ _ => rfl)) pe_int (nomark _)) (pw_or1 (pt_not (pt_val (pe_callB call_isi (by rfl) T.isinstance (by decide +kernel) (pa_cons (pe_ix ix_tup (pv 0) pe_int (fun _ _ => rfl)) (pa_cons (pe_bltn (v := .ty "list") (by rfl) T.list boot_list rfl) pa_nil))))))))))) (pss_one (ps_ret pe_bl)) pss_nil)
  (pss_one (ps_ret (pe_cmpR (op_eqN hu64) (pe_lc (own := [("_law_item", 1)]) hc S.nd (pi_list (pe_ix ix_tup (pv 0) pe_int (fun _ _ => rfl))) (blkOk_by (N := ["_law_value", "_law_item"]) (sc := defScope s__law_is_level) (by decide +kernel)) (fun _ _ _ _ _ => (pg_name (i := 1) S.nd rfl (by first | exact Or.inl rfl | exact Or.inr rfl))) (fun _ _ _ _ _ => (pts_one (pt_not (pt_val (pe_f c__law_is_door gu (hr.mono (by decide)) (by rfl) (pa_cons (pe_ix (ix_tupK (K := K) rfl) (pv 0) pe_int (fun _ _ => rfl)) (pa_cons (pv 1) pa_nil))))))) (fun _ _ _ _ _ => (pv 1))) (pe_lst pa_nil) (nomark _))))), ?_⟩
  rintro _ _ ⟨x, rfl, hz, rfl⟩
  cases x with
  | tuple es =>
    by_cases h2 : (es.length : Int) = 2
    · obtain ⟨n, m, rfl⟩ : ∃ n m, es = [n, m] := by
        match es, h2 with
        | [n, m], _ => exact ⟨n, m, rfl⟩
        | [], h => exact absurd h (by decide)
        | [_], h => exact absurd h (by simp)
        | _ :: _ :: _ :: _, h =>
          simp at h
          omega
      have zm := (sz_tup hz).2 m (by simp)
      have ta : ET K _ [some (.tuple [n, m]), none] _ := et_not (et_B (ed_isi (K := K) (ρ := [some (.tuple [n, m]), none]) (d := .tuple [n, m]) (T := "tuple") (ed_var (i := 0) rfl)))
      have tb : ET K _ [some (.tuple [n, m]), none] false := et_is (et_test (ed_op (ed_cb (ea_cons (ed_var (K := K) (ρ := [some (.tuple [n, m]), none]) (i := 0) rfl) ea_nil) rc_lenT) (ed_int (i := 2)) r_neI)) rfl
      have tc : ET K _ [some (.tuple [n, m]), none] (!isWhole n) := et_not (et_B (ed_call (K := K) (R := R__law_is_whole) (E := E0) (ea_cons (ed_op (ed_var (i := 0) rfl) (ed_int (i := 0)) r_ixT0) ea_nil) ⟨_, rfl, rfl⟩))
      have te : ET K _ [some (.tuple [n, m]), none] (!isT "list" m) := et_not (et_B (ed_isi (K := K) (ρ := [some (.tuple [n, m]), none]) (d := m) (T := "list") (ed_op (ed_var (i := 0) rfl) (ed_int (i := 1)) r_ixT1)))
      cases n with
      | int r =>
        have td : ET K _ [some (.tuple [.int r, m]), none] (decide (r < 1)) := et_test (ed_op (ed_op (ed_var (K := K) (ρ := [some (.tuple [.int r, m]), none]) (i := 0) rfl) (ed_int (i := 0)) r_ixT0) (ed_int (i := 1)) (r_Ib (g := fun i j => decide (i < j))))
        have t1 := et_or ta fun _ => et_or tb fun _ => et_or tc fun _ => et_or td fun _ => te
        by_cases h1 : r < 1
        · rw [decide_eq_true h1] at t1
          refine xr_ret (xs_leave (xs_if (et_is t1 (b := true) rfl) (fun _ => xs_is (xs_ret ed_bl) ?_) (fun z => nomatch (show true = false from z))) trivial)
          show Out.ret (.bool false) = Out.ret (.bool (fitsLevel2 (.int r) m))
          cases m with
          | list fs =>
            show Out.ret (.bool false) = Out.ret (.bool (decide (1 ≤ r) && fs.all (fitsDoor r)))
            rw [decide_eq_false (by omega)]
            rfl
          | _ => rfl
        · rw [decide_eq_false h1] at t1
          cases m with
          | list fs =>
            have hf := sz_list zm
            have e : fitsLevel (.tuple [.int r, .list fs]) = fs.all (fitsDoor r) := by
              show (decide (1 ≤ r) && fs.all (fitsDoor r)) = _
              rw [decide_eq_true (by omega)]
              rfl
            rw [e]
            refine xr_ret (xs_seq (xs_if t1 (fun z => nomatch (show false = true from z)) (fun _ => xs_next)) (xs_ret (ed_is (ed_op (ed_offs (j := 1) (fitsDoor r) (ed_op (ed_var rfl) ed_int r_ixT1) (by decide) (by omega) (fun _ => rfl) fun d hd => et_not (et_B (ed_call (ea_cons (ed_op (ed_var rfl) ed_int r_ixT0) (ea_cons (ed_var rfl) ea_nil)) ⟨_, _, rfl, hf.2 d hd, rfl⟩))) (ed_lst ea_nil) r_eqN) ?_)))
            rw [offs_nil]
          | _ => exact xr_ret (xs_leave (xs_if t1 (fun _ => xs_ret ed_bl) (fun z => nomatch (show true = false from z))) trivial)
      | _ => exact xr_ret (xs_leave (xs_if (et_is (et_or ta fun _ => et_or tb fun _ => et_or (b := true) tc fun z => nomatch (show true = false from z)) (b := true) rfl) (fun _ => xs_ret ed_bl) (fun z => nomatch (show true = false from z))) trivial)
    · have e : fitsLevel (.tuple es) = false := by
        match es, h2 with
        | [n, m], h => exact absurd rfl h
        | [], h => rfl
        | [_], h => rfl
        | _ :: _ :: _ :: _, h => rfl
      rw [e]
      exact xr_ret (xs_leave (xs_if (et_is (et_or (a := false) (et_is (et_not (et_B (ed_isi (d := .tuple es) (T := "tuple") (ed_var rfl)))) rfl) fun _ => et_or (a := true) (b := true) (et_is (et_test (ed_op (ed_cb (ea_cons (ed_var rfl) ea_nil) rc_lenT) ed_int r_neI)) (len_ne h2)) fun z => nomatch z) rfl) (fun _ => xs_ret ed_bl) (fun z => nomatch (show true = false from z))) trivial)
  | _ => exact xr_ret (xs_leave (xs_if (et_is (et_or (b := true) (et_not (et_B (ed_isi (ed_var rfl)))) (fun z => nomatch z)) rfl) (fun _ => xs_ret ed_bl) (fun z => nomatch (show true = false from z))) trivial)
abbrev s__law_are_rows : Stmt := topS 42
def R__law_are_rows : List PyData → PyData → Prop := fun ds d => ∃ (r : Int) (x : PyData), ds = [.int r, x] ∧ szOk x = true ∧ d = .bool (fitsPresses r x)
theorem f__law_are_rows (T : B5k mg) (a : At K mg "_law_are_rows" s__law_are_rows) (c__law_is_lights : Fc P w K mg base "_law_is_lights" ["_law_rooms", "_law_value"] 2 (SpR K R__law_is_lights)) : Fc P w K mg base "_law_are_rows" ["_law_rooms", "_law_value"] 3 (SpR K R__law_are_rows) := by
  have S : FnScope ["_law_rooms", "_law_value", "_law_item"] ["_law_rooms", "_law_value"] (defScope s__law_are_rows) := ⟨rfl, rfl, rfl, by decide +kernel, rfl, by decide +kernel, by decide +kernel⟩
  refine fc_mk a S (fun _ _ _ _ _ _ us hl => match us, hl with | [_, _], _ => rfl) (by rintro _ _ ⟨_, _, rfl, _⟩; rfl) fun f cdv A outer s H E gu hr => ?_
  have hc : (cxOf CX0 P w K mg base ["_law_rooms", "_law_value", "_law_item"] "_law_are_rows" (defScope s__law_are_rows) f cdv A outer s H E).nox.calm = true := rfl
  have hu64 : (cxOf CX0 P w K mg base ["_law_rooms", "_law_value", "_law_item"] "_law_are_rows" (defScope s__law_are_rows) f cdv A outer s H E).nox.A.units + 64 < cLine := hr.units
  refine ⟨_, (pss_one (ps_ret (pe_and (pe_callB call_isi (by rfl) T.isinstance (by decide +kernel) (pa_cons (pv 1) (pa_cons (pe_bltn (v := .ty "list") (by rfl) T.list boot_list rfl) pa_nil))) (pe_one (pe_cmpR (op_eqN hu64) (pe_lc (own := [("_law_item", 2)]) hc S.nd (pi_list (pv 1)) (blkOk_by (N := ["_law_rooms", "_law_value", "_law_item"]) (sc := defScope s__law_are_rows) (by decide +kernel)) (fun _ _ _ _ _ => (pg_name (i := 2) S.nd rfl (by first | exact Or.inl rfl | exact Or.inr rfl))) (fun _ _ _ _ _ => (pts_one (pt_not (pt_val (pe_f c__law_is_lights gu (hr.mono (by decide)) (by rfl) (pa_cons (pv 0) (pa_cons (pv 2) pa_nil))))))) (fun _ _ _ _ _ => (pv 2))) (pe_lst pa_nil) (nomark _)))))), ?_⟩
  rintro _ _ ⟨r, x, rfl, hz, rfl⟩
  cases x with
  | list es =>
    have hf := sz_list hz
    refine xr_ret (xs_ret (ed_is (ed_and (ed_isi (ed_var rfl)) fun _ => ed_op (ed_offs (j := 2) (fitsLights r) (ed_var rfl) (by decide) (by omega) (fun _ => rfl) fun d hd => et_not (et_B (ed_call (ea_cons (ed_var rfl) (ea_cons (ed_var rfl) ea_nil)) ⟨_, _, rfl, hf.2 d hd, rfl⟩))) (ed_lst ea_nil) r_eqN) ?_))
    rw [offs_nil]
    rfl
  | _ => exact xr_ret (xs_ret (ed_is (ed_and (b := false) (ed_isi (ed_var rfl)) (fun z => nomatch (show false = true from z))) rfl))
end
end TD

set_option maxHeartbeats 4000000
namespace TD
open PySem PySem.Spec PyProof.Rows L2
open Evl (Ex)
open PySem.W (alike alikeAll dataLt)
section
variable {P : Program} {w : World} {K : Fg} {mg : Str → Option Value} {base : Heap}
theorem call_isiK {X : Cx} (hK : X.K = K) : CallR X (.builtin "isinstance") (rIsi K) := hK ▸ call_isi
theorem call_lenK {X : Cx} (hK : X.K = K) : CallR X (.builtin "len") (rLen K) := hK ▸ call_len_seq
theorem run_tup {r : Int} {d : PyData} (h : fitsRun r d = true) : isTup 2 d = true := by
  cases d with
  | tuple es => match es, h with
    | [n, m], _ => rfl
    | [], h => exact nomatch (show false = true from h)
    | [_], h => exact nomatch (show false = true from h)
    | _ :: _ :: _ :: _, h => exact nomatch (show false = true from h)
  | _ => exact nomatch (show false = true from h)
abbrev s__law_are_runs : Stmt := topS 43
def R__law_are_runs : List PyData → PyData → Prop := fun ds d => ∃ (r : Int) (x : PyData), ds = [.int r, x] ∧ szOk x = true ∧ d = .bool (fitsRuns r x)
theorem f__law_are_runs (T : B5k mg) (a : At K mg "_law_are_runs" s__law_are_runs) (c__law_is_lights : Fc P w K mg base "_law_is_lights" ["_law_rooms", "_law_value"] 2 (SpR K R__law_is_lights)) (c__law_is_whole : Fc P w K mg base "_law_is_whole" ["_law_value"] 1 (SpR K R__law_is_whole)) : Fc P w K mg base "_law_are_runs" ["_law_rooms", "_law_value"] 3 (SpR K R__law_are_runs) := by
  have S : FnScope ["_law_rooms", "_law_value", "_law_item"] ["_law_rooms", "_law_value"] (defScope s__law_are_runs) := ⟨rfl, rfl, rfl, by decide +kernel, rfl, by decide +kernel, by decide +kernel⟩
  refine fc_mk a S (fun _ _ _ _ _ _ us hl => match us, hl with | [_, _], _ => rfl) (by rintro _ _ ⟨_, _, rfl, _⟩; rfl) fun f cdv A outer s H E gu hr => ?_
  have hc : (cxOf CX0 P w K mg base ["_law_rooms", "_law_value", "_law_item"] "_law_are_runs" (defScope s__law_are_runs) f cdv A outer s H E).nox.calm = true := rfl
  have hu64 : (cxOf CX0 P w K mg base ["_law_rooms", "_law_value", "_law_item"] "_law_are_runs" (defScope s__law_are_runs) f cdv A outer s H E).nox.A.units + 64 < cLine := hr.units
  refine ⟨_, (pss_cons (ps_if (PW.pt (pw_or (pt_not (pt_val (pe_callB call_isi (by rfl) T.isinstance (by decide +kernel) (pa_cons (pv 1) (pa_cons (pe_bltn (v := .ty "list") (by rfl) T.list boot_list rfl) pa_nil))))) (pw_or1 (pt_cmpR (op_neN hu64) (pe_lc (own := [("_law_item", 2)]) hc S.nd (pi_list (pv 1)) (blkOk_by (N := ["_law_rooms", "_law_value", "_law_item"]) (sc := defScope s__law_are_runs) (by decide +kernel)) (fun _ _ _ _ _ => (pg_name (i := 2) S.nd rfl (by first | exact Or.inl rfl | exact Or.inr rfl))) (fun _ _ _ _ _ => (pts_one (PW.pt (pw_or (pt_not (pt_val (pe_callB (call_isiK (K := K) rfl) (by rfl) T.isinstance (by decide +kernel) (pa_cons (pv 2) (pa_cons (pe_bltn (v := .ty "tuple") (by rfl) T.tuple boot_tuple rfl) pa_nil))))) (pw_or1 (pt_cmpR op_ne (pe_callB (call_lenK (K := K) rfl) (by rfl) T.len (by decide +kernel) (pa_cons (pv 2) pa_nil)) pe_int (nomark _))))))) (fun _ _ _ _ _ => (pv 2))) (pe_lst pa_nil) (nomark _))))) (pss_one (ps_ret pe_bl)) pss_nil)
  (pss_one (ps_ret (pe_cmpR (op_eqN hu64) (pe_lc (own := [("_law_item", 2)]) hc S.nd (pi_list (pv 1)) (blkOk_by (N := ["_law_rooms", "_law_value", "_law_item"]) (sc := defScope s__law_are_runs) (by decide +kernel)) (fun _ _ _ _ _ => (pg_name (i := 2) S.nd rfl (by first | exact Or.inl rfl | exact Or.inr rfl))) (fun _ _ _ _ _ => (pts_one (PW.pt (pw_or (pt_not (pt_val (pe_f c__law_is_lights gu (hr.mono (by decide)) (by rfl) (pa_cons (pv 0) (pa_cons (pe_ix (ix_tupK (K := K) rfl) (pv 2) pe_int (fun _ _ => rfl)) pa_nil))))) (pw_or (pt_not (pt_val (pe_f c__law_is_whole gu (hr.mono (by decide)) (by rfl) (pa_cons (pe_ix (ix_tupK (K := K) rfl) (pv 2) pe_int (fun _ _ => rfl)) pa_nil)))) (pw_or1 (pt_cmpR op_lt (pe_ix (ix_tupK (K := K) rfl) (pv 2) pe_int (fun _ _ => rfl)) pe_int (nomark _)))))))) (fun _ _ _ _ _ => (pv 2))) (pe_lst pa_nil) (nomark _))))), ?_⟩
  rintro _ _ ⟨r, x, rfl, hz, rfl⟩
  cases x with
  | list es =>
    have hf := sz_list hz
    have t1 : ∀ d, d ∈ es → ET K (tOr (tNot (tB (tCB (rIsi K) (tCons (tVar 2) (tCons (tC (.ty "tuple")) tNil))))) (tTest (tOp rNe (tCB (rLen K) (tCons (tVar 2) tNil)) (tC (.int 2))))) [some (.int r), some (.list es), some d] (!isTup 2 d) := fun d _ => by
      cases d with
      | tuple fs => exact et_is (et_or (et_not (et_B (ed_isi (d := .tuple fs) (T := "tuple") (ed_var rfl)))) fun _ => et_test (ed_op (ed_cb (ea_cons (ed_var rfl) ea_nil) rc_lenT) ed_int r_neI)) rfl
      | _ => exact et_is (et_or (b := true) (et_not (et_B (ed_isi (T := "tuple") (ed_var rfl)))) (fun z => nomatch z)) rfl
    have e1 := ed_op (K := K) (ed_offs (ρ := [some (.int r), some (.list es), none]) (j := 2) (vs := [2]) (isTup 2) (ed_var (i := 1) rfl) (by decide) (by omega) (fun _ => rfl) t1) (ed_lst ea_nil) r_neN
    rw [offs_nil] at e1
    have t2 := et_or (et_not (et_B (ed_isi (K := K) (ρ := [some (.int r), some (.list es), none]) (d := .list es) (T := "list") (ed_var (i := 1) rfl)))) fun _ => et_test e1
    cases hall : es.all (isTup 2) with
    | false =>
      have e : fitsRuns r (.list es) = false := by
        rw [Bool.eq_false_iff]
        intro z
        rw [List.all_eq_true.mpr (fun d hd => run_tup (List.all_eq_true.mp (show es.all (fitsRun r) = true from z) d hd))] at hall
        cases hall
      rw [hall] at t2
      rw [e]
      exact xr_ret (xs_leave (xs_if t2 (fun _ => xs_ret ed_bl) (fun z => nomatch (show true = false from z))) trivial)
    | true =>
      rw [hall] at t2
      refine xr_ret (xs_seq (xs_if t2 (fun z => nomatch (show false = true from z)) (fun _ => xs_next)) (xs_ret (ed_is (ed_op (ed_offs (j := 2) (fitsRun r) (ed_var rfl) (by decide) (by omega) (fun _ => rfl) fun d hd => ?_) (ed_lst ea_nil) r_eqN) ?_)))
      · obtain ⟨n, m, rfl⟩ := tup2_yes (List.all_eq_true.mp hall d hd)
        have zn := (sz_tup (hf.2 _ hd)).2 n (by simp)
        refine et_is (et_or (et_not (et_B (ed_call (ea_cons (ed_var rfl) (ea_cons (ed_op (ed_var rfl) ed_int r_ixT0) ea_nil)) ⟨_, _, rfl, zn, rfl⟩))) fun _ => et_is (et_or (b := !isCount m) (et_not (et_B (ed_call (ea_cons (ed_op (ed_var rfl) ed_int r_ixT1) ea_nil) ⟨_, rfl, rfl⟩))) fun hw => ?_) (b := !isCount m) ?_) ?_
        · obtain ⟨i, rfl⟩ := whole_int (d := m) (by cases h : isWhole m with | true => rfl | false => rw [h] at hw; cases hw)
          refine et_is (et_test (ed_op (ed_op (ed_var rfl) ed_int r_ixT1) ed_int (r_Ib (g := fun i j => decide (i < j))))) ?_
          show decide (i < 0) = !decide (0 ≤ i)
          by_cases h : i < 0
          · rw [decide_eq_true h, decide_eq_false (by omega)]
            rfl
          · rw [decide_eq_false h, decide_eq_true (by omega)]
            rfl
        · cases m with
          | int i => rfl
          | _ => rfl
        · show (!fitsLights r n || !isCount m) = !(fitsLights r n && isCount m)
          rw [Bool.not_and]
      · rw [offs_nil]
        rfl
  | _ => exact xr_ret (xs_leave (xs_if (et_is (et_or (b := true) (et_not (et_B (ed_isi (ed_var rfl)))) (fun z => nomatch z)) rfl) (fun _ => xs_ret ed_bl) (fun z => nomatch (show true = false from z))) trivial)
abbrev s__law_are_endless : Stmt := topS 44
def R__law_are_endless : List PyData → PyData → Prop := fun ds d => ∃ (r : Int) (x : PyData), ds = [.int r, x] ∧ szOk x = true ∧ d = .bool (fitsEndless r x)
theorem f__law_are_endless (T : B5k mg) (a : At K mg "_law_are_endless" s__law_are_endless) (c__law_are_rows : Fc P w K mg base "_law_are_rows" ["_law_rooms", "_law_value"] 3 (SpR K R__law_are_rows)) : Fc P w K mg base "_law_are_endless" ["_law_rooms", "_law_value"] 4 (SpR K R__law_are_endless) := by
  have S : FnScope ["_law_rooms", "_law_value"] ["_law_rooms", "_law_value"] (defScope s__law_are_endless) := ⟨rfl, rfl, rfl, by decide +kernel, rfl, by decide +kernel, by decide +kernel⟩
  refine fc_mk a S (fun _ _ _ _ _ _ us hl => match us, hl with | [_, _], _ => rfl) (by rintro _ _ ⟨_, _, rfl, _⟩; rfl) fun f cdv A outer s H E gu hr => ?_
  have hc : (cxOf CX0 P w K mg base ["_law_rooms", "_law_value"] "_law_are_endless" (defScope s__law_are_endless) f cdv A outer s H E).nox.calm = true := rfl
  have hu64 : (cxOf CX0 P w K mg base ["_law_rooms", "_law_value"] "_law_are_endless" (defScope s__law_are_endless) f cdv A outer s H E).nox.A.units + 64 < cLine := hr.units
  refine ⟨_, (pss_cons (ps_if (PW.pt (pw_or (pt_not (pt_val (pe_callB call_isi (by rfl) T.isinstance (by decide +kernel) (pa_cons (pv 1) (pa_cons (pe_bltn (v := .ty "tuple") (by rfl) T.tuple boot_tuple rfl) pa_nil))))) (pw_or (pt_cmpR op_ne (pe_callB call_len_seq (by rfl) T.len (by decide +kernel) (pa_cons (pv 1) pa_nil)) pe_int (nomark _)) (pw_or1 (pt_not (pt_val (pe_f c__law_are_rows gu (hr.mono (by decide)) (by rfl) (pa_cons (pv 0) (pa_cons (pe_ix ix_tup (pv 1) pe_int (fun _ _ => rfl)) pa_nil))))))))) (pss_one (ps_ret pe_bl)) pss_nil)
  (pss_one (ps_ret (pe_and (pe_f c__law_are_rows gu (hr.mono (by decide)) (by rfl) (pa_cons (pv 0) (pa_cons (pe_ix ix_tup (pv 1) pe_int (fun _ _ => rfl)) pa_nil))) (pe_one (pe_cmpR (op_neN hu64) (pe_ix ix_tup (pv 1) pe_int (fun _ _ => rfl)) (pe_lst pa_nil) (nomark _))))))), ?_⟩
  rintro _ _ ⟨r, x, rfl, hz, rfl⟩
  cases x with
  | tuple es =>
    by_cases h2 : (es.length : Int) = 2
    · obtain ⟨n, m, rfl⟩ : ∃ n m, es = [n, m] := by
        match es, h2 with
        | [n, m], _ => exact ⟨n, m, rfl⟩
        | [], h => exact absurd h (by decide)
        | [_], h => exact absurd h (by simp)
        | _ :: _ :: _ :: _, h =>
          simp at h
          omega
      have zn := (sz_tup hz).2 n (by simp)
      have zm := (sz_tup hz).2 m (by simp)
      have t1 := et_or (et_not (et_B (ed_isi (K := K) (ρ := [some (.int r), some (.tuple [n, m])]) (d := .tuple [n, m]) (T := "tuple") (ed_var (i := 1) rfl)))) fun _ => et_or (a := false) (et_is (et_test (ed_op (ed_cb (ea_cons (ed_var (i := 1) rfl) ea_nil) rc_lenT) (ed_int (i := 2)) r_neI)) rfl) fun _ => et_not (et_B (ed_call (R := R__law_are_rows) (E := E0) (ea_cons (ed_var (i := 0) rfl) (ea_cons (ed_op (ed_var (i := 1) rfl) (ed_int (i := 0)) r_ixT0) ea_nil)) ⟨_, _, rfl, zn, rfl⟩))
      cases hn : fitsPresses r n with
      | false =>
        rw [hn] at t1
        have e : fitsEndless r (.tuple [n, m]) = false := by
          show (fitsPresses r n && _) = false
          rw [hn]
          rfl
        rw [e]
        exact xr_ret (xs_leave (xs_if t1 (fun _ => xs_ret ed_bl) (fun z => nomatch (show true = false from z))) trivial)
      | true =>
        rw [hn] at t1
        have e : fitsEndless r (.tuple [n, m]) = (fitsPresses r m && notNil m) := by
          show (fitsPresses r n && _) = _
          rw [hn]
          rfl
        rw [e]
        refine xr_ret (xs_seq (xs_if t1 (fun z => nomatch (show false = true from z)) (fun _ => xs_next)) (xs_ret ?_))
        refine ed_and (ed_call (ea_cons (ed_var rfl) (ea_cons (ed_op (ed_var rfl) ed_int r_ixT1) ea_nil)) ⟨_, _, rfl, zm, rfl⟩) fun h => ?_
        obtain ⟨fs, rfl⟩ := presses_list h
        refine ed_is (ed_op (ed_op (ed_var rfl) ed_int r_ixT1) (ed_lst ea_nil) r_neN) ?_
        cases fs <;> rfl
    · have e : fitsEndless r (.tuple es) = false := by
        match es, h2 with
        | [n, m], h => exact absurd rfl h
        | [], h => rfl
        | [_], h => rfl
        | _ :: _ :: _ :: _, h => rfl
      rw [e]
      exact xr_ret (xs_leave (xs_if (et_is (et_or (a := false) (et_is (et_not (et_B (ed_isi (d := .tuple es) (T := "tuple") (ed_var rfl)))) rfl) fun _ => et_or (a := true) (b := true) (et_is (et_test (ed_op (ed_cb (ea_cons (ed_var rfl) ea_nil) rc_lenT) ed_int r_neI)) (len_ne h2)) fun z => nomatch z) rfl) (fun _ => xs_ret ed_bl) (fun z => nomatch (show true = false from z))) trivial)
  | _ => exact xr_ret (xs_leave (xs_if (et_is (et_or (b := true) (et_not (et_B (ed_isi (ed_var rfl)))) (fun z => nomatch z)) rfl) (fun _ => xs_ret ed_bl) (fun z => nomatch (show true = false from z))) trivial)
def geAt (es : List PyData) : PyData → Bool
  | .int j => !dataLt (es.getD (j.toNat - 1) .none) (es.getD j.toNat .none)
  | _ => false
theorem geAt_eq (es : List PyData) (i : Nat) : geAt es (.int ((i + 1 : Nat) : Int)) = !dataLt (es.getD i .none) (es.getD (i + 1) .none) := by
  show (!dataLt (es.getD (((i + 1 : Nat) : Int).toNat - 1) .none) (es.getD ((i + 1 : Nat) : Int).toNat .none)) = _
  rw [Int.toNat_natCast, Nat.add_sub_cancel]
theorem mem_rg1 {k : Nat} {d : PyData} (h : d ∈ rgD 1 k) : ∃ i : Nat, i < k ∧ d = .int ((i + 1 : Nat) : Int) := by
  obtain ⟨i, hi, e⟩ := List.mem_map.mp h
  refine ⟨i, List.mem_range.mp hi, ?_⟩
  rw [← e]
  congr 1
  omega
theorem ups_none {es : List PyData} : (picked (rgD 1 (es.length - 1)) (geAt es) id).isEmpty = ups es := by
  unfold picked ups
  rw [List.map_id]
  rw [Bool.eq_iff_iff, List.isEmpty_iff, List.filter_eq_nil_iff, List.all_eq_true]
  constructor
  · intro h i hi
    have hi' := List.mem_range.mp hi
    have m : PyData.int ((1 : Int) + (i : Int)) ∈ rgD 1 (es.length - 1) := List.mem_map.mpr ⟨i, hi, rfl⟩
    have z := h _ m
    have e : (1 : Int) + (i : Int) = ((i + 1 : Nat) : Int) := by omega
    rw [e, geAt_eq] at z
    simpa using z
  · intro h d hd
    obtain ⟨i, hi, rfl⟩ := mem_rg1 hd
    have z := h i (List.mem_range.mpr hi)
    rw [geAt_eq, z]
    simp
abbrev s__law_are_letters : Stmt := topS 45
def R__law_are_letters : List PyData → PyData → Prop := fun ds d => ∃ (r : Int) (x : PyData), ds = [.int r, x] ∧ szOk x = true ∧ d = .bool (fitsLetters r x)
theorem f__law_are_letters (T : B5k mg) (sm : ∃ mm, base.Ns sysModules mm) (a : At K mg "_law_are_letters" s__law_are_letters) (c__law_are_rows : Fc P w K mg base "_law_are_rows" ["_law_rooms", "_law_value"] 3 (SpR K R__law_are_rows)) : Fc P w K mg base "_law_are_letters" ["_law_rooms", "_law_value"] 4 (SpR K R__law_are_letters) := by
  have S : FnScope ["_law_rooms", "_law_value", "_law_at"] ["_law_rooms", "_law_value"] (defScope s__law_are_letters) := ⟨rfl, rfl, rfl, by decide +kernel, rfl, by decide +kernel, by decide +kernel⟩
  refine fc_mk a S (fun _ _ _ _ _ _ us hl => match us, hl with | [_, _], _ => rfl) (by rintro _ _ ⟨_, _, rfl, _⟩; rfl) fun f cdv A outer s H E gu hr => ?_
  have hc : (cxOf CX0 P w K mg base ["_law_rooms", "_law_value", "_law_at"] "_law_are_letters" (defScope s__law_are_letters) f cdv A outer s H E).nox.calm = true := rfl
  have hu64 : (cxOf CX0 P w K mg base ["_law_rooms", "_law_value", "_law_at"] "_law_are_letters" (defScope s__law_are_letters) f cdv A outer s H E).nox.A.units + 64 < cLine := hr.units
  refine ⟨_, (pss_one (ps_ret (pe_and (pe_f c__law_are_rows gu (hr.mono (by decide)) (by rfl) (pa_cons (pv 0) (pa_cons (pv 1) pa_nil))) (pe_and (pe_cmpR (op_neN hu64) (pv 1) (pe_lst pa_nil) (nomark _)) (pe_one (pe_cmpR (op_eqN hu64) (pe_lc (own := [("_law_at", 2)]) hc S.nd (pi_range2 (by rfl) T.range (pa_cons pe_int (pa_cons (pe_callB call_len_seq (by rfl) T.len (by decide +kernel) (pa_cons (pv 1) pa_nil)) pa_nil))) (blkOk_by (N := ["_law_rooms", "_law_value", "_law_at"]) (sc := defScope s__law_are_letters) (by decide +kernel)) (fun _ _ _ _ _ => (pg_name (i := 2) S.nd rfl (by first | exact Or.inl rfl | exact Or.inr rfl))) (fun _ _ _ _ _ => (pts_one (pt_cmpR (op_geAK (K := K) rfl (by exact sm) (by exact hu64)) (pe_ix (ix_listK (K := K) rfl) (pv 1) (pe_op op_sub (pv 2) pe_int) (fun _ _ => rfl)) (pe_ix (ix_listK (K := K) rfl) (pv 1) (pv 2) (fun _ _ => rfl)) (nomark _)))) (fun _ _ _ _ _ => (pv 2))) (pe_lst pa_nil) (nomark _))))))), ?_⟩
  rintro _ _ ⟨r, x, rfl, hz, rfl⟩
  cases hp : fitsPresses r x with
  | false =>
    have e : fitsLetters r x = false := by
      cases x with
      | list es =>
        show (fitsPresses r (.list es) && _) = false
        rw [hp]
        rfl
      | _ => rfl
    rw [e]
    exact xr_ret (xs_ret (ed_is (ed_and (a := false) (b := false) (ed_call (ea_cons (ed_var rfl) (ea_cons (ed_var rfl) ea_nil)) ⟨_, _, rfl, hz, by rw [hp]⟩) (fun z => nomatch z)) rfl))
  | true =>
    obtain ⟨es, rfl⟩ := presses_list hp
    have hf := sz_list hz
    have e : fitsLetters r (.list es) = (!es.isEmpty && ups es) := by
      show (fitsPresses r (.list es) && (!es.isEmpty && ups es)) = _
      rw [hp]
      rfl
    rw [e]
    refine xr_ret (xs_ret (ed_is (ed_and (a := true) (ed_call (ea_cons (ed_var rfl) (ea_cons (ed_var rfl) ea_nil)) ⟨_, _, rfl, hz, by rw [hp]⟩) fun _ => ed_and (ed_op (ed_var rfl) (ed_lst ea_nil) r_neN) fun _ => ed_op (ed_lcR2 (j := 2) (lo := 1) (n := (es.length : Int)) (geAt es) id (ea_cons ed_int (ea_cons (ed_cb (ea_cons (ed_var rfl) ea_nil) rc_lenL) ea_nil)) ⟨by omega, by omega, by decide, by decide⟩ (by decide) (fun d hd => ?_) (fun d hd _ => ed_var rfl)) (ed_lst ea_nil) r_eqN) ?_))
    · have ek : ((es.length : Int) - 1).toNat = es.length - 1 := by omega
      rw [ek] at hd
      obtain ⟨i, hi, rfl⟩ := mem_rg1 hd
      have g1 : es[i]? = some (es.getD i .none) := by
        rw [List.getD_eq_getElem?_getD, List.getElem?_eq_getElem (by omega)]
        rfl
      have g2 : es[i + 1]? = some (es.getD (i + 1) .none) := by
        rw [List.getD_eq_getElem?_getD, List.getElem?_eq_getElem (by omega)]
        rfl
      have f1 := List.all_eq_true.mp (show es.all (fitsLights r) = true from hp) _ (List.mem_of_getElem? g1)
      have f2 := List.all_eq_true.mp (show es.all (fitsLights r) = true from hp) _ (List.mem_of_getElem? g2)
      obtain ⟨k1, k2, k3⟩ := lights_alike f1 f2
      refine et_is (et_test (ed_op (ed_op (ed_var rfl) (ed_is (ed_op (ed_var rfl) ed_int r_Ii) (y := .int (i : Int)) ?_) (r_ixL g1)) (ed_op (ed_var rfl) (ed_var rfl) (r_ixL (i := i + 1) g2)) (r_geA k1 k2 k3))) ?_
      · congr 1
        omega
      · rw [geAt_eq]
    · have ek : ((es.length : Int) - 1).toNat = es.length - 1 := by omega
      rw [ek, ups_none]
      rfl
end
end TD

set_option maxHeartbeats 4000000
namespace TD
open PySem PySem.Spec PyProof.Rows L2
open Evl (Ex)
/-! # levels and presses that are drawn -/
section
variable {P : Program} {w : World} {K : Fg} {mg : Str → Option Value} {base : Heap}
theorem eg_rnd {ρ : En} {n : Nat} {m : Int} {tm : TE} (h : ED K tm ρ (.int m)) (hm : 1 ≤ m ∧ m ≤ 10 ^ 30) : EG K 0 (tCall (SpG K 5 preRnd R_rnd) [] E0 (tCons (tVar 0) (tCons tm tNil))) ρ (n + 5) (fun d => ∃ i : Int, d = .int i ∧ 0 ≤ i ∧ i < m) n := by
  refine eg_to (eg_call (c := 5) (Pre := preRnd) (R := R_rnd) (Ps := fun ds => ds = [.int m]) (m := n) (ega_of (n := n + 5) (ea_cons h ea_nil)) ?_) ?_
  · rintro ds rfl
    exact ⟨m, rfl, hm.1, hm.2⟩
  · rintro d ⟨ds, rfl, m', i, e, rfl, h0, h1⟩
    injection e with e _
    injection e with e
    subst e
    exact ⟨i, rfl, h0, h1⟩
abbrev s__law_lights : Stmt := topS 36
def preLights : List PyData → Prop := fun ds => ∃ (r : Nat) (m : Int), ds = [.int (r : Int), .int m] ∧ r ≤ 8 ∧ 1 ≤ m ∧ m ≤ 1000
def R_lights : List PyData → PyData → Prop := fun ds d => ∃ (r : Nat) (m : Int) (ns : List Int), ds = [.int (r : Int), .int m] ∧ d = .list (intsD ns) ∧ fitsLights r d = true ∧ ns.length ≤ r
theorem f__law_lights (T : Bg mg) (a : At K mg "_law_lights" s__law_lights) (c__law_random : Fc P w K mg base "_law_random" ["_law_generator_here", "_law_bound"] 2 (SpG K 5 preRnd R_rnd)) : Fc P w K mg base "_law_lights" ["_law_generator_here", "_law_rooms", "_law_many"] 3 (SpG K 40 preLights R_lights) := by
  have S : FnScope ["_law_generator_here", "_law_rooms", "_law_many", "_law_room"] ["_law_generator_here", "_law_rooms", "_law_many"] (defScope s__law_lights) := ⟨rfl, rfl, rfl, by decide +kernel, rfl, by decide +kernel, by decide +kernel⟩
  refine fg_mk a S (fun _ _ _ _ _ _ us hl => match us, hl with | [_, _, _], _ => rfl) (by rintro _ ⟨r, m, rfl, _⟩; rfl) fun f cdv A outer s H E gu hr => ?_
  have hc : (cxOf CX0 P w K mg base ["_law_generator_here", "_law_rooms", "_law_many", "_law_room"] "_law_lights" (defScope s__law_lights) f cdv A outer s H E).nox.calm = true := rfl
  refine ⟨_, (pss_one (ps_ret (pe_lc (own := [("_law_room", 3)]) hc S.nd (pi_range1 (by rfl) T.range (pa_cons (pv 1) pa_nil)) (blkOk_by (N := ["_law_generator_here", "_law_rooms", "_law_many", "_law_room"]) (sc := defScope s__law_lights) (by decide +kernel)) (fun _ _ _ _ _ => (pg_name (i := 3) S.nd rfl (by first | exact Or.inl rfl | exact Or.inr rfl))) (fun _ _ _ _ _ => (pts_one (pt_cmpR op_eq (pe_f c__law_random gu (hr.mono (by decide)) (by rfl) (pa_cons (pv 0) (pa_cons (pv 2) pa_nil))) pe_int (nomark _)))) (fun _ _ _ _ _ => (pv 3))))), ?_⟩
  rintro _ n ⟨r, m, rfl, hr8, hm1, hm2⟩
  refine rg_ret (eg_to (eg_lcR1 (N := 8) (c := 5) (c2 := 0) (m := n) (Pn := fun ds => ds = [.int (r : Int)]) (fun i out => ∃ ns : List Int, out = intsD ns ∧ asc (i : Int) (-1) out = true) (Pt := fun _ _ => True) (Pe := fun i d => d = .int (i : Int)) (ega_of (ea_cons (ed_var rfl) ea_nil)) ?_ (by decide) (by decide) (by decide) ?_ ?_ ⟨[], rfl, rfl⟩ ?_ ?_) ?_)
  · rintro ds rfl
    exact ⟨r, rfl, hr8⟩
  · intro i k hi
    refine egt_test (eg_op (eg_rnd (n := k) (ed_var rfl) ⟨hm1, by omega⟩) (eg_of ed_int) (P := fun d => ∃ b, d = .bool b) ?_) ?_
    · rintro x y ⟨i, rfl, _⟩ rfl
      exact ⟨_, r_eqI, _, rfl⟩
    · rintro d ⟨b, rfl⟩
      exact ⟨b, rfl, trivial⟩
  · intro i k hi
    exact eg_of (ed_var rfl)
  · rintro i out d hi hl ⟨ns, rfl, ha⟩ _ rfl
    refine ⟨ns ++ [(i : Int)], ints_snoc ns i, ?_⟩
    exact asc_snoc (by omega) (by omega) ha
  · rintro i out hi ⟨ns, rfl, ha⟩ _
    exact ⟨ns, rfl, asc_up (by omega) ha⟩
  · rintro d ⟨t, out, ht, e, rfl, hl, ns, rfl, ha⟩
    injection e with e _
    injection e with e
    have e' : t = r := by omega
    subst e'
    refine ⟨t, m, ns, rfl, rfl, ha, ?_⟩
    unfold intsD at hl
    rwa [List.length_map] at hl
abbrev s__law_presses : Stmt := topS 38
def prePresses : List PyData → Prop := fun ds => ∃ (r t : Nat), ds = [.int (r : Int), .int (t : Int)] ∧ r ≤ 8 ∧ t ≤ 8
def R_presses : List PyData → PyData → Prop := fun ds d => ∃ (r t : Nat) (out : List PyData), ds = [.int (r : Int), .int (t : Int)] ∧ d = .list out ∧ out.length ≤ t ∧ ∀ x ∈ out, ∃ ns : List Int, x = .list (intsD ns) ∧ fitsLights r x = true ∧ ns.length ≤ r
theorem f__law_presses (T : Bg mg) (a : At K mg "_law_presses" s__law_presses) (c__law_random : Fc P w K mg base "_law_random" ["_law_generator_here", "_law_bound"] 2 (SpG K 5 preRnd R_rnd)) (c__law_lights : Fc P w K mg base "_law_lights" ["_law_generator_here", "_law_rooms", "_law_many"] 3 (SpG K 40 preLights R_lights)) : Fc P w K mg base "_law_presses" ["_law_generator_here", "_law_rooms", "_law_ticks"] 4 (SpG K 400 prePresses R_presses) := by
  have S : FnScope ["_law_generator_here", "_law_rooms", "_law_ticks", "_law_tick"] ["_law_generator_here", "_law_rooms", "_law_ticks"] (defScope s__law_presses) := ⟨rfl, rfl, rfl, by decide +kernel, rfl, by decide +kernel, by decide +kernel⟩
  refine fg_mk a S (fun _ _ _ _ _ _ us hl => match us, hl with | [_, _, _], _ => rfl) (by rintro _ ⟨r, m, rfl, _⟩; rfl) fun f cdv A outer s H E gu hr => ?_
  have hc : (cxOf CX0 P w K mg base ["_law_generator_here", "_law_rooms", "_law_ticks", "_law_tick"] "_law_presses" (defScope s__law_presses) f cdv A outer s H E).nox.calm = true := rfl
  refine ⟨_, (pss_one (ps_ret (pe_lc (own := [("_law_tick", 3)]) hc S.nd (pi_range1 (by rfl) T.range (pa_cons (pe_f c__law_random gu (hr.mono (by decide)) (by rfl) (pa_cons (pv 0) (pa_cons (pe_op op_add (pv 2) pe_int) pa_nil))) pa_nil)) (blkOk_by (N := ["_law_generator_here", "_law_rooms", "_law_ticks", "_law_tick"]) (sc := defScope s__law_presses) (by decide +kernel)) (fun _ _ _ _ _ => (pg_name (i := 3) S.nd rfl (by first | exact Or.inl rfl | exact Or.inr rfl))) (fun _ _ _ _ _ => pts_nil) (fun _ _ _ _ _ => (pe_f c__law_lights gu (hr.mono (by decide)) (by rfl) (pa_cons (pv 0) (pa_cons (pv 1) (pa_cons pe_int pa_nil)))))))), ?_⟩
  rintro _ n ⟨r, t, rfl, hr8, ht8⟩
  refine rg_ret (eg_to (eg_lcR1 (N := 8) (c := 40) (c2 := 40) (m := n) (n := n + 400) (Pn := fun ds => ∃ i : Nat, ds = [.int (i : Int)] ∧ i ≤ t) (fun i out => ∀ x ∈ out, ∃ ns : List Int, x = .list (intsD ns) ∧ fitsLights r x = true ∧ ns.length ≤ r) (Pt := fun _ _ => True) (Pe := fun i x => ∃ ns : List Int, x = .list (intsD ns) ∧ fitsLights r x = true ∧ ns.length ≤ r) ?_ ?_ (by decide) (by decide) (by decide) ?_ ?_ (fun _ h => nomatch h) ?_ ?_) ?_)
  · refine fun g σ B H s hg ga hs sd Q q => ?_
    refine ega_cons (P := fun d => ∃ i : Int, d = .int i ∧ 0 ≤ i ∧ i < (t : Int) + 1) (eg_rnd (n := n + 8 * 40) (m := (t : Int) + 1) (ed_op (ed_var rfl) ed_int r_Ii) ⟨by omega, by omega⟩) ega_nil g σ B H s hg (ga.less (by omega)) hs sd Q fun vs ds B' H' l g2 hd p => q vs ds B' H' l g2 hd ?_
    obtain ⟨d, rr, rfl, ⟨i, rfl, h0, h1⟩, rfl⟩ := p
    exact ⟨i.toNat, by rw [Int.toNat_of_nonneg h0], by omega⟩
  · rintro ds ⟨i, rfl, hi⟩
    exact ⟨i, rfl, by omega⟩
  · intro i k hi
    exact fun g σ B H s hg ga hs sd Q q => q true B H (LeG.of (Le.rfl' s)) ga trivial
  · intro i k hi
    refine eg_to (eg_call (c := 40) (Pre := preLights) (R := R_lights) (Ps := fun ds => ds = [.int (r : Int), .int 3]) (m := k) (ega_of (n := k + 40) (ea_cons (ed_var rfl) (ea_cons ed_int ea_nil))) ?_) ?_
    · rintro ds rfl
      exact ⟨r, 3, rfl, hr8, by decide, by decide⟩
    · rintro d ⟨ds, rfl, r', m', ns, e, rfl, h1, h2⟩
      injection e with e _
      injection e with e
      have e' : r' = r := by omega
      subst e'
      exact ⟨ns, rfl, h1, h2⟩
  · rintro i out d hi hl hJ _ hd x hx
    rcases List.mem_append.mp hx with z | z
    · exact hJ x z
    · rw [List.mem_singleton.mp z]
      exact hd
  · exact fun i out hi hJ _ => hJ
  · rintro d ⟨t', out, ht, ⟨i, e, hi⟩, rfl, hl, hJ⟩
    injection e with e _
    injection e with e
    exact ⟨r, t, out, rfl, rfl, by omega, hJ⟩
end
end TD

set_option maxHeartbeats 4000000
namespace TD
open PySem PySem.Spec PyProof.Rows L2
open Evl (Ex)
/-! # levels that are drawn -/
section
variable {P : Program} {w : World} {K : Fg} {mg : Str → Option Value} {base : Heap}
theorem leG_mut {g D : Addr} {B H B' H' : Hp} {o : HO} (l : LeG g B H B' H') (hD : H D = none) (nD : B' D = none) : LeG g B H B' (upd H' D o) where
  ex := fun a u n e => by
    rw [upd_ne (ne_of_none e hD)]
    exact l.ex a u n e
  ek := l.ek
  sub := fun a u e => by
    rw [upd_ne (ne_of_none e nD)]
    exact l.sub a u e
  old := l.old
theorem GenAt.upd {g D : Addr} {n : Nat} {H : Hp} {o : HO} (h : GenAt g n H) (ne : D ≠ g) : GenAt g n (upd H D o) := by
  obtain ⟨a, b, c, e, r⟩ := h
  exact ⟨a, b, c, by rw [upd_ne (Ne.symm ne)]; exact e, r⟩
theorem leG_own {g D : Addr} {B H B' H' : Hp} {acc : List V} (l : LeG g B H B' H') (hD : H D = none) (nD : B' D = none) (e : H' D = some (.lst acc)) : LeG g B H (upd B' D (.lst acc)) H' where
  ex := l.ex
  ek := l.ek.trans fun a o z => by
    rw [upd_ne (ne_of_none z nD)]
    exact z
  sub := fun a o z => by
    by_cases w : a = D
    · subst w
      rw [upd_same] at z
      cases z
      exact e
    · rw [upd_ne w] at z
      exact l.sub a o z
  old := fun a z1 z2 => by
    rw [upd_ne (fun w => z2 (by rw [w]; exact hD))]
    exact l.old a z1 z2
/-- a loop over range(n) ahead of the rest -/
theorem seq_for1 {ta : TA} {g : TG} {tb u : TS} {D : Ends} {σ : L2.St} {H : Hp} (h : ta σ H fun vs H1 => ∃ j : Int, vs = [.int j] ∧ -(2 ^ 62) ≤ j ∧ j < 2 ^ 62 ∧ tFor (fun _ _ R => R (Itr 0 j.toNat) H1) g tb { D with nx := u D } σ H1) : tSeq (tFor (iRng1 ta) g tb) u D σ H := h
/-- a door of r rooms that is drawn -/
def Dr (r : Int) (x : PyData) : Prop := ∃ (ns : List Int) (i k : Int), x = .tuple [.list (intsD ns), .int i, .int k] ∧ fitsDoor r x = true ∧ ns.length ≤ 8
abbrev s__law_level : Stmt := topS 37
def preLevel : List PyData → Prop := fun ds => ∃ m t : Nat, ds = [.int (m : Int), .int (t : Int)] ∧ 1 ≤ m ∧ m ≤ 8 ∧ t ≤ 7
def R_level : List PyData → PyData → Prop := fun ds d => ∃ (m t r : Nat) (out : List PyData), ds = [.int (m : Int), .int (t : Int)] ∧ d = .tuple [.int (r : Int), .list out] ∧ 1 ≤ r ∧ r ≤ m ∧ out.length ≤ t ∧ ∀ x ∈ out, Dr r x
theorem f__law_level (T : Bg mg) (a : At K mg "_law_level" s__law_level) (c__law_random : Fc P w K mg base "_law_random" ["_law_generator_here", "_law_bound"] 2 (SpG K 5 preRnd R_rnd)) (c__law_lights : Fc P w K mg base "_law_lights" ["_law_generator_here", "_law_rooms", "_law_many"] 3 (SpG K 40 preLights R_lights)) : Fc P w K mg base "_law_level" ["_law_generator_here", "_law_most", "_law_many"] 4 (SpG K 500 preLevel R_level) := by
  have S : FnScope ["_law_generator_here", "_law_most", "_law_many", "_law_rooms", "_law_doors", "_law_turn", "_law_needs"] ["_law_generator_here", "_law_most", "_law_many"] (defScope s__law_level) := ⟨rfl, rfl, rfl, by decide +kernel, rfl, by decide +kernel, by decide +kernel⟩
  refine fg_mk a S (fun _ _ _ _ _ _ us hl => match us, hl with | [_, _, _], _ => rfl) (by rintro _ ⟨r, m, rfl, _⟩; rfl) fun f cdv A outer s H E gu hr => ?_
  have hc : (cxOf CX0 P w K mg base ["_law_generator_here", "_law_most", "_law_many", "_law_rooms", "_law_doors", "_law_turn", "_law_needs"] "_law_level" (defScope s__law_level) f cdv A outer s H E).nox.calm = true := rfl
  refine ⟨_, (pss_cons (ps_par (i := 3) (j := 4) hc S.nd rfl rfl (by decide) rfl rfl (pa_cons (pe_op op_add pe_int (pe_f c__law_random gu (hr.mono (by decide)) (by rfl) (pa_cons (pv 0) (pa_cons (pv 1) pa_nil)))) (pa_cons (pe_lst pa_nil) pa_nil)) (by rfl))
  (pss_cons (ps_for PassesOwn.never hc (pi_range1 (by rfl) T.range (pa_cons (pe_f c__law_random gu (hr.mono (by decide)) (by rfl) (pa_cons (pv 0) (pa_cons (pe_op op_add (pv 2) pe_int) pa_nil))) pa_nil)) (pg_name (i := 5) S.nd rfl (by first | exact Or.inl rfl | exact Or.inr rfl))
    (pss_cons (ps_set (i := 6) S.nd rfl (by first | exact Or.inl rfl | exact Or.inr rfl) (pe_f c__law_lights gu (hr.mono (by decide)) (by rfl) (pa_cons (pv 0) (pa_cons (pv 3) (pa_cons (pe_ix ix_list (pe_lst (pa_cons pe_int (pa_cons pe_int (pa_cons pe_int pa_nil)))) (pe_f c__law_random gu (hr.mono (by decide)) (by rfl) (pa_cons (pv 0) (pa_cons pe_int pa_nil))) (fun _ _ => rfl)) pa_nil)))))
  (pss_one (ps_expr (pe_bm PySem.F.plainAttrs_list PySem.F.slot_list_append PySem.F.type_list_append mt_append (pv 4) (pa_cons (pe_tup (pa_cons (pv 6) (pa_cons (pe_f c__law_random gu (hr.mono (by decide)) (by rfl) (pa_cons (pv 0) (pa_cons (pv 3) pa_nil))) (pa_cons (pe_op op_sub (pe_f c__law_random gu (hr.mono (by decide)) (by rfl) (pa_cons (pv 0) (pa_cons pe_int pa_nil))) pe_int) pa_nil)))) pa_nil))))))
  (pss_one (ps_ret (pe_tup (pa_cons (pv 3) (pa_cons (pv 4) pa_nil))))))), ?_⟩
  rintro _ n ⟨m, t, rfl, hm1, hm8, ht7⟩
  intro g σ B H D s hg ga hs sd q
  have hgH := ga.some
  -- rooms, doors
  refine eg_op (K := K) (j := 0) (n := n + 500) (m := n + 500) (k := n + 495) (P := fun d => ∃ r : Nat, d = .int (r : Int) ∧ 1 ≤ r ∧ r ≤ m) (eg_of ed_int) (eg_rnd (n := n + 495) (ed_var rfl) ⟨by omega, by omega⟩) ?_ g σ B H s hg ga hs sd _ fun v d B1 H1 l1 g1 hd p => ?_
  · rintro x y rfl ⟨i, rfl, h0, h1⟩
    exact ⟨_, r_Ii, (1 + i).toNat, by rw [Int.toNat_of_nonneg (by omega)], by omega, by omega⟩
  obtain ⟨r, rfl, hr1, hrm⟩ := p
  cases hd
  refine ⟨by show 0 ≤ sizeLine; decide, fun D0 hD0 => ⟨_, _, rfl, ?_⟩⟩
  have hD0g : D0 ≠ g := fun z => g1.some (by rw [← z]; exact hD0)
  have hD0H : H D0 = none := by
    cases z : H D0 with
    | none => rfl
    | some o =>
      rw [l1.ex D0 o hD0g z] at hD0
      cases hD0
  have nD1 : B1 D0 = none := Evl.fresh_back l1.sub hD0
  have l2 : LeG g B H B1 (upd H1 D0 (.lst [])) := leG_mut l1 hD0H nD1
  have g2 : GenAt g (n + 495) (upd H1 D0 (.lst [])) := g1.upd hD0g
  have e2 : (upd H1 D0 (.lst [])) D0 = some (.lst []) := upd_same
  generalize upd H1 D0 (.lst []) = H2 at *
  have sd1 : SD K B1 ((σ.set 3 (some (.int (r : Int)))).set 4 (some (.ref D0))) (((enG ["_law_generator_here", "_law_most", "_law_many", "_law_rooms", "_law_doors", "_law_turn", "_law_needs"] [.int (m : Int), .int (t : Int)]).set 3 (some (.int (r : Int)))).set 4 none) := ((sd.up l1.ek).put 3 (.int _)).drop 4 _
  have hs1 : ((σ.set 3 (some (.int (r : Int)))).set 4 (some (.ref D0)))[0]? = some (some (.ref g)) := by
    rw [List.getElem?_set_ne (by decide), List.getElem?_set_ne (by decide)]
    exact hs
  have h41 : ((σ.set 3 (some (.int (r : Int)))).set 4 (some (.ref D0)))[4]? = some (some (.ref D0)) := by
    rw [List.getElem?_set_self]
    rw [List.length_set, sd.1]
    exact Nat.le_of_ble_eq_true rfl
  generalize (σ.set 3 (some (.int (r : Int)))).set 4 (some (.ref D0)) = σ1 at *
  -- the turns
  dsimp only
  refine seq_for1 ?_
  refine ega_cons (K := K) (j := 0) (P := fun d => ∃ i : Int, d = .int i ∧ 0 ≤ i ∧ i < (t : Int) + 1) (eg_rnd (n := n + 490) (m := (t : Int) + 1) (ed_op (ed_var (i := 2) rfl) ed_int r_Ii) ⟨by omega, by omega⟩) ega_nil g σ1 B1 H2 l2.sub (l2.g hg hgH) g2 hs1 sd1 _ fun vs ds B3 H3 l3 g3 hd p => ?_
  obtain ⟨d, rr, rfl, ⟨k, rfl, hk0, hk1⟩, rfl⟩ := p
  obtain ⟨v, r2, rfl, dv, dr⟩ := hd.inv1
  cases dv
  cases dr
  refine ⟨k, rfl, by omega, by omega, ?_⟩
  have e3 := l3.ex D0 _ hD0g e2
  have nD3 : B3 D0 = none := l3.old D0 nD1 (fun z => by rw [e2] at z; cases z)
  have l4 := l2.tr l3 g2.some
  have hk7 : k.toNat ≤ 7 := by omega
  refine for_range (lo := 0) (n := k.toNat) (fun i σ' H' => ∃ B' acc ds, SD K B' σ' (((enG ["_law_generator_here", "_law_most", "_law_many", "_law_rooms", "_law_doors", "_law_turn", "_law_needs"] [.int (m : Int), .int (t : Int)]).set 3 (some (.int (r : Int)))).set 4 none) ∧ σ'[0]? = some (some (.ref g)) ∧ σ'[4]? = some (some (.ref D0)) ∧ LeG g B H B' H' ∧ B' D0 = none ∧ GenAt g (n + (7 - i) * 60) H' ∧ H' D0 = some (.lst acc) ∧ Das K B' acc ds ∧ ds.length ≤ i ∧ ∀ x ∈ ds, Dr r x)
    ⟨B3, [], [], sd1.up l3.ek, hs1, h41, l4, nD3, g3.less (by omega), e3, .nil, Nat.le_refl _, fun _ h => nomatch h⟩ ?_ ?_
  · rintro i σ' H' hi ⟨B', acc, ds, sd', h0, h4, l, nD, gi, eD, ha, hl, hJ⟩
    have ef : n + (7 - i) * 60 = ((n + (7 - (i + 1)) * 60) + 15) + 45 := by omega
    rw [ef] at gi
    have sd5 : SD K B' (σ'.set 5 (some (.int (0 + (i : Int))))) (((enG ["_law_generator_here", "_law_most", "_law_many", "_law_rooms", "_law_doors", "_law_turn", "_law_needs"] [.int (m : Int), .int (t : Int)]).set 3 (some (.int (r : Int)))).set 4 none) := sd'.drop 5 _
    have h05 : (σ'.set 5 (some (.int (0 + (i : Int)))))[0]? = some (some (.ref g)) := by
      rw [List.getElem?_set_ne (by decide)]
      exact h0
    have h45 : (σ'.set 5 (some (.int (0 + (i : Int)))))[4]? = some (some (.ref D0)) := by
      rw [List.getElem?_set_ne (by decide)]
      exact h4
    show tSeq _ _ _ (σ'.set 5 (some (.int (0 + (i : Int))))) H'
    generalize σ'.set 5 (some (.int (0 + (i : Int)))) = σ5 at *
    -- needs
    refine eg_call (K := K) (j := 0) (n := ((n + (7 - (i + 1)) * 60) + 15) + 45) (m := (n + (7 - (i + 1)) * 60) + 15) (c := 40) (Pre := preLights) (R := R_lights) (Ps := fun ds => ∃ z : Int, ds = [.int (r : Int), .int z] ∧ 1 ≤ z ∧ z ≤ 1000)
      (fun g σ B H s hg ga hs sd Q q => ega_cons (P := fun d => d = .int (r : Int)) (eg_of (n := ((n + (7 - (i + 1)) * 60) + 15) + 45) (ed_var rfl)) (ega_cons (P := fun d => ∃ z : Int, d = .int z ∧ 1 ≤ z ∧ z ≤ 1000) (eg_op (P1 := fun d => d = .list [.int 2, .int 3, .int 5]) (P2 := fun d => ∃ i : Int, d = .int i ∧ 0 ≤ i ∧ i < 3) (eg_of (ed_lst (ea_cons ed_int (ea_cons ed_int (ea_cons ed_int ea_nil))))) (eg_rnd (n := ((n + (7 - (i + 1)) * 60) + 15) + 40) ed_int ⟨by decide, by decide⟩) ?_) ega_nil) g σ B H s hg ga hs sd Q fun vs ds B' H' l g2 hd p => q vs ds B' H' l g2 hd ?_) ?_ g σ5 B' H' l.sub (l.g hg hgH) gi h05 sd5 _ fun v6 d6 B6 H6 l6 g6 hd6 p6 => ?_
    · rintro x y rfl ⟨i, rfl, h0, h1⟩
      have c : i = 0 ∨ i = 1 ∨ i = 2 := by omega
      rcases c with rfl | rfl | rfl
      · exact ⟨.int 2, r_ixL (i := 0) rfl, 2, rfl, by decide, by decide⟩
      · exact ⟨.int 3, r_ixL (i := 1) rfl, 3, rfl, by decide, by decide⟩
      · exact ⟨.int 5, r_ixL (i := 2) rfl, 5, rfl, by decide, by decide⟩
    · obtain ⟨d, rr, rfl, rfl, d2, rr2, rfl, ⟨z, rfl, hz⟩, rfl⟩ := p
      exact ⟨z, rfl, hz⟩
    · rintro ds ⟨z, rfl, hz⟩
      exact ⟨r, z, rfl, by omega, hz.1, hz.2⟩
    obtain ⟨ds0, ⟨z0, rfl, _⟩, r', m', ns, en, rfl, hf6, hn6⟩ := p6
    injection en with en _
    injection en with en
    have er : r' = r := by omega
    subst er
    have sd6 : SD K B6 (σ5.set 6 (some v6)) ((((enG ["_law_generator_here", "_law_most", "_law_many", "_law_rooms", "_law_doors", "_law_turn", "_law_needs"] [.int (m : Int), .int (t : Int)]).set 3 (some (.int (r' : Int)))).set 4 none).set 6 (some (.list (intsD ns)))) := (sd5.up l6.ek).put 6 hd6
    have h06 : (σ5.set 6 (some v6))[0]? = some (some (.ref g)) := by
      rw [List.getElem?_set_ne (by decide)]
      exact h05
    have h46 : (σ5.set 6 (some v6))[4]? = some (some (.ref D0)) := by
      rw [List.getElem?_set_ne (by decide)]
      exact h45
    have eD6 := l6.ex D0 _ hD0g eD
    have nD6 : B6 D0 = none := l6.old D0 nD (fun z => by rw [eD] at z; cases z)
    have ll6 := l.tr l6 gi.some
    dsimp only [gName]
    generalize σ5.set 6 (some v6) = σ6 at *
    -- doors.append
    refine ⟨.ref D0, h46, .inl ⟨rfl, _, SqL.of eD6⟩, ?_⟩
    refine ega_cons (K := K) (j := 0) (P := fun d => Dr r' d) (eg_to (eg_tup (n := (n + (7 - (i + 1)) * 60) + 15) (m := n + (7 - (i + 1)) * 60) (ega_cons (P := fun d => d = .list (intsD ns)) (eg_of (ed_var rfl)) (ega_cons (eg_rnd (n := (n + (7 - (i + 1)) * 60) + 10) (ed_var rfl) ⟨by omega, by omega⟩) (ega_cons (P := fun d => ∃ k : Int, d = .int k ∧ -1 ≤ k ∧ k ≤ 1) (eg_less (eg_op (P1 := fun d => ∃ i : Int, d = .int i ∧ 0 ≤ i ∧ i < 3) (P2 := fun d => d = .int 1) (eg_rnd (n := (n + (7 - (i + 1)) * 60) + 5) ed_int ⟨by decide, by decide⟩) (eg_of ed_int) ?_) (by omega)) ega_nil))) ?_) ?_) ega_nil g σ6 B6 H6 ll6.sub (ll6.g hg hgH) g6 h06 sd6 _ fun vs ds7 B7 H7 l7 g7 hd7 p7 => ?_
    · rintro x y ⟨i, rfl, h0, h1⟩ rfl
      exact ⟨_, r_Ii, i - 1, rfl, by omega, by omega⟩
    · rintro ds ⟨d, rr, rfl, _, d2, rr2, rfl, _, d3, rr3, rfl, _, rfl⟩
      exact Nat.le_of_ble_eq_true rfl
    · rintro d ⟨ds, rfl, d1, rr, rfl, rfl, d2, rr2, rfl, ⟨i2, rfl, hi0, hi1⟩, d3, rr3, rfl, ⟨k3, rfl, hk0, hk1⟩, rfl⟩
      refine ⟨ns, i2, k3, rfl, ?_, by omega⟩
      show (fitsLights r' _ && ((decide (0 ≤ i2) && decide (i2 < r')) && (decide (-1 ≤ k3) && decide (k3 ≤ 1)))) = true
      rw [hf6, decide_eq_true hi0, decide_eq_true hi1, decide_eq_true hk0, decide_eq_true hk1]
      rfl
    obtain ⟨d7, rr7, rfl, hdr, rfl⟩ := p7
    obtain ⟨v7, r7, rfl, dv7, dr7⟩ := hd7.inv1
    cases dr7
    have eD7 := l7.ex D0 _ hD0g eD6
    have nD7 : B7 D0 = none := l7.old D0 nD6 (fun z => by rw [eD6] at z; cases z)
    have ll7 := ll6.tr l7 g6.some
    refine ⟨D0, acc, v7, rfl, rfl, eD7, Evl.sz_lt (by rw [ha.len]; omega), ?_⟩
    refine ⟨B7, acc ++ [v7], ds ++ [d7], ?_, h06, h46, leG_mut ll7 hD0H nD7, nD7, g7.upd hD0g, upd_same, (ha.ex (l6.ek.trans l7.ek)).app (.cons dv7 .nil), ?_, ?_⟩
    · refine (sd6.up l7.ek).less rfl fun j d hj => ?_
      by_cases w : j = 6
      · subst w
        exact nomatch (show (some none : Option (Option PyData)) = some (some d) from hj)
      · rw [List.getElem?_set_ne (Ne.symm w)]
        exact hj
    · rw [List.length_append, List.length_singleton]
      omega
    · intro x hx
      rcases List.mem_append.mp hx with z | z
      · exact hJ x z
      · rw [List.mem_singleton.mp z]
        exact hdr
  · rintro σ' H' ⟨B', acc, ds, sd', h0, h4, l, nD, gi, eD, ha, hl, hJ⟩
    have lo := leG_own l hD0H nD eD
    have k : Ex B' (upd B' D0 (.lst acc)) := fun a o z => by
      rw [upd_ne (ne_of_none z nD)]
      exact z
    obtain ⟨v3, h3, dv3⟩ := sd'.2 3 (.int (r : Int)) rfl
    cases dv3
    refine ⟨.int (r : Int), h3, .ref D0, h4, by show 2 ≤ sizeLine; decide, fun p hp => ?_⟩
    have ln : Le (upd B' D0 (.lst acc)) H' (upd (upd B' D0 (.lst acc)) p (.tup [.int (r : Int), .ref D0])) (upd H' p (.tup [.int (r : Int), .ref D0])) := Le.new lo.sub hp
    refine q (.ref p) (.tuple [.int (r : Int), .list ds]) _ _ (lo.tr (LeG.of ln) gi.some) ((gi.less (by omega)).ex ln.ex) (.tup upd_same (.cons (.int _) (.cons (.lst (ln.ek _ _ upd_same) ((ha.ex k).ex ln.ek)) .nil))) ⟨m, t, r, ds, rfl, rfl, hr1, hrm, by omega, hJ⟩
end
end TD

set_option maxHeartbeats 4000000
namespace TD
open PySem PySem.Spec PyProof.Rows L2
open Evl (Ex)
open PySem.W (AllAlike Sortable dataLe)
/-! # the values that the law looks at -/
section
variable {P : Program} {w : World} {K : Fg} {mg : Str → Option Value} {base : Heap}
theorem ed_dnew {ρ : En} : ED K tDNewK ρ (.dict []) := fun σ B H s _ Q q => fun p hp => q _ _ _ (Le.new s hp) (.dic (kvs := []) upd_same .nil)
theorem rg_asgK {j i : Nat} {te : TE} {t : TS} {ρ : En} {n o : Nat} {P : PyData → Prop} {d : PyData} (h : ED K te ρ d) (k : RG K j t (ρ.set i (some d)) n P o) (hij : i ≠ j := by decide) : RG K j (tSeq (tAsg te (gName i)) t) ρ n P o := rg_asg hij (eg_of h) fun x e => e ▸ k
def oddV0 (r : Int) : List PyData := [.none, .bool true, .int (-1), .int r, .str "0", .tuple [], .list [], .dict [], .list [.none], .list [.bool true], .list [.int (-1)], .list [.int r], .list [.int 0, .int 0], .list [.str "0"], .list [.list [.int 0], .list [.int 0, .int 0]], .list [.list [.int r]], .list [.list [.none]], .list [.tuple []], .int (10 ^ (29 : Int).toNat)]
def oddV1 (r : Int) : List PyData := [.tuple [.list [.int 0], .int 1], .list [.tuple [.list [.int 0], .int (-1)]], .list [.tuple [.list [.int 0], .bool true]], .list [.tuple [.list [.int 0], .none]], .list [.list [.list [.int 0], .int 1]], .list [.tuple [.list [.int 0], .int 1, .int 1]], .list [.tuple [.tuple [.int 0], .int 1]], .list [.tuple [.list [.int r], .int 1]], .tuple [.list [.list [.int 0]]], .list [.list [.list [.int 0]], .list [.list [.int 0]]]]
def oddV2 (r : Int) : List PyData := [.tuple [.list [.list [.int 0]], .list [.list [.int r]]], .tuple [.list [.list [.int 0]], .none], .tuple [.none, .list [.list [.int 0]]], .tuple [.list [.list [.int 0]], .list [.list [.int 0]], .list []], .tuple [.list [.int 0], .int 0, .int 2], .tuple [.list [.int 0], .int 0, .int (-2)], .tuple [.list [.int 0], .int r, .int 0], .tuple [.list [.int 0], .int (-1), .int 0], .tuple [.list [.int 0], .bool true, .int 0]]
def oddV3 (r : Int) : List PyData := [.list [.list [.bool true]], .list [.list [.bool false]], .list [.list [.int (-1)]], .list [.list [.str "0"]], .list [.list [.int 1, .int 0]], .list [.list [.int 0, .none]], .list [.list [.int 0, .str "1"]], .list [.list [.int 0, .list [.int 1]]], .tuple [.list [.bool true], .int 0, .int 0], .tuple [.list [.int (-1)], .int 0, .int 0], .tuple [.list [.int 0, .none], .int 0, .int 0]]
def oddV4 (r : Int) : List PyData := [.list [.tuple [.list [.bool false], .int 1]], .list [.tuple [.list [.int 0, .none], .int 1]], .tuple [.list [.list [.bool true]], .list [.list [.int 0]]], .list [.list [.int 0], .none], .list [.list [.int 0], .list [.none]], .list [.tuple [.list [.int 0], .int (-1)], .tuple [.list [.int 0], .int 1]], .list [.none, .tuple [.list [.int 0], .int 1]], .list [.list [.int r], .list [.int 0]], .list [.none, .list [.int 0]]]
def oddV5 (r : Int) : List PyData := [.tuple [.list [.list [.int r], .list [.int 0]], .list [.list [.int 0]]], .tuple [.list [.list [.int 0]], .list [.none, .list [.int 0]]], .tuple [.list [.none, .list [.int 0]], .list [.list [.int 0]]]]
def oddV6 (r : Int) : List PyData := [.tuple [.list [.int 0], .int 0, .bool false], .tuple [.list [.int 0], .int 0], .list [.list [.int 0], .int 0, .int 0], .tuple [.tuple [.int 0], .int 0, .int 0], .tuple [.list [.int 0, .int 0], .int 0, .int 1], .tuple [.list [.int r], .int 0, .int 1], .tuple [.list [.int 0], .none, .int 1], .tuple [.list [.int 0], .int 0, .none], .tuple [.list [.int 0], .int 0, .int 1, .int 1], .str "door"]
def oddV (r : Int) : List PyData := ((((((oddV0 r ++ oddV1 r) ++ oddV2 r) ++ oddV3 r) ++ oddV4 r) ++ oddV5 r) ++ oddV6 r)
theorem odd_gd (r : Nat) (h : 1 ≤ r ∧ r ≤ 4) : ∀ x ∈ oddV (r : Int), Gd 6 250000 x := by
  have c : r = 1 ∨ r = 2 ∨ r = 3 ∨ r = 4 := by omega
  have k : ∀ r : Int, (oddV r).all (gdB 6 250000) = true → ∀ x ∈ oddV r, Gd 6 250000 x := fun r h x hx => gd_of (List.all_eq_true.mp h x hx)
  rcases c with rfl | rfl | rfl | rfl
  · exact k 1 (by decide +kernel)
  · exact k 2 (by decide +kernel)
  · exact k 3 (by decide +kernel)
  · exact k 4 (by decide +kernel)
structure B9 (mg : Str → Option Value) : Prop where
  sorted : mg "sorted" = none
abbrev s__law_values : Stmt := topS 46
def preValues : List PyData → Prop := fun ds => ∃ r : Nat, ds = [.int (r : Int)] ∧ 1 ≤ r ∧ r ≤ 4
def R_values : List PyData → PyData → Prop := fun _ d => ∃ out, d = .list out ∧ out.length ≤ 100 ∧ ∀ x ∈ out, Gd 6 250000 x
theorem f__law_values (T : B9 mg) (sm : ∃ mm, base.Ns sysModules mm) (a : At K mg "_law_values" s__law_values) (c__law_random : Fc P w K mg base "_law_random" ["_law_generator_here", "_law_bound"] 2 (SpG K 5 preRnd R_rnd)) (c__law_lights : Fc P w K mg base "_law_lights" ["_law_generator_here", "_law_rooms", "_law_many"] 3 (SpG K 40 preLights R_lights)) (c__law_presses : Fc P w K mg base "_law_presses" ["_law_generator_here", "_law_rooms", "_law_ticks"] 4 (SpG K 400 prePresses R_presses)) :
    Fc P w K mg base "_law_values" ["_law_generator_here", "_law_rooms"] 5 (SpG K 600 preValues R_values) := by
  have S : FnScope ["_law_generator_here", "_law_rooms", "_law_rows", "_law_lights_there", "_law_row", "_law_good", "_law_odd"] ["_law_generator_here", "_law_rooms"] (defScope s__law_values) := ⟨rfl, rfl, rfl, by decide +kernel, rfl, by decide +kernel, by decide +kernel⟩
  refine fg_mk a S (fun _ _ _ _ _ _ us hl => match us, hl with | [_, _], _ => rfl) (by rintro _ ⟨r, rfl, _⟩; rfl) fun f cdv A outer s H E gu hr => ?_
  have hc : (cxOf CX0 P w K mg base ["_law_generator_here", "_law_rooms", "_law_rows", "_law_lights_there", "_law_row", "_law_good", "_law_odd"] "_law_values" (defScope s__law_values) f cdv A outer s H E).nox.calm = true := rfl
  have hu : (cxOf CX0 P w K mg base ["_law_generator_here", "_law_rooms", "_law_rows", "_law_lights_there", "_law_row", "_law_good", "_law_odd"] "_law_values" (defScope s__law_values) f cdv A outer s H E).nox.A.units + 200 < cLine := Nat.lt_of_le_of_lt (Nat.add_le_add_right (Nat.le_add_right _ _) _) hr.un
  refine ⟨_, (pss_cons (ps_par (i := 2) (j := 3) hc S.nd rfl rfl (by decide) rfl rfl (pa_cons (pe_f c__law_presses gu (hr.mono (by decide)) (by rfl) (pa_cons (pv 0) (pa_cons (pv 1) (pa_cons pe_int pa_nil)))) (pa_cons (pe_f c__law_lights gu (hr.mono (by decide)) (by rfl) (pa_cons (pv 0) (pa_cons (pv 1) (pa_cons pe_int pa_nil)))) pa_nil)) (by rfl))
  (pss_cons (ps_set (i := 5) S.nd rfl (by first | exact Or.inl rfl | exact Or.inr rfl) (pe_lst (pa_cons (pv 3) (pa_cons (pv 2) (pa_cons (pe_lc (own := [("_law_row", 4)]) hc S.nd (pi_list (pv 2)) (blkOk_by (N := ["_law_generator_here", "_law_rooms", "_law_rows", "_law_lights_there", "_law_row", "_law_good", "_law_odd"]) (sc := defScope s__law_values) (by decide +kernel)) (fun _ _ _ _ _ => (pg_name (i := 4) S.nd rfl (by first | exact Or.inl rfl | exact Or.inr rfl))) (fun _ _ _ _ _ => pts_nil) (fun _ _ _ _ _ => (pe_tup (pa_cons (pv 4) (pa_cons (pe_f c__law_random gu (hr.mono (by decide)) (by rfl) (pa_cons (pv 0) (pa_cons pe_int pa_nil))) pa_nil))))) (pa_cons (pe_tup (pa_cons (pv 2) (pa_cons (pe_op op_cat (pv 2) (pe_lst (pa_cons (pv 3) pa_nil))) pa_nil))) (pa_cons (pe_callB (call_sortD sm hu) (by rfl) T.sorted (by decide +kernel) (pa_cons (pe_op op_cat (pv 2) (pe_lst (pa_cons (pe_lst pa_nil) pa_nil))) pa_nil)) pa_nil)))))))
  (pss_cons (ps_set (i := 5) S.nd rfl (by first | exact Or.inl rfl | exact Or.inr rfl) (pe_op op_cat (pv 5) (pe_lst (pa_cons (pe_tup (pa_cons (pv 3) (pa_cons (pe_f c__law_random gu (hr.mono (by decide)) (by rfl) (pa_cons (pv 0) (pa_cons (pv 1) pa_nil))) (pa_cons (pe_op op_sub (pe_f c__law_random gu (hr.mono (by decide)) (by rfl) (pa_cons (pv 0) (pa_cons pe_int pa_nil))) pe_int) pa_nil)))) (pa_cons (pe_lst (pa_cons (pe_lst pa_nil) (pa_cons (pe_lst (pa_cons pe_int pa_nil)) pa_nil))) (pa_cons (pe_tup (pa_cons (pe_lst pa_nil) (pa_cons (pe_lst (pa_cons (pe_lst pa_nil) pa_nil)) pa_nil))) (pa_cons (pe_tup (pa_cons (pv 2) (pa_cons (pe_lst pa_nil) pa_nil))) pa_nil)))))))
  (pss_cons (ps_set (i := 6) S.nd rfl (by first | exact Or.inl rfl | exact Or.inr rfl) (pe_lst (pa_cons pe_non (pa_cons pe_bl (pa_cons (pe_un un_neg pe_int) (pa_cons (pv 1) (pa_cons pe_str (pa_cons (pe_tup pa_nil) (pa_cons (pe_lst pa_nil) (pa_cons pe_dnewK (pa_cons (pe_lst (pa_cons pe_non pa_nil)) (pa_cons (pe_lst (pa_cons pe_bl pa_nil)) (pa_cons (pe_lst (pa_cons (pe_un un_neg pe_int) pa_nil)) (pa_cons (pe_lst (pa_cons (pv 1) pa_nil)) (pa_cons (pe_lst (pa_cons pe_int (pa_cons pe_int pa_nil))) (pa_cons (pe_lst (pa_cons pe_str pa_nil)) (pa_cons (pe_lst (pa_cons (pe_lst (pa_cons pe_int pa_nil)) (pa_cons (pe_lst (pa_cons pe_int (pa_cons pe_int pa_nil))) pa_nil))) (pa_cons (pe_lst (pa_cons (pe_lst (pa_cons (pv 1) pa_nil)) pa_nil)) (pa_cons (pe_lst (pa_cons (pe_lst (pa_cons pe_non pa_nil)) pa_nil)) (pa_cons (pe_lst (pa_cons (pe_tup pa_nil) pa_nil)) (pa_cons (pe_op op_pow pe_int pe_int) pa_nil)))))))))))))))))))))
  (pss_cons (ps_set (i := 6) S.nd rfl (by first | exact Or.inl rfl | exact Or.inr rfl) (pe_op op_cat (pv 6) (pe_lst (pa_cons (pe_tup (pa_cons (pe_lst (pa_cons pe_int pa_nil)) (pa_cons pe_int pa_nil))) (pa_cons (pe_lst (pa_cons (pe_tup (pa_cons (pe_lst (pa_cons pe_int pa_nil)) (pa_cons (pe_un un_neg pe_int) pa_nil))) pa_nil)) (pa_cons (pe_lst (pa_cons (pe_tup (pa_cons (pe_lst (pa_cons pe_int pa_nil)) (pa_cons pe_bl pa_nil))) pa_nil)) (pa_cons (pe_lst (pa_cons (pe_tup (pa_cons (pe_lst (pa_cons pe_int pa_nil)) (pa_cons pe_non pa_nil))) pa_nil)) (pa_cons (pe_lst (pa_cons (pe_lst (pa_cons (pe_lst (pa_cons pe_int pa_nil)) (pa_cons pe_int pa_nil))) pa_nil)) (pa_cons (pe_lst (pa_cons (pe_tup (pa_cons (pe_lst (pa_cons pe_int pa_nil)) (pa_cons pe_int (pa_cons pe_int pa_nil)))) pa_nil)) (pa_cons (pe_lst (pa_cons (pe_tup (pa_cons (pe_tup (pa_cons pe_int pa_nil)) (pa_cons pe_int pa_nil))) pa_nil)) (pa_cons (pe_lst (pa_cons (pe_tup (pa_cons (pe_lst (pa_cons (pv 1) pa_nil)) (pa_cons pe_int pa_nil))) pa_nil)) (pa_cons (pe_tup (pa_cons (pe_lst (pa_cons (pe_lst (pa_cons pe_int pa_nil)) pa_nil)) pa_nil)) (pa_cons (pe_lst (pa_cons (pe_lst (pa_cons (pe_lst (pa_cons pe_int pa_nil)) pa_nil)) (pa_cons (pe_lst (pa_cons (pe_lst (pa_cons pe_int pa_nil)) pa_nil)) pa_nil))) pa_nil)))))))))))))
  (pss_cons (ps_set (i := 6) S.nd rfl (by first | exact Or.inl rfl | exact Or.inr rfl) (pe_op op_cat (pv 6) (pe_lst (pa_cons (pe_tup (pa_cons (pe_lst (pa_cons (pe_lst (pa_cons pe_int pa_nil)) pa_nil)) (pa_cons (pe_lst (pa_cons (pe_lst (pa_cons (pv 1) pa_nil)) pa_nil)) pa_nil))) (pa_cons (pe_tup (pa_cons (pe_lst (pa_cons (pe_lst (pa_cons pe_int pa_nil)) pa_nil)) (pa_cons pe_non pa_nil))) (pa_cons (pe_tup (pa_cons pe_non (pa_cons (pe_lst (pa_cons (pe_lst (pa_cons pe_int pa_nil)) pa_nil)) pa_nil))) (pa_cons (pe_tup (pa_cons (pe_lst (pa_cons (pe_lst (pa_cons pe_int pa_nil)) pa_nil)) (pa_cons (pe_lst (pa_cons (pe_lst (pa_cons pe_int pa_nil)) pa_nil)) (pa_cons (pe_lst pa_nil) pa_nil)))) (pa_cons (pe_tup (pa_cons (pe_lst (pa_cons pe_int pa_nil)) (pa_cons pe_int (pa_cons pe_int pa_nil)))) (pa_cons (pe_tup (pa_cons (pe_lst (pa_cons pe_int pa_nil)) (pa_cons pe_int (pa_cons (pe_un un_neg pe_int) pa_nil)))) (pa_cons (pe_tup (pa_cons (pe_lst (pa_cons pe_int pa_nil)) (pa_cons (pv 1) (pa_cons pe_int pa_nil)))) (pa_cons (pe_tup (pa_cons (pe_lst (pa_cons pe_int pa_nil)) (pa_cons (pe_un un_neg pe_int) (pa_cons pe_int pa_nil)))) (pa_cons (pe_tup (pa_cons (pe_lst (pa_cons pe_int pa_nil)) (pa_cons pe_bl (pa_cons pe_int pa_nil)))) pa_nil))))))))))))
  (pss_cons (ps_set (i := 6) S.nd rfl (by first | exact Or.inl rfl | exact Or.inr rfl) (pe_op op_cat (pv 6) (pe_lst (pa_cons (pe_lst (pa_cons (pe_lst (pa_cons pe_bl pa_nil)) pa_nil)) (pa_cons (pe_lst (pa_cons (pe_lst (pa_cons pe_bl pa_nil)) pa_nil)) (pa_cons (pe_lst (pa_cons (pe_lst (pa_cons (pe_un un_neg pe_int) pa_nil)) pa_nil)) (pa_cons (pe_lst (pa_cons (pe_lst (pa_cons pe_str pa_nil)) pa_nil)) (pa_cons (pe_lst (pa_cons (pe_lst (pa_cons pe_int (pa_cons pe_int pa_nil))) pa_nil)) (pa_cons (pe_lst (pa_cons (pe_lst (pa_cons pe_int (pa_cons pe_non pa_nil))) pa_nil)) (pa_cons (pe_lst (pa_cons (pe_lst (pa_cons pe_int (pa_cons pe_str pa_nil))) pa_nil)) (pa_cons (pe_lst (pa_cons (pe_lst (pa_cons pe_int (pa_cons (pe_lst (pa_cons pe_int pa_nil)) pa_nil))) pa_nil)) (pa_cons (pe_tup (pa_cons (pe_lst (pa_cons pe_bl pa_nil)) (pa_cons pe_int (pa_cons pe_int pa_nil)))) (pa_cons (pe_tup (pa_cons (pe_lst (pa_cons (pe_un un_neg pe_int) pa_nil)) (pa_cons pe_int (pa_cons pe_int pa_nil)))) (pa_cons (pe_tup (pa_cons (pe_lst (pa_cons pe_int (pa_cons pe_non pa_nil))) (pa_cons pe_int (pa_cons pe_int pa_nil)))) pa_nil))))))))))))))
  (pss_cons (ps_set (i := 6) S.nd rfl (by first | exact Or.inl rfl | exact Or.inr rfl) (pe_op op_cat (pv 6) (pe_lst (pa_cons (pe_lst (pa_cons (pe_tup (pa_cons (pe_lst (pa_cons pe_bl pa_nil)) (pa_cons pe_int pa_nil))) pa_nil)) (pa_cons (pe_lst (pa_cons (pe_tup (pa_cons (pe_lst (pa_cons pe_int (pa_cons pe_non pa_nil))) (pa_cons pe_int pa_nil))) pa_nil)) (pa_cons (pe_tup (pa_cons (pe_lst (pa_cons (pe_lst (pa_cons pe_bl pa_nil)) pa_nil)) (pa_cons (pe_lst (pa_cons (pe_lst (pa_cons pe_int pa_nil)) pa_nil)) pa_nil))) (pa_cons (pe_lst (pa_cons (pe_lst (pa_cons pe_int pa_nil)) (pa_cons pe_non pa_nil))) (pa_cons (pe_lst (pa_cons (pe_lst (pa_cons pe_int pa_nil)) (pa_cons (pe_lst (pa_cons pe_non pa_nil)) pa_nil))) (pa_cons (pe_lst (pa_cons (pe_tup (pa_cons (pe_lst (pa_cons pe_int pa_nil)) (pa_cons (pe_un un_neg pe_int) pa_nil))) (pa_cons (pe_tup (pa_cons (pe_lst (pa_cons pe_int pa_nil)) (pa_cons pe_int pa_nil))) pa_nil))) (pa_cons (pe_lst (pa_cons pe_non (pa_cons (pe_tup (pa_cons (pe_lst (pa_cons pe_int pa_nil)) (pa_cons pe_int pa_nil))) pa_nil))) (pa_cons (pe_lst (pa_cons (pe_lst (pa_cons (pv 1) pa_nil)) (pa_cons (pe_lst (pa_cons pe_int pa_nil)) pa_nil))) (pa_cons (pe_lst (pa_cons pe_non (pa_cons (pe_lst (pa_cons pe_int pa_nil)) pa_nil))) pa_nil))))))))))))
  (pss_cons (ps_set (i := 6) S.nd rfl (by first | exact Or.inl rfl | exact Or.inr rfl) (pe_op op_cat (pv 6) (pe_lst (pa_cons (pe_tup (pa_cons (pe_lst (pa_cons (pe_lst (pa_cons (pv 1) pa_nil)) (pa_cons (pe_lst (pa_cons pe_int pa_nil)) pa_nil))) (pa_cons (pe_lst (pa_cons (pe_lst (pa_cons pe_int pa_nil)) pa_nil)) pa_nil))) (pa_cons (pe_tup (pa_cons (pe_lst (pa_cons (pe_lst (pa_cons pe_int pa_nil)) pa_nil)) (pa_cons (pe_lst (pa_cons pe_non (pa_cons (pe_lst (pa_cons pe_int pa_nil)) pa_nil))) pa_nil))) (pa_cons (pe_tup (pa_cons (pe_lst (pa_cons pe_non (pa_cons (pe_lst (pa_cons pe_int pa_nil)) pa_nil))) (pa_cons (pe_lst (pa_cons (pe_lst (pa_cons pe_int pa_nil)) pa_nil)) pa_nil))) pa_nil))))))
  (pss_cons (ps_set (i := 6) S.nd rfl (by first | exact Or.inl rfl | exact Or.inr rfl) (pe_op op_cat (pv 6) (pe_lst (pa_cons (pe_tup (pa_cons (pe_lst (pa_cons pe_int pa_nil)) (pa_cons pe_int (pa_cons pe_bl pa_nil)))) (pa_cons (pe_tup (pa_cons (pe_lst (pa_cons pe_int pa_nil)) (pa_cons pe_int pa_nil))) (pa_cons (pe_lst (pa_cons (pe_lst (pa_cons pe_int pa_nil)) (pa_cons pe_int (pa_cons pe_int pa_nil)))) (pa_cons (pe_tup (pa_cons (pe_tup (pa_cons pe_int pa_nil)) (pa_cons pe_int (pa_cons pe_int pa_nil)))) (pa_cons (pe_tup (pa_cons (pe_lst (pa_cons pe_int (pa_cons pe_int pa_nil))) (pa_cons pe_int (pa_cons pe_int pa_nil)))) (pa_cons (pe_tup (pa_cons (pe_lst (pa_cons (pv 1) pa_nil)) (pa_cons pe_int (pa_cons pe_int pa_nil)))) (pa_cons (pe_tup (pa_cons (pe_lst (pa_cons pe_int pa_nil)) (pa_cons pe_non (pa_cons pe_int pa_nil)))) (pa_cons (pe_tup (pa_cons (pe_lst (pa_cons pe_int pa_nil)) (pa_cons pe_int (pa_cons pe_non pa_nil)))) (pa_cons (pe_tup (pa_cons (pe_lst (pa_cons pe_int pa_nil)) (pa_cons pe_int (pa_cons pe_int (pa_cons pe_int pa_nil))))) (pa_cons pe_str pa_nil)))))))))))))
  (pss_one (ps_ret (pe_op op_cat (pv 5) (pv 6)))))))))))))), ?_⟩
  rintro _ n ⟨r, rfl, hr1, hr4⟩
  refine rg_par (Ps := fun x y => (∃ rs : List PyData, x = .list rs ∧ rs.length ≤ 4 ∧ ∀ z ∈ rs, fitsLights r z = true ∧ Gd 1 16100 z) ∧ fitsLights r y = true ∧ Gd 1 16100 y) (m := n + 160) (by decide) (by decide) ?_ ?_
  · refine fun g σ B H s hg ga hs sd Q q => ega_cons (P := fun x => ∃ rs : List PyData, x = .list rs ∧ rs.length ≤ 4 ∧ ∀ z ∈ rs, fitsLights r z = true ∧ Gd 1 16100 z) (Ps := fun ds => ∃ y, ds = [y] ∧ fitsLights r y = true ∧ Gd 1 16100 y)
      (eg_to (eg_call (c := 400) (Pre := prePresses) (R := R_presses) (Ps := fun ds => ds = [.int (r : Int), .int ((4 : Nat) : Int)]) (m := n + 200) (ega_of (n := n + 200 + 400) (ea_cons (ed_var rfl) (ea_cons ed_int ea_nil))) ?_) ?_)
      (fun g σ B H s hg ga hs sd Q q => ega_cons (P := fun y => fitsLights r y = true ∧ Gd 1 16100 y) (eg_to (eg_call (c := 40) (Pre := preLights) (R := R_lights) (Ps := fun ds => ds = [.int (r : Int), .int 2]) (m := n + 160) (ega_of (n := n + 160 + 40) (ea_cons (ed_var rfl) (ea_cons ed_int ea_nil)))
        (by rintro ds rfl; exact ⟨r, 2, rfl, by omega, by decide, by decide⟩)) (by
          rintro d ⟨ds, rfl, r', m', ns, e, rfl, h1, h2⟩
          injection e with e _
          injection e with e
          have er : r' = r := by omega
          subst er
          exact ⟨h1, gd_lights h1 (by omega) h2⟩)) ega_nil g σ B H s hg ga hs sd Q fun vs ds B' H' l g2 hd p => q vs ds B' H' l g2 hd (by
            obtain ⟨d, rr, rfl, h, rfl⟩ := p
            exact ⟨d, rfl, h⟩))
      g σ B H s hg ga hs sd Q fun vs ds B' H' l g2 hd p => q vs ds B' H' l g2 hd ?_
    · rintro ds rfl
      exact ⟨r, 4, rfl, by omega, by decide⟩
    · rintro d ⟨ds, rfl, r', t', out, e, rfl, hl, hx⟩
      injection e with e e2
      injection e with e
      injection e2 with e2 _
      injection e2 with e2
      have er : r' = r := by omega
      subst er
      refine ⟨out, rfl, by omega, fun z hz => ?_⟩
      obtain ⟨ns, rfl, h1, h2⟩ := hx z hz
      exact ⟨h1, gd_lights h1 (by omega) h2⟩
    · obtain ⟨x, rr, rfl, h1, y, rfl, h2⟩ := p
      exact ⟨x, y, rfl, h1, h2⟩
  rintro x y ⟨⟨rs, rfl, hrl, hrs⟩, hfy, hy⟩
  have hrows : Gd 2 70000 (.list rs) := (gd_list (fun z hz => (hrs z hz).2) hrl (by decide)).up' (Nat.le_refl _) (by decide)
  have hrows2 : Gd 2 90000 (.list (rs ++ [y])) := (gd_list (n := 5) (fun z hz => by
    rcases List.mem_append.mp hz with q | q
    · exact (hrs z q).2
    · rw [List.mem_singleton.mp q]
      exact hy) (by rw [List.length_append, List.length_singleton]; omega) (by decide)).up' (Nat.le_refl _) (by decide)
  have hfl : ∀ z ∈ rs ++ [PyData.list []], fitsLights r z = true ∧ Gd 1 16100 z := fun z hz => by
    rcases List.mem_append.mp hz with q | q
    · exact hrs z q
    · rw [List.mem_singleton.mp q]
      exact ⟨rfl, gd_of (by decide +kernel)⟩
  have hlen : (rs ++ [PyData.list []]).length ≤ 5 := by rw [List.length_append, List.length_singleton]; omega
  -- good
  refine rg_asg (m := n + 120) (P1 := fun d => ∃ out, d = .list out ∧ out.length = 5 ∧ ∀ x ∈ out, Gd 6 250000 x) (by decide) (eg_to (eg_lst (ega_all1 (G := Gd 6 250000) (eg_gd (ed_var (i := 3) rfl) (hy.up' (by decide) (by decide))) (ega_all1 (eg_gd (ed_var (i := 2) rfl) (hrows.up' (by decide) (by decide))) (ega_all1 (m := n + 120) (eg_to (eg_less (eg_lcL (N := 4) (c := 5) (m := n + 140) (n := n + 160) (Pl := fun ds => ds = rs) (Pe := fun x y => ∃ i : Int, y = .tuple [x, .int i] ∧ 0 ≤ i ∧ i < 4) (eg_to (eg_of (ed_var (i := 2) rfl)) ?h1) (by decide) (by decide) (by decide) ?h2) (by omega)) ?h3) (ega_all1 (eg_gd (d := .tuple [.list rs, .list (rs ++ [y])]) (ed_tup (ea_cons (ed_var (i := 2) rfl) (ea_cons (ed_op (ed_var (i := 2) rfl) (ed_lst (ea_cons (ed_var (i := 3) rfl) ea_nil) (Nat.le_of_ble_eq_true rfl)) (r_cat ?h4)) ea_nil)) (Nat.le_of_ble_eq_true rfl)) ?h5) (ega_all1 (eg_gd (d := PyData.list ((rs ++ [PyData.list []]).mergeSort (dataLe false (id : PyData → PyData)))) (ed_sortD (ed_op (ed_var (i := 2) rfl) (ed_lst (ea_cons (ed_lst ea_nil) ea_nil) (Nat.le_of_ble_eq_true rfl)) (r_cat ?h6)) ?h7 ?h8 ?h9 ?h10) ?h11) ega_all0))))) ?h12) ?h13) ?_
  case h1 => exact fun d e => ⟨rs, e, rfl, hrl⟩
  case h2 =>
    intro x k
    refine eg_to (eg_tup (ega_cons (P := fun d => d = x) (eg_of (ed_var rfl)) (ega_cons (eg_rnd (n := k) (m := 4) ed_int ⟨by decide, by decide⟩) ega_nil)) ?_) ?_
    · rintro ds ⟨d, rr, rfl, _, d2, rr2, rfl, _, rfl⟩
      exact Nat.le_of_ble_eq_true rfl
    · rintro d ⟨ds, rfl, d1, rr, rfl, rfl, d2, rr2, rfl, ⟨i, rfl, h0, h1⟩, rfl⟩
      exact ⟨i, rfl, h0, h1⟩
  case h3 =>
    rintro d ⟨ds, out, rfl, rfl, hl, hx⟩
    refine (gd_list (k := 2) (w := 40000) (n := 4) (fun z hz => ?_) (by omega) (by decide)).up' (by decide) (by decide)
    obtain ⟨x, hxm, i, rfl, h0, h1⟩ := hx z hz
    refine (gd_tup (k := 1) (w := 16100) (n := 2) (fun u hu => ?_) (Nat.le_refl _) (by decide)).up' (by decide) (by decide)
    rcases List.mem_cons.mp hu with q | q
    · exact q ▸ (hrs x hxm).2
    · rw [List.mem_singleton.mp q]
      exact (gd_int (by omega)).up' (by decide) (by decide)
  case h4 =>
    rw [List.length_singleton]
    omega
  case h5 =>
    refine (gd_tup (k := 2) (w := 90000) (n := 2) (fun u hu => ?_) (Nat.le_refl _) (by decide)).up' (by decide) (by decide)
    rcases List.mem_cons.mp hu with q | q
    · exact q ▸ hrows.up' (by decide) (by decide)
    · rw [List.mem_singleton.mp q]
      exact hrows2
  case h6 =>
    rw [List.length_singleton]
    omega
  case h7 => exact fun d hd e he => (lights_alike (hfl d hd).1 (hfl e he).1).1
  case h8 =>
    refine .inr fun d hd => ?_
    obtain ⟨ns, rfl, _⟩ := lights_ints (hfl d hd).1
    exact ⟨(fun z => nomatch z), fun xs z => nomatch z⟩
  case h9 => omega
  case h10 => exact fun d hd => Nat.le_trans (hfl d hd).2.dp (by decide)
  case h11 =>
    refine (gd_list (k := 1) (w := 16100) (n := 5) (fun z hz => (hfl z (List.mem_mergeSort.mp hz)).2) ?_ (by decide)).up' (by decide) (by decide)
    rw [List.length_mergeSort]
    exact hlen
  case h12 =>
    rintro ds ⟨h, _⟩
    omega
  case h13 =>
    rintro d ⟨ds, rfl, hl, hx⟩
    exact ⟨ds, rfl, hl, hx⟩
  rintro _ ⟨gs, rfl, hgl, hgs⟩
  -- more of them
  refine rg_asg (m := n + 50) (P1 := fun d => ∃ out, d = .list out ∧ out.length = 9 ∧ ∀ x ∈ out, Gd 6 250000 x) (by decide) (eg_op (n := n + 120) (m := n + 120) (P1 := fun d => d = .list gs) (P2 := fun d => ∃ out, d = .list out ∧ out.length = 4 ∧ ∀ x ∈ out, Gd 6 250000 x) (eg_of (ed_var (i := 5) rfl)) (eg_to (eg_lst (ega_all1 (G := Gd 6 250000) (m := n + 50) (eg_to (eg_less (eg_tup (n := n + 120) (m := n + 110) (ega_cons (P := fun d => d = y) (eg_of (ed_var (i := 3) rfl)) (ega_cons (eg_rnd (n := n + 115) (ed_var (i := 1) rfl) ⟨by omega, by omega⟩) (ega_cons (P := fun d => ∃ k : Int, d = .int k ∧ -1 ≤ k ∧ k ≤ 1) (eg_op (P1 := fun d => ∃ i : Int, d = .int i ∧ 0 ≤ i ∧ i < 3) (P2 := fun d => d = .int 1) (eg_rnd (n := n + 110) ed_int ⟨by decide, by decide⟩) (eg_of ed_int) ?k1) ega_nil))) ?k2) (by omega)) ?k3) (ega_all1 (eg_gd (ed_lst (ea_cons (ed_lst ea_nil) (ea_cons (ed_lst (ea_cons ed_int ea_nil)) ea_nil)) (Nat.le_of_ble_eq_true rfl)) (gd_of (by decide +kernel))) (ega_all1 (eg_gd (ed_tup (ea_cons (ed_lst ea_nil) (ea_cons (ed_lst (ea_cons (ed_lst ea_nil) ea_nil)) ea_nil)) (Nat.le_of_ble_eq_true rfl)) (gd_of (by decide +kernel))) (ega_all1 (eg_gd (d := .tuple [.list rs, .list []]) (ed_tup (ea_cons (ed_var (i := 2) rfl) (ea_cons (ed_lst ea_nil) ea_nil)) (Nat.le_of_ble_eq_true rfl)) ?k4) ega_all0)))) ?k5) ?k6) ?k7) ?_
  case k1 =>
    rintro x y ⟨i, rfl, h0, h1⟩ rfl
    exact ⟨_, r_Ii, i - 1, rfl, by omega, by omega⟩
  case k2 =>
    rintro ds ⟨d, rr, rfl, _, d2, rr2, rfl, _, d3, rr3, rfl, _, rfl⟩
    exact Nat.le_of_ble_eq_true rfl
  case k3 =>
    rintro d ⟨ds, rfl, d1, rr, rfl, rfl, d2, rr2, rfl, ⟨i2, rfl, hi0, hi1⟩, d3, rr3, rfl, ⟨k3, rfl, hk0, hk1⟩, rfl⟩
    refine (gd_tup (k := 1) (w := 16100) (n := 3) (fun u hu => ?_) (Nat.le_refl _) (by decide)).up' (by decide) (by decide)
    rcases List.mem_cons.mp hu with q | hu
    · exact q ▸ hy
    · rcases List.mem_cons.mp hu with q | q
      · exact q ▸ (gd_int (by omega)).up' (by decide) (by decide)
      · rw [List.mem_singleton.mp q]
        exact (gd_int (by omega)).up' (by decide) (by decide)
  case k4 =>
    refine (gd_tup (k := 2) (w := 90000) (n := 2) (fun u hu => ?_) (Nat.le_refl _) (by decide)).up' (by decide) (by decide)
    rcases List.mem_cons.mp hu with q | q
    · exact q ▸ hrows.up' (by decide) (by decide)
    · rw [List.mem_singleton.mp q]
      exact gd_of (by decide +kernel)
  case k5 =>
    rintro ds ⟨h, _⟩
    omega
  case k6 =>
    rintro d ⟨ds, rfl, hl, hx⟩
    exact ⟨ds, rfl, hl, hx⟩
  case k7 =>
    rintro x y rfl ⟨out, rfl, hl, hx⟩
    refine ⟨_, r_cat (by omega), gs ++ out, rfl, by rw [List.length_append]; omega, fun z hz => ?_⟩
    rcases List.mem_append.mp hz with q | q
    · exact hgs z q
    · exact hx z q
  rintro _ ⟨hs2, rfl, hgl2, hgs2⟩
  refine rg_asgK (d := .list (oddV0 r)) (ed_lst (ea_cons ed_non (ea_cons ed_bl (ea_cons (ed_un ed_int r1_neg) (ea_cons (ed_var (i := 1) rfl) (ea_cons ed_str (ea_cons (ed_tup ea_nil (Nat.le_of_ble_eq_true rfl)) (ea_cons (ed_lst ea_nil (Nat.le_of_ble_eq_true rfl)) (ea_cons ed_dnew (ea_cons (ed_lst (ea_cons ed_non ea_nil) (Nat.le_of_ble_eq_true rfl)) (ea_cons (ed_lst (ea_cons ed_bl ea_nil) (Nat.le_of_ble_eq_true rfl)) (ea_cons (ed_lst (ea_cons (ed_un ed_int r1_neg) ea_nil) (Nat.le_of_ble_eq_true rfl)) (ea_cons (ed_lst (ea_cons (ed_var (i := 1) rfl) ea_nil) (Nat.le_of_ble_eq_true rfl)) (ea_cons (ed_lst (ea_cons ed_int (ea_cons ed_int ea_nil)) (Nat.le_of_ble_eq_true rfl)) (ea_cons (ed_lst (ea_cons ed_str ea_nil) (Nat.le_of_ble_eq_true rfl)) (ea_cons (ed_lst (ea_cons (ed_lst (ea_cons ed_int ea_nil) (Nat.le_of_ble_eq_true rfl)) (ea_cons (ed_lst (ea_cons ed_int (ea_cons ed_int ea_nil)) (Nat.le_of_ble_eq_true rfl)) ea_nil)) (Nat.le_of_ble_eq_true rfl)) (ea_cons (ed_lst (ea_cons (ed_lst (ea_cons (ed_var (i := 1) rfl) ea_nil) (Nat.le_of_ble_eq_true rfl)) ea_nil) (Nat.le_of_ble_eq_true rfl)) (ea_cons (ed_lst (ea_cons (ed_lst (ea_cons ed_non ea_nil) (Nat.le_of_ble_eq_true rfl)) ea_nil) (Nat.le_of_ble_eq_true rfl)) (ea_cons (ed_lst (ea_cons (ed_tup ea_nil (Nat.le_of_ble_eq_true rfl)) ea_nil) (Nat.le_of_ble_eq_true rfl)) (ea_cons (ed_op ed_int ed_int (r_IC ⟨by decide, by decide, by decide⟩)) ea_nil))))))))))))))))))) (Nat.le_of_ble_eq_true rfl)) ?_
  refine rg_asgK (d := .list (oddV0 r ++ oddV1 r)) (ed_op (ed_var (i := 6) rfl) (ed_lst (ea_cons (ed_tup (ea_cons (ed_lst (ea_cons ed_int ea_nil) (Nat.le_of_ble_eq_true rfl)) (ea_cons ed_int ea_nil)) (Nat.le_of_ble_eq_true rfl)) (ea_cons (ed_lst (ea_cons (ed_tup (ea_cons (ed_lst (ea_cons ed_int ea_nil) (Nat.le_of_ble_eq_true rfl)) (ea_cons (ed_un ed_int r1_neg) ea_nil)) (Nat.le_of_ble_eq_true rfl)) ea_nil) (Nat.le_of_ble_eq_true rfl)) (ea_cons (ed_lst (ea_cons (ed_tup (ea_cons (ed_lst (ea_cons ed_int ea_nil) (Nat.le_of_ble_eq_true rfl)) (ea_cons ed_bl ea_nil)) (Nat.le_of_ble_eq_true rfl)) ea_nil) (Nat.le_of_ble_eq_true rfl)) (ea_cons (ed_lst (ea_cons (ed_tup (ea_cons (ed_lst (ea_cons ed_int ea_nil) (Nat.le_of_ble_eq_true rfl)) (ea_cons ed_non ea_nil)) (Nat.le_of_ble_eq_true rfl)) ea_nil) (Nat.le_of_ble_eq_true rfl)) (ea_cons (ed_lst (ea_cons (ed_lst (ea_cons (ed_lst (ea_cons ed_int ea_nil) (Nat.le_of_ble_eq_true rfl)) (ea_cons ed_int ea_nil)) (Nat.le_of_ble_eq_true rfl)) ea_nil) (Nat.le_of_ble_eq_true rfl)) (ea_cons (ed_lst (ea_cons (ed_tup (ea_cons (ed_lst (ea_cons ed_int ea_nil) (Nat.le_of_ble_eq_true rfl)) (ea_cons ed_int (ea_cons ed_int ea_nil))) (Nat.le_of_ble_eq_true rfl)) ea_nil) (Nat.le_of_ble_eq_true rfl)) (ea_cons (ed_lst (ea_cons (ed_tup (ea_cons (ed_tup (ea_cons ed_int ea_nil) (Nat.le_of_ble_eq_true rfl)) (ea_cons ed_int ea_nil)) (Nat.le_of_ble_eq_true rfl)) ea_nil) (Nat.le_of_ble_eq_true rfl)) (ea_cons (ed_lst (ea_cons (ed_tup (ea_cons (ed_lst (ea_cons (ed_var (i := 1) rfl) ea_nil) (Nat.le_of_ble_eq_true rfl)) (ea_cons ed_int ea_nil)) (Nat.le_of_ble_eq_true rfl)) ea_nil) (Nat.le_of_ble_eq_true rfl)) (ea_cons (ed_tup (ea_cons (ed_lst (ea_cons (ed_lst (ea_cons ed_int ea_nil) (Nat.le_of_ble_eq_true rfl)) ea_nil) (Nat.le_of_ble_eq_true rfl)) ea_nil) (Nat.le_of_ble_eq_true rfl)) (ea_cons (ed_lst (ea_cons (ed_lst (ea_cons (ed_lst (ea_cons ed_int ea_nil) (Nat.le_of_ble_eq_true rfl)) ea_nil) (Nat.le_of_ble_eq_true rfl)) (ea_cons (ed_lst (ea_cons (ed_lst (ea_cons ed_int ea_nil) (Nat.le_of_ble_eq_true rfl)) ea_nil) (Nat.le_of_ble_eq_true rfl)) ea_nil)) (Nat.le_of_ble_eq_true rfl)) ea_nil)))))))))) (Nat.le_of_ble_eq_true rfl)) (r_cat (ds := oddV0 r) (es := oddV1 r) (Nat.le_of_ble_eq_true rfl))) ?_
  refine rg_asgK (d := .list ((oddV0 r ++ oddV1 r) ++ oddV2 r)) (ed_op (ed_var (i := 6) rfl) (ed_lst (ea_cons (ed_tup (ea_cons (ed_lst (ea_cons (ed_lst (ea_cons ed_int ea_nil) (Nat.le_of_ble_eq_true rfl)) ea_nil) (Nat.le_of_ble_eq_true rfl)) (ea_cons (ed_lst (ea_cons (ed_lst (ea_cons (ed_var (i := 1) rfl) ea_nil) (Nat.le_of_ble_eq_true rfl)) ea_nil) (Nat.le_of_ble_eq_true rfl)) ea_nil)) (Nat.le_of_ble_eq_true rfl)) (ea_cons (ed_tup (ea_cons (ed_lst (ea_cons (ed_lst (ea_cons ed_int ea_nil) (Nat.le_of_ble_eq_true rfl)) ea_nil) (Nat.le_of_ble_eq_true rfl)) (ea_cons ed_non ea_nil)) (Nat.le_of_ble_eq_true rfl)) (ea_cons (ed_tup (ea_cons ed_non (ea_cons (ed_lst (ea_cons (ed_lst (ea_cons ed_int ea_nil) (Nat.le_of_ble_eq_true rfl)) ea_nil) (Nat.le_of_ble_eq_true rfl)) ea_nil)) (Nat.le_of_ble_eq_true rfl)) (ea_cons (ed_tup (ea_cons (ed_lst (ea_cons (ed_lst (ea_cons ed_int ea_nil) (Nat.le_of_ble_eq_true rfl)) ea_nil) (Nat.le_of_ble_eq_true rfl)) (ea_cons (ed_lst (ea_cons (ed_lst (ea_cons ed_int ea_nil) (Nat.le_of_ble_eq_true rfl)) ea_nil) (Nat.le_of_ble_eq_true rfl)) (ea_cons (ed_lst ea_nil (Nat.le_of_ble_eq_true rfl)) ea_nil))) (Nat.le_of_ble_eq_true rfl)) (ea_cons (ed_tup (ea_cons (ed_lst (ea_cons ed_int ea_nil) (Nat.le_of_ble_eq_true rfl)) (ea_cons ed_int (ea_cons ed_int ea_nil))) (Nat.le_of_ble_eq_true rfl)) (ea_cons (ed_tup (ea_cons (ed_lst (ea_cons ed_int ea_nil) (Nat.le_of_ble_eq_true rfl)) (ea_cons ed_int (ea_cons (ed_un ed_int r1_neg) ea_nil))) (Nat.le_of_ble_eq_true rfl)) (ea_cons (ed_tup (ea_cons (ed_lst (ea_cons ed_int ea_nil) (Nat.le_of_ble_eq_true rfl)) (ea_cons (ed_var (i := 1) rfl) (ea_cons ed_int ea_nil))) (Nat.le_of_ble_eq_true rfl)) (ea_cons (ed_tup (ea_cons (ed_lst (ea_cons ed_int ea_nil) (Nat.le_of_ble_eq_true rfl)) (ea_cons (ed_un ed_int r1_neg) (ea_cons ed_int ea_nil))) (Nat.le_of_ble_eq_true rfl)) (ea_cons (ed_tup (ea_cons (ed_lst (ea_cons ed_int ea_nil) (Nat.le_of_ble_eq_true rfl)) (ea_cons ed_bl (ea_cons ed_int ea_nil))) (Nat.le_of_ble_eq_true rfl)) ea_nil))))))))) (Nat.le_of_ble_eq_true rfl)) (r_cat (ds := (oddV0 r ++ oddV1 r)) (es := oddV2 r) (Nat.le_of_ble_eq_true rfl))) ?_
  refine rg_asgK (d := .list (((oddV0 r ++ oddV1 r) ++ oddV2 r) ++ oddV3 r)) (ed_op (ed_var (i := 6) rfl) (ed_lst (ea_cons (ed_lst (ea_cons (ed_lst (ea_cons ed_bl ea_nil) (Nat.le_of_ble_eq_true rfl)) ea_nil) (Nat.le_of_ble_eq_true rfl)) (ea_cons (ed_lst (ea_cons (ed_lst (ea_cons ed_bl ea_nil) (Nat.le_of_ble_eq_true rfl)) ea_nil) (Nat.le_of_ble_eq_true rfl)) (ea_cons (ed_lst (ea_cons (ed_lst (ea_cons (ed_un ed_int r1_neg) ea_nil) (Nat.le_of_ble_eq_true rfl)) ea_nil) (Nat.le_of_ble_eq_true rfl)) (ea_cons (ed_lst (ea_cons (ed_lst (ea_cons ed_str ea_nil) (Nat.le_of_ble_eq_true rfl)) ea_nil) (Nat.le_of_ble_eq_true rfl)) (ea_cons (ed_lst (ea_cons (ed_lst (ea_cons ed_int (ea_cons ed_int ea_nil)) (Nat.le_of_ble_eq_true rfl)) ea_nil) (Nat.le_of_ble_eq_true rfl)) (ea_cons (ed_lst (ea_cons (ed_lst (ea_cons ed_int (ea_cons ed_non ea_nil)) (Nat.le_of_ble_eq_true rfl)) ea_nil) (Nat.le_of_ble_eq_true rfl)) (ea_cons (ed_lst (ea_cons (ed_lst (ea_cons ed_int (ea_cons ed_str ea_nil)) (Nat.le_of_ble_eq_true rfl)) ea_nil) (Nat.le_of_ble_eq_true rfl)) (ea_cons (ed_lst (ea_cons (ed_lst (ea_cons ed_int (ea_cons (ed_lst (ea_cons ed_int ea_nil) (Nat.le_of_ble_eq_true rfl)) ea_nil)) (Nat.le_of_ble_eq_true rfl)) ea_nil) (Nat.le_of_ble_eq_true rfl)) (ea_cons (ed_tup (ea_cons (ed_lst (ea_cons ed_bl ea_nil) (Nat.le_of_ble_eq_true rfl)) (ea_cons ed_int (ea_cons ed_int ea_nil))) (Nat.le_of_ble_eq_true rfl)) (ea_cons (ed_tup (ea_cons (ed_lst (ea_cons (ed_un ed_int r1_neg) ea_nil) (Nat.le_of_ble_eq_true rfl)) (ea_cons ed_int (ea_cons ed_int ea_nil))) (Nat.le_of_ble_eq_true rfl)) (ea_cons (ed_tup (ea_cons (ed_lst (ea_cons ed_int (ea_cons ed_non ea_nil)) (Nat.le_of_ble_eq_true rfl)) (ea_cons ed_int (ea_cons ed_int ea_nil))) (Nat.le_of_ble_eq_true rfl)) ea_nil))))))))))) (Nat.le_of_ble_eq_true rfl)) (r_cat (ds := ((oddV0 r ++ oddV1 r) ++ oddV2 r)) (es := oddV3 r) (Nat.le_of_ble_eq_true rfl))) ?_
  refine rg_asgK (d := .list ((((oddV0 r ++ oddV1 r) ++ oddV2 r) ++ oddV3 r) ++ oddV4 r)) (ed_op (ed_var (i := 6) rfl) (ed_lst (ea_cons (ed_lst (ea_cons (ed_tup (ea_cons (ed_lst (ea_cons ed_bl ea_nil) (Nat.le_of_ble_eq_true rfl)) (ea_cons ed_int ea_nil)) (Nat.le_of_ble_eq_true rfl)) ea_nil) (Nat.le_of_ble_eq_true rfl)) (ea_cons (ed_lst (ea_cons (ed_tup (ea_cons (ed_lst (ea_cons ed_int (ea_cons ed_non ea_nil)) (Nat.le_of_ble_eq_true rfl)) (ea_cons ed_int ea_nil)) (Nat.le_of_ble_eq_true rfl)) ea_nil) (Nat.le_of_ble_eq_true rfl)) (ea_cons (ed_tup (ea_cons (ed_lst (ea_cons (ed_lst (ea_cons ed_bl ea_nil) (Nat.le_of_ble_eq_true rfl)) ea_nil) (Nat.le_of_ble_eq_true rfl)) (ea_cons (ed_lst (ea_cons (ed_lst (ea_cons ed_int ea_nil) (Nat.le_of_ble_eq_true rfl)) ea_nil) (Nat.le_of_ble_eq_true rfl)) ea_nil)) (Nat.le_of_ble_eq_true rfl)) (ea_cons (ed_lst (ea_cons (ed_lst (ea_cons ed_int ea_nil) (Nat.le_of_ble_eq_true rfl)) (ea_cons ed_non ea_nil)) (Nat.le_of_ble_eq_true rfl)) (ea_cons (ed_lst (ea_cons (ed_lst (ea_cons ed_int ea_nil) (Nat.le_of_ble_eq_true rfl)) (ea_cons (ed_lst (ea_cons ed_non ea_nil) (Nat.le_of_ble_eq_true rfl)) ea_nil)) (Nat.le_of_ble_eq_true rfl)) (ea_cons (ed_lst (ea_cons (ed_tup (ea_cons (ed_lst (ea_cons ed_int ea_nil) (Nat.le_of_ble_eq_true rfl)) (ea_cons (ed_un ed_int r1_neg) ea_nil)) (Nat.le_of_ble_eq_true rfl)) (ea_cons (ed_tup (ea_cons (ed_lst (ea_cons ed_int ea_nil) (Nat.le_of_ble_eq_true rfl)) (ea_cons ed_int ea_nil)) (Nat.le_of_ble_eq_true rfl)) ea_nil)) (Nat.le_of_ble_eq_true rfl)) (ea_cons (ed_lst (ea_cons ed_non (ea_cons (ed_tup (ea_cons (ed_lst (ea_cons ed_int ea_nil) (Nat.le_of_ble_eq_true rfl)) (ea_cons ed_int ea_nil)) (Nat.le_of_ble_eq_true rfl)) ea_nil)) (Nat.le_of_ble_eq_true rfl)) (ea_cons (ed_lst (ea_cons (ed_lst (ea_cons (ed_var (i := 1) rfl) ea_nil) (Nat.le_of_ble_eq_true rfl)) (ea_cons (ed_lst (ea_cons ed_int ea_nil) (Nat.le_of_ble_eq_true rfl)) ea_nil)) (Nat.le_of_ble_eq_true rfl)) (ea_cons (ed_lst (ea_cons ed_non (ea_cons (ed_lst (ea_cons ed_int ea_nil) (Nat.le_of_ble_eq_true rfl)) ea_nil)) (Nat.le_of_ble_eq_true rfl)) ea_nil))))))))) (Nat.le_of_ble_eq_true rfl)) (r_cat (ds := (((oddV0 r ++ oddV1 r) ++ oddV2 r) ++ oddV3 r)) (es := oddV4 r) (Nat.le_of_ble_eq_true rfl))) ?_
  refine rg_asgK (d := .list (((((oddV0 r ++ oddV1 r) ++ oddV2 r) ++ oddV3 r) ++ oddV4 r) ++ oddV5 r)) (ed_op (ed_var (i := 6) rfl) (ed_lst (ea_cons (ed_tup (ea_cons (ed_lst (ea_cons (ed_lst (ea_cons (ed_var (i := 1) rfl) ea_nil) (Nat.le_of_ble_eq_true rfl)) (ea_cons (ed_lst (ea_cons ed_int ea_nil) (Nat.le_of_ble_eq_true rfl)) ea_nil)) (Nat.le_of_ble_eq_true rfl)) (ea_cons (ed_lst (ea_cons (ed_lst (ea_cons ed_int ea_nil) (Nat.le_of_ble_eq_true rfl)) ea_nil) (Nat.le_of_ble_eq_true rfl)) ea_nil)) (Nat.le_of_ble_eq_true rfl)) (ea_cons (ed_tup (ea_cons (ed_lst (ea_cons (ed_lst (ea_cons ed_int ea_nil) (Nat.le_of_ble_eq_true rfl)) ea_nil) (Nat.le_of_ble_eq_true rfl)) (ea_cons (ed_lst (ea_cons ed_non (ea_cons (ed_lst (ea_cons ed_int ea_nil) (Nat.le_of_ble_eq_true rfl)) ea_nil)) (Nat.le_of_ble_eq_true rfl)) ea_nil)) (Nat.le_of_ble_eq_true rfl)) (ea_cons (ed_tup (ea_cons (ed_lst (ea_cons ed_non (ea_cons (ed_lst (ea_cons ed_int ea_nil) (Nat.le_of_ble_eq_true rfl)) ea_nil)) (Nat.le_of_ble_eq_true rfl)) (ea_cons (ed_lst (ea_cons (ed_lst (ea_cons ed_int ea_nil) (Nat.le_of_ble_eq_true rfl)) ea_nil) (Nat.le_of_ble_eq_true rfl)) ea_nil)) (Nat.le_of_ble_eq_true rfl)) ea_nil))) (Nat.le_of_ble_eq_true rfl)) (r_cat (ds := ((((oddV0 r ++ oddV1 r) ++ oddV2 r) ++ oddV3 r) ++ oddV4 r)) (es := oddV5 r) (Nat.le_of_ble_eq_true rfl))) ?_
  refine rg_asgK (d := .list ((((((oddV0 r ++ oddV1 r) ++ oddV2 r) ++ oddV3 r) ++ oddV4 r) ++ oddV5 r) ++ oddV6 r)) (ed_op (ed_var (i := 6) rfl) (ed_lst (ea_cons (ed_tup (ea_cons (ed_lst (ea_cons ed_int ea_nil) (Nat.le_of_ble_eq_true rfl)) (ea_cons ed_int (ea_cons ed_bl ea_nil))) (Nat.le_of_ble_eq_true rfl)) (ea_cons (ed_tup (ea_cons (ed_lst (ea_cons ed_int ea_nil) (Nat.le_of_ble_eq_true rfl)) (ea_cons ed_int ea_nil)) (Nat.le_of_ble_eq_true rfl)) (ea_cons (ed_lst (ea_cons (ed_lst (ea_cons ed_int ea_nil) (Nat.le_of_ble_eq_true rfl)) (ea_cons ed_int (ea_cons ed_int ea_nil))) (Nat.le_of_ble_eq_true rfl)) (ea_cons (ed_tup (ea_cons (ed_tup (ea_cons ed_int ea_nil) (Nat.le_of_ble_eq_true rfl)) (ea_cons ed_int (ea_cons ed_int ea_nil))) (Nat.le_of_ble_eq_true rfl)) (ea_cons (ed_tup (ea_cons (ed_lst (ea_cons ed_int (ea_cons ed_int ea_nil)) (Nat.le_of_ble_eq_true rfl)) (ea_cons ed_int (ea_cons ed_int ea_nil))) (Nat.le_of_ble_eq_true rfl)) (ea_cons (ed_tup (ea_cons (ed_lst (ea_cons (ed_var (i := 1) rfl) ea_nil) (Nat.le_of_ble_eq_true rfl)) (ea_cons ed_int (ea_cons ed_int ea_nil))) (Nat.le_of_ble_eq_true rfl)) (ea_cons (ed_tup (ea_cons (ed_lst (ea_cons ed_int ea_nil) (Nat.le_of_ble_eq_true rfl)) (ea_cons ed_non (ea_cons ed_int ea_nil))) (Nat.le_of_ble_eq_true rfl)) (ea_cons (ed_tup (ea_cons (ed_lst (ea_cons ed_int ea_nil) (Nat.le_of_ble_eq_true rfl)) (ea_cons ed_int (ea_cons ed_non ea_nil))) (Nat.le_of_ble_eq_true rfl)) (ea_cons (ed_tup (ea_cons (ed_lst (ea_cons ed_int ea_nil) (Nat.le_of_ble_eq_true rfl)) (ea_cons ed_int (ea_cons ed_int (ea_cons ed_int ea_nil)))) (Nat.le_of_ble_eq_true rfl)) (ea_cons ed_str ea_nil)))))))))) (Nat.le_of_ble_eq_true rfl)) (r_cat (ds := (((((oddV0 r ++ oddV1 r) ++ oddV2 r) ++ oddV3 r) ++ oddV4 r) ++ oddV5 r)) (es := oddV6 r) (Nat.le_of_ble_eq_true rfl))) ?_
  refine rg_ret (eg_less (eg_to (eg_of (ed_op (ed_var (i := 5) rfl) (ed_var (i := 6) rfl) (r_cat (ds := hs2) (es := oddV r) ?_))) ?_) (by omega))
  · have : (oddV r).length = 71 := rfl
    omega
  · rintro d rfl
    refine ⟨_, rfl, ?_, fun z hz => ?_⟩
    · have : (oddV r).length = 71 := rfl
      rw [List.length_append]
      omega
    · rcases List.mem_append.mp hz with q | q
      · exact hgs2 z q
      · exact odd_gd r ⟨hr1, hr4⟩ z q
end
end TD

set_option maxHeartbeats 4000000
namespace TD
open PySem PySem.Spec PyProof.Rows L2
open Evl (Ex)
/-! # the levels that the law looks at -/
section
variable {P : Program} {w : World} {K : Fg} {mg : Str → Option Value} {base : Heap}
structure B10 (mg : Str → Option Value) : Prop where
  tuple : mg "tuple" = none
abbrev GL : PyData → Prop := Gd 8 4200000
abbrev s__law_levels : Stmt := topS 47
def preLevels : List PyData → Prop := fun ds => ∃ (r : Nat) (fs : List PyData), ds = [.tuple [.int (r : Int), .list fs]] ∧ (1 ≤ r ∧ r ≤ 4) ∧ fs.length ≤ 7 ∧ ∀ x ∈ fs, Gd 2 50000 x
def R_levels : List PyData → PyData → Prop := fun _ d => ∃ out, d = .list out ∧ out.length ≤ 500 ∧ ∀ x ∈ out, GL x
theorem eo_none {ρ : En} : EO K tNoPart ρ none := fun σ B H s _ Q q => q B H (Le.rfl' s)
theorem gl2 {r : Nat} (hr : r ≤ 4) {ds : List PyData} (h : ∀ d ∈ ds, Gd 6 250000 d) (hl : ds.length ≤ 8) : GL (.tuple [.int (r : Int), .list ds]) := by
  refine (gd_tup (k := 7) (w := 2000100) (n := 2) (fun u hu => ?_) (Nat.le_refl _) (by decide)).up' (by decide) (by decide)
  rcases List.mem_cons.mp hu with q | q
  · exact q ▸ (gd_int (by omega)).up' (by decide) (by decide)
  · rw [List.mem_singleton.mp q]
    exact (gd_list (k := 6) (w := 250000) (n := 8) h hl (by decide)).up' (by decide) (by decide)
theorem rg_unpack2 {j i i2 : Nat} {te : TE} {t : TS} {ρ : En} {n o : Nat} {P : PyData → Prop} {x y : PyData} (h : ED K te ρ (.tuple [x, y])) (hi : i ≠ j) (hi2 : i2 ≠ j) (k : RG K j t ((ρ.set i (some x)).set i2 (some y)) n P o) :
    RG K j (tSeq (tAsg te (gTup K 2 (gCons (gName i) (gCons (gName i2) gNil)))) t) ρ n P o := fun g σ B H D s hg ga hs sd q =>
  h σ B H s sd _ fun v B1 H1 l1 d1 => by
    cases d1 with
    | @tup p xs _ ha hxs =>
      obtain ⟨v1, r1, rfl, e1, t1⟩ := hxs.inv1
      obtain ⟨v2, r2, rfl, e2, t2⟩ := t1.inv1
      cases t2
      refine ⟨p, _, rfl, SqT.of (l1.sub _ _ ha), rfl, _, _, rfl, _, _, rfl, rfl, ?_⟩
      refine k g _ B1 H1 D l1.sub ((LeG.of l1).g hg ga.some) (ga.ex l1.ex) ?_ (((sd.up l1.ek).put i e1).put i2 e2) fun v3 d3 B3 H3 l3 g3 hd3 p3 => q v3 d3 B3 H3 ((LeG.of l1).tr l3 (ga.ex l1.ex).some) g3 hd3 p3
      rw [List.getElem?_set_ne hi2, List.getElem?_set_ne hi]
      exact hs
theorem eg_slice {j : Nat} {te : TE} {tl th : TO} {ρ : En} {n m : Nat} {lo hi : Option Int} {Pd : List PyData → Prop} (h : EG K j te ρ n (fun d => ∃ ds, d = .list ds ∧ Pd ds) m) (hl : EO K tl ρ lo) (hh : EO K th ρ hi) : EG K j (tSl (rSlL K) te tl th) ρ n (fun d => ∃ ds, d = .list (cutD ds lo hi) ∧ Pd ds) m := fun g σ B H s hg ga hs sd Q q =>
  h g σ B H s hg ga hs sd _ fun v d B1 H1 l1 g1 hd p => by
    obtain ⟨ds, rfl, pd⟩ := p
    refine hl σ B1 H1 l1.sub (sd.up l1.ek) _ fun B2 H2 l2 => hh σ B2 H2 l2.sub (sd.up (l1.ek.trans l2.ek)) _ fun B3 H3 l3 => ?_
    have d3 := hd.ex (l2.tr l3).ek
    cases d3 with
    | @lst a xs _ ha hxs =>
      refine ⟨a, xs, rfl, SqL.of (l3.sub _ _ ha), fun p hp => ?_⟩
      have l4 := Le.new (o := .lst (cutV xs lo hi)) l3.sub hp
      have l24 := (l2.tr l3).tr l4
      exact q _ _ _ _ (l1.tr (LeG.of l24) g1.some) (g1.ex l24.ex) (.lst upd_same ((hxs.cut lo hi).ex l4.ek)) ⟨ds, rfl, pd⟩
def F0 (r : Int) (fs : List PyData) : List PyData := [.tuple [.int r, .list fs], .tuple [.int r, .tuple fs], .list [.int r, .list fs], .tuple [.int 0, .list []], .tuple [.bool true, .list []], .tuple [.int (-1), .list []], .tuple [.int r], .tuple [.int r, .list fs, .int 0], .tuple [.none, .list fs], .tuple [.str "1", .list []], .tuple [.int r, .none]]
theorem gnil {P : PyData → Prop} : ∀ x ∈ ([] : List PyData), P x := fun _ h => nomatch h
theorem F0_gl {r : Nat} {fs : List PyData} (hri : Gd 3 360000 (.int (r : Int))) (hdoors : Gd 3 360000 (.list fs)) (hdt : Gd 3 360000 (.tuple fs)) : ∀ x ∈ F0 r fs, GL x := by
  have z0 : Gd 3 360000 (.int 0) := gd_of (by decide +kernel)
  have zn : Gd 3 360000 .none := gd_of (by decide +kernel)
  have t2 : ∀ {a b : PyData}, Gd 3 360000 a → Gd 3 360000 b → ∀ u ∈ [a, b], Gd 3 360000 u := fun ha hb => List.forall_mem_cons.mpr ⟨ha, List.forall_mem_cons.mpr ⟨hb, gnil⟩⟩
  have w2 : ∀ {a b : PyData}, Gd 3 360000 a → Gd 3 360000 b → GL (.tuple [a, b]) := fun ha hb => (gd_tup (n := 2) (t2 ha hb) (Nat.le_refl _) (by decide)).up' (by decide) (by decide)
  refine List.forall_mem_cons.mpr ⟨w2 hri hdoors, List.forall_mem_cons.mpr ⟨w2 hri hdt, List.forall_mem_cons.mpr ⟨(gd_list (n := 2) (t2 hri hdoors) (Nat.le_refl _) (by decide)).up' (by decide) (by decide), List.forall_mem_cons.mpr ⟨gd_of (by decide +kernel), List.forall_mem_cons.mpr ⟨gd_of (by decide +kernel), List.forall_mem_cons.mpr ⟨gd_of (by decide +kernel), List.forall_mem_cons.mpr ⟨?_, List.forall_mem_cons.mpr ⟨?_, List.forall_mem_cons.mpr ⟨w2 zn hdoors, List.forall_mem_cons.mpr ⟨gd_of (by decide +kernel), List.forall_mem_cons.mpr ⟨w2 hri zn, gnil⟩⟩⟩⟩⟩⟩⟩⟩⟩⟩⟩
  · exact (gd_tup (k := 3) (w := 360000) (n := 1) (List.forall_mem_cons.mpr ⟨hri, gnil⟩) (Nat.le_refl _) (by decide)).up' (by decide) (by decide)
  · exact (gd_tup (k := 3) (w := 360000) (n := 3) (List.forall_mem_cons.mpr ⟨hri, t2 hdoors z0⟩) (Nat.le_refl _) (by decide)).up' (by decide) (by decide)
theorem f__law_levels (T : B10 mg) (a : At K mg "_law_levels" s__law_levels) (c__law_values : Fc P w K mg base "_law_values" ["_law_generator_here", "_law_rooms"] 5 (SpG K 600 preValues R_values)) :
    Fc P w K mg base "_law_levels" ["_law_generator_here", "_law_level_there"] 6 (SpG K 1300 preLevels R_levels) := by
  have S : FnScope ["_law_generator_here", "_law_level_there", "_law_rooms", "_law_doors", "_law_found", "_law_value"] ["_law_generator_here", "_law_level_there"] (defScope s__law_levels) := ⟨rfl, rfl, rfl, by decide +kernel, rfl, by decide +kernel, by decide +kernel⟩
  refine fg_mk a S (fun _ _ _ _ _ _ us hl => match us, hl with | [_, _], _ => rfl) (by rintro _ ⟨r, fs, rfl, _⟩; rfl) fun f cdv A outer s H E gu hr => ?_
  have hc : (cxOf CX0 P w K mg base ["_law_generator_here", "_law_level_there", "_law_rooms", "_law_doors", "_law_found", "_law_value"] "_law_levels" (defScope s__law_levels) f cdv A outer s H E).nox.calm = true := rfl
  refine ⟨_, (pss_cons (ps_asg (pv 1) (pg_tup hc (pgs_cons (pg_name (i := 2) S.nd rfl (by first | exact Or.inl rfl | exact Or.inr rfl)) (pgs_cons (pg_name (i := 3) S.nd rfl (by first | exact Or.inl rfl | exact Or.inr rfl)) pgs_nil))))
  (pss_cons (ps_set (i := 4) S.nd rfl (by first | exact Or.inl rfl | exact Or.inr rfl) (pe_lst (pa_cons (pv 1) (pa_cons (pe_tup (pa_cons (pv 2) (pa_cons (pe_callTy call_tuple_of (by rfl) T.tuple (by decide +kernel) (pa_cons (pv 3) pa_nil)) pa_nil))) (pa_cons (pe_lst (pa_cons (pv 2) (pa_cons (pv 3) pa_nil))) (pa_cons (pe_tup (pa_cons pe_int (pa_cons (pe_lst pa_nil) pa_nil))) (pa_cons (pe_tup (pa_cons pe_bl (pa_cons (pe_lst pa_nil) pa_nil))) (pa_cons (pe_tup (pa_cons (pe_un un_neg pe_int) (pa_cons (pe_lst pa_nil) pa_nil))) (pa_cons (pe_tup (pa_cons (pv 2) pa_nil)) (pa_cons (pe_tup (pa_cons (pv 2) (pa_cons (pv 3) (pa_cons pe_int pa_nil)))) (pa_cons (pe_tup (pa_cons pe_non (pa_cons (pv 3) pa_nil))) (pa_cons (pe_tup (pa_cons pe_str (pa_cons (pe_lst pa_nil) pa_nil))) (pa_cons (pe_tup (pa_cons (pv 2) (pa_cons pe_non pa_nil))) pa_nil)))))))))))))
  (pss_cons (ps_for PassesOwn.never hc (pi_list (pe_f c__law_values gu (hr.mono (by decide)) (by rfl) (pa_cons (pv 0) (pa_cons (pv 2) pa_nil)))) (pg_name (i := 5) S.nd rfl (by first | exact Or.inl rfl | exact Or.inr rfl))
    (pss_one (ps_set (i := 4) S.nd rfl (by first | exact Or.inl rfl | exact Or.inr rfl) (pe_op op_cat (pv 4) (pe_lst (pa_cons (pe_tup (pa_cons (pv 2) (pa_cons (pe_op op_cat (pv 3) (pe_lst (pa_cons (pv 5) pa_nil))) pa_nil))) (pa_cons (pe_tup (pa_cons (pv 2) (pa_cons (pe_op op_cat (pe_lst (pa_cons (pv 5) pa_nil)) (pv 3)) pa_nil))) (pa_cons (pe_tup (pa_cons (pv 2) (pa_cons (pe_op op_cat (pe_op op_cat (pe_slice sl_list (pv 3) po_none (po_some pe_int)) (pe_lst (pa_cons (pv 5) pa_nil))) (pe_slice sl_list (pv 3) (po_some pe_int) po_none)) pa_nil))) (pa_cons (pe_tup (pa_cons (pv 2) (pa_cons (pe_lst (pa_cons (pv 5) (pa_cons (pe_tup (pa_cons (pe_lst (pa_cons pe_int pa_nil)) (pa_cons pe_int (pa_cons pe_int pa_nil)))) pa_nil))) pa_nil))) pa_nil)))))))))
  (pss_one (ps_ret (pe_op op_cat (pv 4) (pe_lst (pa_cons (pe_tup (pa_cons (pv 2) (pa_cons (pe_lc (own := [("_law_value", 5)]) hc S.nd (pi_list (pe_slice sl_list (pe_f c__law_values gu (hr.mono (by decide)) (by rfl) (pa_cons (pv 0) (pa_cons (pv 2) pa_nil))) (po_some pe_int) (po_some pe_int))) (blkOk_by (N := ["_law_generator_here", "_law_level_there", "_law_rooms", "_law_doors", "_law_found", "_law_value"]) (sc := defScope s__law_levels) (by decide +kernel)) (fun _ _ _ _ _ => (pg_name (i := 5) S.nd rfl (by first | exact Or.inl rfl | exact Or.inr rfl))) (fun _ _ _ _ _ => pts_nil) (fun _ _ _ _ _ => (pv 5))) pa_nil))) (pa_cons pe_non (pa_cons pe_dnewK (pa_cons pe_int (pa_cons (pe_tup (pa_cons pe_int (pa_cons (pe_op op_rep (pe_lst (pa_cons (pe_tup (pa_cons (pe_lst pa_nil) (pa_cons pe_int (pa_cons pe_int pa_nil)))) pa_nil)) pe_int) pa_nil))) pa_nil)))))))))))), ?_⟩
  rintro _ n ⟨r, fs, rfl, ⟨hr1, hr4⟩, hfl, hfs⟩
  have hd6 : ∀ x ∈ fs, Gd 6 250000 x := fun x hx => (hfs x hx).up' (by decide) (by decide)
  have hdoors : Gd 3 360000 (.list fs) := (gd_list (k := 2) (w := 50000) (n := 7) hfs hfl (by decide)).up' (by decide) (by decide)
  have hri : Gd 3 360000 (.int (r : Int)) := (gd_int (by omega)).up' (by decide) (by decide)
  have hdt : Gd 3 360000 (.tuple fs) := (gd_tup (k := 2) (w := 50000) (n := 7) hfs hfl (by decide)).up' (by decide) (by decide)
  refine rg_unpack2 (ed_var (i := 1) rfl) (by decide) (by decide) ?_
  refine rg_asgK (d := .list (F0 r fs)) (ed_lst (ea_cons (ed_var (i := 1) rfl) (ea_cons (ed_tup (ea_cons (ed_var (i := 2) rfl) (ea_cons (ed_cb (ea_cons (ed_var (i := 3) rfl) ea_nil) rc_tupleL) ea_nil)) (Nat.le_of_ble_eq_true rfl)) (ea_cons (ed_lst (ea_cons (ed_var (i := 2) rfl) (ea_cons (ed_var (i := 3) rfl) ea_nil)) (Nat.le_of_ble_eq_true rfl)) (ea_cons (ed_tup (ea_cons ed_int (ea_cons (ed_lst ea_nil) ea_nil)) (Nat.le_of_ble_eq_true rfl)) (ea_cons (ed_tup (ea_cons ed_bl (ea_cons (ed_lst ea_nil) ea_nil)) (Nat.le_of_ble_eq_true rfl)) (ea_cons (ed_tup (ea_cons (ed_un ed_int r1_neg) (ea_cons (ed_lst ea_nil) ea_nil)) (Nat.le_of_ble_eq_true rfl)) (ea_cons (ed_tup (ea_cons (ed_var (i := 2) rfl) ea_nil) (Nat.le_of_ble_eq_true rfl)) (ea_cons (ed_tup (ea_cons (ed_var (i := 2) rfl) (ea_cons (ed_var (i := 3) rfl) (ea_cons ed_int ea_nil))) (Nat.le_of_ble_eq_true rfl)) (ea_cons (ed_tup (ea_cons ed_non (ea_cons (ed_var (i := 3) rfl) ea_nil)) (Nat.le_of_ble_eq_true rfl)) (ea_cons (ed_tup (ea_cons ed_str (ea_cons (ed_lst ea_nil) ea_nil)) (Nat.le_of_ble_eq_true rfl)) (ea_cons (ed_tup (ea_cons (ed_var (i := 2) rfl) (ea_cons ed_non ea_nil)) (Nat.le_of_ble_eq_true rfl)) ea_nil))))))))))) (Nat.le_of_ble_eq_true rfl)) ?_
  have vals : ∀ {ρ : En} {k : Nat}, ρ[2]? = some (some (.int (r : Int))) → EG K 0 (tCall (SpG K 600 preValues R_values) [] E0 (tCons (tVar 0) (tCons (tVar 2) tNil))) ρ (k + 600) (fun d => ∃ ds, d = .list ds ∧ ds.length ≤ 100 ∧ ∀ x ∈ ds, Gd 6 250000 x) k := fun {ρ k} h2 => by
    refine eg_to (eg_call (c := 600) (Pre := preValues) (R := R_values) (Ps := fun ds => ds = [.int (r : Int)]) (m := k) (ega_of (n := k + 600) (ea_cons (ed_var h2) ea_nil)) ?_) ?_
    · rintro ds rfl
      exact ⟨r, rfl, hr1, hr4⟩
    · rintro d ⟨ds, rfl, out, rfl, h1, h2⟩
      exact ⟨out, rfl, h1, h2⟩
  refine rg_gather (N := 100) (m := n + 700) (G := Gd 6 250000) (f0 := F0 r fs) (fun i gs => gs.length ≤ 11 + 4 * i ∧ ∀ x ∈ gs, GL x) (vals (k := n + 700) rfl) (by decide) (by decide) (by decide) rfl ⟨Nat.le_of_ble_eq_true rfl, F0_gl hri hdoors hdt⟩ ?_ ?_
  · rintro i x gs hi hx ⟨hgl, hgs⟩
    have m1 : ∀ d ∈ fs ++ [x], Gd 6 250000 d := fun d hd => by
      rcases List.mem_append.mp hd with q | q
      · exact hd6 d q
      · exact List.mem_singleton.mp q ▸ hx
    have m2 : ∀ d ∈ [x] ++ fs, Gd 6 250000 d := fun d hd => by
      rcases List.mem_append.mp hd with q | q
      · exact List.mem_singleton.mp q ▸ hx
      · exact hd6 d q
    have m3 : ∀ d ∈ (cutD fs none (some 1) ++ [x]) ++ cutD fs (some 1) none, Gd 6 250000 d := fun d hd => by
      rcases List.mem_append.mp hd with q | q
      · rcases List.mem_append.mp q with q | q
        · exact hd6 d (cutD_mem q)
        · exact List.mem_singleton.mp q ▸ hx
      · exact hd6 d (cutD_mem q)
    have m4 : ∀ d ∈ [x, .tuple [.list [.int 0], .int 0, .int 0]], Gd 6 250000 d := List.forall_mem_cons.mpr ⟨hx, List.forall_mem_cons.mpr ⟨gd_of (by decide +kernel), gnil⟩⟩
    have c1 := cutD_len fs none (some 1)
    have c2 := cutD_len fs (some 1) none
    have c1' : (cutD fs none (some 1)).length ≤ 1 := by
      unfold cutD
      rw [List.length_take, HT.sIx_none, show HT.sIx fs.length fs.length (some 1) = min 1 fs.length from HT.sIx_nat _ _ 1]
      omega
    have c2' : (cutD fs (some 1) none).length ≤ 6 := by
      unfold cutD
      rw [List.length_take, HT.sIx_none, show HT.sIx fs.length 0 (some 1) = min 1 fs.length from HT.sIx_nat _ _ 1]
      rw [List.length_drop]
      omega
    have l1 : (fs ++ [x]).length ≤ 8 := by rw [List.length_append, List.length_singleton]; omega
    have l2 : ([x] ++ fs).length ≤ 8 := by rw [List.length_append, List.length_singleton]; omega
    have l3 : ((cutD fs none (some 1) ++ [x]) ++ cutD fs (some 1) none).length ≤ 8 := by rw [List.length_append, List.length_append, List.length_singleton]; omega
    refine ⟨gs ++ [.tuple [.int (r : Int), .list (fs ++ [x])], .tuple [.int (r : Int), .list ([x] ++ fs)], .tuple [.int (r : Int), .list ((cutD fs none (some 1) ++ [x]) ++ cutD fs (some 1) none)], .tuple [.int (r : Int), .list [x, .tuple [.list [.int 0], .int 0, .int 0]]]], ⟨?_, ?_⟩, ?_⟩
    · rw [List.length_append]
      show gs.length + 4 ≤ _
      omega
    · intro d hd
      rcases List.mem_append.mp hd with q | q
      · exact hgs d q
      · revert d
        intro d _ q
        rcases List.mem_cons.mp q with q | q
        · exact q ▸ gl2 hr4 m1 l1
        rcases List.mem_cons.mp q with q | q
        · exact q ▸ gl2 hr4 m2 l2
        rcases List.mem_cons.mp q with q | q
        · exact q ▸ gl2 hr4 m3 l3
        · exact List.mem_singleton.mp q ▸ gl2 hr4 m4 (Nat.le_of_ble_eq_true rfl)
    · refine ed_op (ed_var (i := 4) rfl) (ed_lst (ea_cons (ed_tup (ea_cons (ed_var (i := 2) rfl) (ea_cons (ed_op (ed_var (i := 3) rfl) (ed_lst (ea_cons (ed_var (i := 5) rfl) ea_nil) (Nat.le_of_ble_eq_true rfl)) (r_cat ?_)) ea_nil)) (Nat.le_of_ble_eq_true rfl)) (ea_cons (ed_tup (ea_cons (ed_var (i := 2) rfl) (ea_cons (ed_op (ed_lst (ea_cons (ed_var (i := 5) rfl) ea_nil) (Nat.le_of_ble_eq_true rfl)) (ed_var (i := 3) rfl) (r_cat ?_)) ea_nil)) (Nat.le_of_ble_eq_true rfl)) (ea_cons (ed_tup (ea_cons (ed_var (i := 2) rfl) (ea_cons (ed_op (ed_op (ed_slice (ed_var (i := 3) rfl) eo_none (eo_some ed_int)) (ed_lst (ea_cons (ed_var (i := 5) rfl) ea_nil) (Nat.le_of_ble_eq_true rfl)) (r_cat ?_)) (ed_slice (ed_var (i := 3) rfl) (eo_some ed_int) eo_none) (r_cat ?_)) ea_nil)) (Nat.le_of_ble_eq_true rfl)) (ea_cons (ed_tup (ea_cons (ed_var (i := 2) rfl) (ea_cons (ed_lst (ea_cons (ed_var (i := 5) rfl) (ea_cons (ed_tup (ea_cons (ed_lst (ea_cons ed_int ea_nil)) (ea_cons ed_int (ea_cons ed_int ea_nil)))) ea_nil)) (Nat.le_of_ble_eq_true rfl)) ea_nil)) (Nat.le_of_ble_eq_true rfl)) ea_nil)))) (Nat.le_of_ble_eq_true rfl)) (r_cat ?_)
      · rw [List.length_singleton]; omega
      · rw [List.length_singleton]; omega
      · rw [List.length_singleton]; omega
      · rw [List.length_append, List.length_singleton]; omega
      · show gs.length + 4 ≤ _
        omega
  · rintro i gs hi ⟨hgl, hgs⟩
    refine rg_ret (eg_op (n := n + 700) (m := n + 700) (P1 := fun d => d = .list gs) (P2 := fun d => ∃ out, d = .list out ∧ out.length = 5 ∧ ∀ x ∈ out, GL x) (eg_of (ed_var (i := 4) rfl)) (eg_to (eg_lst (ega_all1 (G := GL) (m := n) (eg_to (eg_tup (n := n + 700) (m := n) (ega_cons (P := fun d => d = .int (r : Int)) (eg_of (ed_var (i := 2) rfl)) (ega_cons (P := fun d => ∃ out, d = .list out ∧ out.length ≤ 1 ∧ ∀ x ∈ out, Gd 6 250000 x) (eg_to (eg_lcL (N := 100) (c := 0) (m := n) (n := n + 700) (Pl := fun ds => ds.length ≤ 1 ∧ ∀ x ∈ ds, Gd 6 250000 x) (Pe := fun x y => y = x) (eg_to (eg_less (eg_slice (lo := some 5) (hi := some 6) (vals (k := n + 100) rfl) (eo_some ed_int) (eo_some ed_int)) (by omega)) ?k1) (by decide) (by decide) (by decide) (fun x k => eg_of (ed_var rfl))) ?k2) ega_nil)) ?k3) ?k4) (ega_all1 (eg_gd ed_non (gd_of (by decide +kernel))) (ega_all1 (eg_gd ed_dnew (gd_of (by decide +kernel))) (ega_all1 (eg_gd ed_int (gd_of (by decide +kernel))) (ega_all1 (eg_gd (ed_tup (ea_cons ed_int (ea_cons (ed_op (ed_lst (ea_cons (ed_tup (ea_cons (ed_lst ea_nil) (ea_cons ed_int (ea_cons ed_int ea_nil)))) ea_nil)) ed_int (r_rep ⟨by decide, by decide, by decide⟩)) ea_nil)) (Nat.le_of_ble_eq_true rfl)) (gd_of (by decide +kernel))) ega_all0))))) ?k5) ?k6) ?k7)
    case k1 =>
      rintro d ⟨ds, rfl, h1, h2⟩
      have e : (cutD ds (some 5) (some 6)).length ≤ 1 := by
        unfold cutD
        rw [List.length_take, show HT.sIx ds.length 0 (some 5) = min 5 ds.length from HT.sIx_nat _ _ 5, show HT.sIx ds.length ds.length (some 6) = min 6 ds.length from HT.sIx_nat _ _ 6]
        omega
      exact ⟨_, rfl, ⟨e, fun x hx => h2 x (cutD_mem hx)⟩, by omega⟩
    case k2 =>
      rintro d ⟨ds, out, ⟨h1, h2⟩, rfl, h3, h4⟩
      refine ⟨out, rfl, by omega, fun y hy => ?_⟩
      obtain ⟨x, hx, e⟩ := h4 y hy
      exact e ▸ h2 x hx
    case k3 =>
      rintro ds ⟨d, rr, rfl, _, d2, rr2, rfl, _, rfl⟩
      exact Nat.le_of_ble_eq_true rfl
    case k4 =>
      rintro d ⟨ds, rfl, d1, rr, rfl, rfl, d2, rr2, rfl, ⟨out, rfl, h1, h2⟩, rfl⟩
      exact gl2 hr4 h2 (by omega)
    case k5 =>
      rintro ds ⟨h, _⟩
      omega
    case k6 =>
      rintro d ⟨ds, rfl, hl, hx⟩
      exact ⟨ds, rfl, hl, hx⟩
    case k7 =>
      rintro x y rfl ⟨out, rfl, hl, hx⟩
      refine ⟨_, r_cat (by omega), gs ++ out, rfl, by rw [List.length_append]; omega, fun z hz => ?_⟩
      rcases List.mem_append.mp hz with q | q
      · exact hgs z q
      · exact hx z q
end
end TD

set_option maxHeartbeats 4000000
namespace TD
open PySem PySem.Spec PyProof.Rows L2
open Evl (Ex)
/-! # one generator's levels and values -/
section
variable {P : Program} {w : World} {K : Fg} {mg : Str → Option Value} {base : Heap}
structure B11 (mg : Str → Option Value) : Prop where
  repr : mg "repr" = none
theorem gd_bool (b : Bool) : Gd 0 10 (.bool b) := ⟨rfl, rfl, Nat.zero_le _, Nat.le_of_ble_eq_true rfl⟩
theorem fine_bools (bs : List Bool) (h : bs.length ≤ 10) : Fine (.list (bs.map PyData.bool)) := by
  refine Gd.fine (gd_list (k := 0) (w := 10) (n := 10) (fun d hd => ?_) (by rw [List.length_map]; exact h) (by decide)) (by decide) (by decide)
  obtain ⟨b, _, rfl⟩ := List.mem_map.mp hd
  exact gd_bool b
theorem ne_self (u : Str) : (!decide (u = u)) = false := by rw [decide_eq_true rfl]; rfl
abbrev s__law_right : Stmt := topS 48
theorem f__law_right (T : B11 mg) (a : At K mg "_law_right" s__law_right) (c__law_level : Fc P w K mg base "_law_level" ["_law_generator_here", "_law_most", "_law_many"] 4 (SpG K 500 preLevel R_level)) (c__law_levels : Fc P w K mg base "_law_levels" ["_law_generator_here", "_law_level_there"] 6 (SpG K 1300 preLevels R_levels)) (c__law_values : Fc P w K mg base "_law_values" ["_law_generator_here", "_law_rooms"] 5 (SpG K 600 preValues R_values))
    (c__law_yes : Fc P w K mg base "_law_yes" ["_law_told", "_law_due"] 1 (SpR K R__law_yes)) (c__law_is_level : Fc P w K mg base "_law_is_level" ["_law_value"] 4 (SpR K R__law_is_level)) (c__law_is_door : Fc P w K mg base "_law_is_door" ["_law_rooms", "_law_value"] 3 (SpR K R__law_is_door)) (c__law_are_rows : Fc P w K mg base "_law_are_rows" ["_law_rooms", "_law_value"] 3 (SpR K R__law_are_rows)) (c__law_are_runs : Fc P w K mg base "_law_are_runs" ["_law_rooms", "_law_value"] 3 (SpR K R__law_are_runs)) (c__law_are_endless : Fc P w K mg base "_law_are_endless" ["_law_rooms", "_law_value"] 4 (SpR K R__law_are_endless)) (c__law_are_letters : Fc P w K mg base "_law_are_letters" ["_law_rooms", "_law_value"] 4 (SpR K R__law_are_letters))
    (c_is_level : Fc P w K mg base "is_level" ["value"] 9 (SpR K R_is_level)) (k_is_level : Fk P w K mg base "is_level" ["value"] ["value"] 9 (SpR K R_is_level) id id)
    (c_is_door : Fc P w K mg base "is_door" ["rooms", "value"] 7 (SpR K R_is_door)) (k_is_door : Fk P w K mg base "is_door" ["rooms", "value"] ["value", "rooms"] 7 (SpR K R_is_door) swap2 swap2)
    (c_are_presses : Fc P w K mg base "are_presses" ["level", "value"] 10 (SpR K R_are_presses)) (k_are_presses : Fk P w K mg base "are_presses" ["level", "value"] ["value", "level"] 10 (SpR K R_are_presses) swap2 swap2)
    (c_are_runs : Fc P w K mg base "are_runs" ["level", "value"] 10 (SpR K R_are_runs)) (k_are_runs : Fk P w K mg base "are_runs" ["level", "value"] ["value", "level"] 10 (SpR K R_are_runs) swap2 swap2)
    (c_are_endless : Fc P w K mg base "are_endless" ["level", "value"] 10 (SpR K R_are_endless)) (k_are_endless : Fk P w K mg base "are_endless" ["level", "value"] ["value", "level"] 10 (SpR K R_are_endless) swap2 swap2)
    (c_are_letters : Fc P w K mg base "are_letters" ["level", "value"] 10 (SpR K R_are_letters)) (k_are_letters : Fk P w K mg base "are_letters" ["level", "value"] ["value", "level"] 10 (SpR K R_are_letters) swap2 swap2)
    (sm : ∃ mm, base.Ns sysModules mm) : Fc P w K mg base "_law_right" ["_law_generator_here"] 11 (SpG K 2500 (fun ds => ds = []) (fun _ d => d = .bool true)) := by
  have S : FnScope ["_law_generator_here", "_law_level_there", "_law_value", "_law_kept", "_law_due", "_law_rooms", "_law_told"] ["_law_generator_here"] (defScope s__law_right) := ⟨rfl, rfl, rfl, by decide +kernel, rfl, by decide +kernel, by decide +kernel⟩
  refine fg_mk a S (fun _ _ _ _ _ _ us hl => match us, hl with | [_], _ => rfl) (by rintro _ rfl; rfl) fun f cdv A outer s H E gu hr => ?_
  have hc : (cxOf CX0 P w K mg base ["_law_generator_here", "_law_level_there", "_law_value", "_law_kept", "_law_due", "_law_rooms", "_law_told"] "_law_right" (defScope s__law_right) f cdv A outer s H E).nox.calm = true := rfl
  have hu : (cxOf CX0 P w K mg base ["_law_generator_here", "_law_level_there", "_law_value", "_law_kept", "_law_due", "_law_rooms", "_law_told"] "_law_right" (defScope s__law_right) f cdv A outer s H E).nox.A.units + 200 < cLine := Nat.lt_of_le_of_lt (Nat.add_le_add_right (Nat.le_add_right _ _) _) hr.un
  refine ⟨_, (pss_cons (ps_set (i := 1) S.nd rfl (by first | exact Or.inl rfl | exact Or.inr rfl) (pe_f c__law_level gu (hr.mono (by decide)) (by rfl) (pa_cons (pv 0) (pa_cons pe_int (pa_cons pe_int pa_nil)))))
  (pss_cons (ps_for PassesOwn.never hc (pi_list (pe_f c__law_levels gu (hr.mono (by decide)) (by rfl) (pa_cons (pv 0) (pa_cons (pv 1) pa_nil)))) (pg_name (i := 2) S.nd rfl (by first | exact Or.inl rfl | exact Or.inr rfl))
    (pss_cons (ps_par (i := 3) (j := 4) hc S.nd rfl rfl (by decide) rfl rfl (pa_cons (pe_callB (call_reprA sm gu hu) (by rfl) T.repr (by decide +kernel) (pa_cons (pv 2) pa_nil)) (pa_cons (pe_f c__law_is_level gu (hr.mono (by decide)) (by rfl) (pa_cons (pv 2) pa_nil)) pa_nil)) (by rfl))
  (pss_one (ps_if (PW.pt (pw_or (pt_not (pt_val (pe_f c__law_yes gu (hr.mono (by decide)) (by rfl) (pa_cons (pe_f c_is_level gu (hr.mono (by decide)) (by rfl) (pa_cons (pv 2) pa_nil)) (pa_cons (pv 4) pa_nil))))) (pw_or (pt_not (pt_val (pe_f c__law_yes gu (hr.mono (by decide)) (by rfl) (pa_cons (pe_fk k_is_level gu (hr.mono (by decide)) (by rfl) (pk_cons (pv 2) pk_nil)) (pa_cons (pv 4) pa_nil))))) (pw_or1 (pt_cmpR op_ne (pe_callB (call_reprA sm gu hu) (by rfl) T.repr (by decide +kernel) (pa_cons (pv 2) pa_nil)) (pv 3) (nomark _)))))) (pss_one (ps_ret pe_bl)) pss_nil))))
  (pss_cons (ps_set (i := 5) S.nd rfl (by first | exact Or.inl rfl | exact Or.inr rfl) (pe_ix ix_tup (pv 1) pe_int (fun _ _ => rfl)))
  (pss_cons (ps_for PassesOwn.never hc (pi_list (pe_f c__law_values gu (hr.mono (by decide)) (by rfl) (pa_cons (pv 0) (pa_cons (pv 5) pa_nil)))) (pg_name (i := 2) S.nd rfl (by first | exact Or.inl rfl | exact Or.inr rfl))
    (pss_cons (ps_set (i := 3) S.nd rfl (by first | exact Or.inl rfl | exact Or.inr rfl) (pe_callB (call_reprA sm gu hu) (by rfl) T.repr (by decide +kernel) (pa_cons (pe_lst (pa_cons (pv 1) (pa_cons (pv 2) pa_nil))) pa_nil)))
  (pss_cons (ps_set (i := 4) S.nd rfl (by first | exact Or.inl rfl | exact Or.inr rfl) (pe_lst (pa_cons (pe_f c__law_is_door gu (hr.mono (by decide)) (by rfl) (pa_cons (pv 5) (pa_cons (pv 2) pa_nil))) (pa_cons (pe_f c__law_are_rows gu (hr.mono (by decide)) (by rfl) (pa_cons (pv 5) (pa_cons (pv 2) pa_nil))) (pa_cons (pe_f c__law_are_runs gu (hr.mono (by decide)) (by rfl) (pa_cons (pv 5) (pa_cons (pv 2) pa_nil))) (pa_cons (pe_f c__law_are_endless gu (hr.mono (by decide)) (by rfl) (pa_cons (pv 5) (pa_cons (pv 2) pa_nil))) (pa_cons (pe_f c__law_are_letters gu (hr.mono (by decide)) (by rfl) (pa_cons (pv 5) (pa_cons (pv 2) pa_nil))) pa_nil)))))))
  (pss_cons (ps_set (i := 6) S.nd rfl (by first | exact Or.inl rfl | exact Or.inr rfl) (pe_lst (pa_cons (pe_f c_is_door gu (hr.mono (by decide)) (by rfl) (pa_cons (pv 5) (pa_cons (pv 2) pa_nil))) (pa_cons (pe_f c_are_presses gu (hr.mono (by decide)) (by rfl) (pa_cons (pv 1) (pa_cons (pv 2) pa_nil))) (pa_cons (pe_f c_are_runs gu (hr.mono (by decide)) (by rfl) (pa_cons (pv 1) (pa_cons (pv 2) pa_nil))) (pa_cons (pe_f c_are_endless gu (hr.mono (by decide)) (by rfl) (pa_cons (pv 1) (pa_cons (pv 2) pa_nil))) pa_nil))))))
  (pss_cons (ps_if (PW.pt (pw_or (pt_cmpR op_ne (pe_callB (call_reprA sm gu hu) (by rfl) T.repr (by decide +kernel) (pa_cons (pe_op op_cat (pv 6) (pe_lst (pa_cons (pe_f c_are_letters gu (hr.mono (by decide)) (by rfl) (pa_cons (pv 1) (pa_cons (pv 2) pa_nil))) pa_nil))) pa_nil)) (pe_callB (call_reprA sm gu hu) (by rfl) T.repr (by decide +kernel) (pa_cons (pv 4) pa_nil)) (nomark _)) (pw_or1 (pt_cmpR op_ne (pe_callB (call_reprA sm gu hu) (by rfl) T.repr (by decide +kernel) (pa_cons (pe_lst (pa_cons (pv 1) (pa_cons (pv 2) pa_nil))) pa_nil)) (pv 3) (nomark _))))) (pss_one (ps_ret pe_bl)) pss_nil)
  (pss_cons (ps_set (i := 6) S.nd rfl (by first | exact Or.inl rfl | exact Or.inr rfl) (pe_lst (pa_cons (pe_fk k_is_door gu (hr.mono (by decide)) (by rfl) (pk_cons (pv 2) (pk_cons (pv 5) pk_nil))) (pa_cons (pe_fk k_are_presses gu (hr.mono (by decide)) (by rfl) (pk_cons (pv 2) (pk_cons (pv 1) pk_nil))) (pa_cons (pe_fk k_are_runs gu (hr.mono (by decide)) (by rfl) (pk_cons (pv 2) (pk_cons (pv 1) pk_nil))) pa_nil)))))
  (pss_cons (ps_set (i := 6) S.nd rfl (by first | exact Or.inl rfl | exact Or.inr rfl) (pe_op op_cat (pv 6) (pe_lst (pa_cons (pe_fk k_are_endless gu (hr.mono (by decide)) (by rfl) (pk_cons (pv 2) (pk_cons (pv 1) pk_nil))) (pa_cons (pe_fk k_are_letters gu (hr.mono (by decide)) (by rfl) (pk_cons (pv 2) (pk_cons (pv 1) pk_nil))) pa_nil)))))
  (pss_one (ps_if (pt_cmpR op_ne (pe_callB (call_reprA sm gu hu) (by rfl) T.repr (by decide +kernel) (pa_cons (pv 6) pa_nil)) (pe_callB (call_reprA sm gu hu) (by rfl) T.repr (by decide +kernel) (pa_cons (pv 4) pa_nil)) (nomark _)) (pss_one (ps_ret pe_bl)) pss_nil)))))))))
  (pss_one (ps_ret pe_bl)))))), ?_⟩
  rintro _ n rfl
  refine rg_asg (m := n + 2000) (P1 := fun d => ∃ (r : Nat) (out : List PyData), d = .tuple [.int (r : Int), .list out] ∧ (1 ≤ r ∧ r ≤ 4) ∧ out.length ≤ 5 ∧ ∀ x ∈ out, Dr r x) (by decide) (eg_to (eg_call (c := 500) (Pre := preLevel) (R := R_level) (Ps := fun ds => ds = [.int ((4 : Nat) : Int), .int ((5 : Nat) : Int)]) (m := n + 2000) (ega_of (n := n + 2000 + 500) (ea_cons ed_int (ea_cons ed_int ea_nil))) ?a1) ?a2) ?_
  case a1 =>
    rintro ds rfl
    exact ⟨4, 5, rfl, by decide, by decide, by decide⟩
  case a2 =>
    rintro d ⟨ds, rfl, m, t, r, out, e, rfl, h1, h2, h3, h4⟩
    injection e with e e2
    injection e with e
    injection e2 with e2 _
    injection e2 with e2
    exact ⟨r, out, rfl, ⟨h1, by omega⟩, by omega, h4⟩
  rintro _ ⟨r, out, rfl, ⟨hr1, hr4⟩, hol, hdr⟩
  have hgd : ∀ x ∈ out, Gd 2 50000 x := fun x hx => by
    obtain ⟨ns, i, k, rfl, hf, hn⟩ := hdr x hx
    have hf' : (fitsLights r (.list (intsD ns)) && ((decide (0 ≤ i) && decide (i < r)) && (decide (-1 ≤ k) && decide (k ≤ 1)))) = true := hf
    simp only [Bool.and_eq_true, decide_eq_true_eq] at hf'
    have hl : Gd 1 16100 (.list (intsD ns)) := gd_lights (r := 8) (asc_up (by omega) hf'.1) (by decide) hn
    refine (gd_tup (k := 1) (w := 16100) (n := 3) (List.forall_mem_cons.mpr ⟨hl, List.forall_mem_cons.mpr ⟨(gd_int (by omega)).up' (by decide) (by decide), List.forall_mem_cons.mpr ⟨(gd_int (by omega)).up' (by decide) (by decide), gnil⟩⟩⟩) (Nat.le_refl _) (by decide)).up' (by decide) (by decide)
  have hLv : Lv (.tuple [.int (r : Int), .list out]) r := by
    refine ⟨out, rfl, by omega, ?_⟩
    show (decide (1 ≤ (r : Int)) && out.all (fitsDoor r)) = true
    rw [decide_eq_true (by omega), List.all_eq_true.mpr fun x hx => let ⟨_, _, _, _, h, _⟩ := hdr x hx; h]
    rfl
  have hlev : Gd 8 4200000 (.tuple [.int (r : Int), .list out]) := gl2 hr4 (fun x hx => (hgd x hx).up' (by decide) (by decide)) (by omega)
  -- the levels
  refine rg_each (i0 := 2) (cs := [2, 3, 4]) (m := n + 700) (G := GL) (eg_to (eg_call (c := 1300) (Pre := preLevels) (R := R_levels) (Ps := fun ds => ds = [.tuple [.int (r : Int), .list out]]) (m := n + 700) (ega_of (n := n + 700 + 1300) (ea_cons (ed_var (i := 1) rfl) ea_nil)) ?b1) ?b2) (by decide) ?_ ?_
  case b1 =>
    rintro ds rfl
    exact ⟨r, out, rfl, ⟨hr1, hr4⟩, by omega, hgd⟩
  case b2 =>
    rintro d ⟨ds, rfl, o, rfl, _, h⟩
    exact ⟨o, rfl, h⟩
  · intro x hx
    have fx := hx.fine (by decide) (by decide)
    have zx := hx.sz
    have sx : ∀ r' es, x = .tuple [r', .list es] → es.length ≤ 30000 := fun r' es e => by
      subst e
      exact Nat.le_trans (sz_list ((sz_tup zx).2 (.list es) (by simp))).1 (by decide)
    refine ⟨_, xj_seq (xj_par (by decide) (by decide) (ea_cons (ed_cb (ea_cons (ed_var (i := 2) rfl) ea_nil) (rc_repr fx)) (ea_cons (ed_call (R := R__law_is_level) (ea_cons (ed_var (i := 2) rfl) ea_nil) ⟨_, rfl, zx, rfl⟩) ea_nil))) (xj_skip (et_is (et_or (a := false) (et_is (et_not (et_B (ed_call (R := R__law_yes) (ea_cons (ed_call (R := R_is_level) (ea_cons (ed_var (i := 2) rfl) ea_nil) ⟨_, rfl, sx, rfl⟩) (ea_cons (ed_var (i := 4) rfl) ea_nil)) ⟨_, _, rfl, rfl⟩))) ?_) fun _ => et_or (a := false) (b := false) (et_is (et_not (et_B (ed_call (R := R__law_yes) (ea_cons (ed_callk (R := R_is_level) (ea_cons (ed_var (i := 2) rfl) ea_nil) rfl (fun _ _ h => h) ⟨_, rfl, sx, rfl⟩) (ea_cons (ed_var (i := 4) rfl) ea_nil)) ⟨_, _, rfl, rfl⟩))) ?_) fun _ => et_is (et_test (ed_op (ed_cb (ea_cons (ed_var (i := 2) rfl) ea_nil) (rc_repr fx)) (ed_var (i := 3) rfl) r_neS)) (ne_self _)) rfl)), rfl, ?_⟩
    · simp
    · simp
    · intro i d e
      match i, e with
      | 0, e => exact e
      | 1, e => exact e
      | 2, e => exact nomatch e
      | 3, e => exact nomatch e
      | 4, e => exact nomatch e
      | 5, e => exact e
      | 6, e => exact e
      | i + 7, e => exact e
  refine rg_asgK (d := .int (r : Int)) (ed_op (ed_var (i := 1) rfl) ed_int r_ixT0) ?_
  refine rg_each (i0 := 2) (cs := [2, 3, 4, 6]) (m := n + 100) (G := Gd 6 250000) (eg_to (eg_call (c := 600) (Pre := preValues) (R := R_values) (Ps := fun ds => ds = [.int (r : Int)]) (m := n + 100) (ega_of (n := n + 100 + 600) (ea_cons (ed_var (i := 5) rfl) ea_nil)) ?c1) ?c2) (by decide) ?_ ?_
  case c1 =>
    rintro ds rfl
    exact ⟨r, rfl, hr1, hr4⟩
  case c2 =>
    rintro d ⟨ds, rfl, o, rfl, _, h⟩
    exact ⟨o, rfl, h⟩
  · intro x hx
    have zx := hx.sz
    have sx := sz_Sm zx
    have sl : ∀ es, x = .list es → es.length ≤ 30000 := fun es e => sx es (.inl e)
    have sp : ∀ p t, x = .tuple [p, t] → Sm p ∧ Sm t := fun p t e => by
      subst e
      exact ⟨sz_Sm ((sz_tup zx).2 p (by simp)), sz_Sm ((sz_tup zx).2 t (by simp))⟩
    have f2 : Fine (.list [.tuple [.int (r : Int), .list out], x]) := (gd_list (k := 8) (w := 4200000) (n := 2) (List.forall_mem_cons.mpr ⟨hlev, List.forall_mem_cons.mpr ⟨hx.up' (by decide) (by decide), gnil⟩⟩) (Nat.le_refl _) (by decide)).fine (by decide) (by decide)
    have fb : Fine (.list ([fitsDoor r x, fitsPresses r x, fitsRuns r x, fitsEndless r x, fitsLetters r x].map PyData.bool)) := fine_bools _ (Nat.le_of_ble_eq_true rfl)
    have x1 := xj_asg (K := K) (j := 0) (i := 3) (ρ := [none, some (.tuple [.int (r : Int), .list out]), some x, none, none, some (.int (r : Int)), none]) (by decide) (ed_cb (ea_cons (ed_lst (ea_cons (ed_var (i := 1) rfl) (ea_cons (ed_var (i := 2) rfl) ea_nil)) (Nat.le_of_ble_eq_true rfl)) ea_nil) (rc_repr f2))
    refine ⟨_, xj_seq x1 (xj_seq (xj_asg (i := 4) (d := .list ([fitsDoor r x, fitsPresses r x, fitsRuns r x, fitsEndless r x, fitsLetters r x].map PyData.bool)) (by decide) (ed_lst (ea_cons (ed_call (R := R__law_is_door) (ea_cons (ed_var (i := 5) rfl) (ea_cons (ed_var (i := 2) rfl) ea_nil)) ⟨_, _, rfl, zx, rfl⟩) (ea_cons (ed_call (R := R__law_are_rows) (ea_cons (ed_var (i := 5) rfl) (ea_cons (ed_var (i := 2) rfl) ea_nil)) ⟨_, _, rfl, zx, rfl⟩) (ea_cons (ed_call (R := R__law_are_runs) (ea_cons (ed_var (i := 5) rfl) (ea_cons (ed_var (i := 2) rfl) ea_nil)) ⟨_, _, rfl, zx, rfl⟩) (ea_cons (ed_call (R := R__law_are_endless) (ea_cons (ed_var (i := 5) rfl) (ea_cons (ed_var (i := 2) rfl) ea_nil)) ⟨_, _, rfl, zx, rfl⟩) (ea_cons (ed_call (R := R__law_are_letters) (ea_cons (ed_var (i := 5) rfl) (ea_cons (ed_var (i := 2) rfl) ea_nil)) ⟨_, _, rfl, zx, rfl⟩) ea_nil))))) (Nat.le_of_ble_eq_true rfl))) (xj_seq (xj_asg (i := 6) (d := .list ([fitsDoor r x, fitsPresses r x, fitsRuns r x, fitsEndless r x].map PyData.bool)) (by decide) (ed_lst (ea_cons (ed_call (R := R_is_door) (ea_cons (ed_var (i := 5) rfl) (ea_cons (ed_var (i := 2) rfl) ea_nil)) ⟨_, _, rfl, by omega, rfl⟩) (ea_cons (ed_call (R := R_are_presses) (ea_cons (ed_var (i := 1) rfl) (ea_cons (ed_var (i := 2) rfl) ea_nil)) ⟨_, _, _, rfl, hLv, sx, rfl⟩) (ea_cons (ed_call (R := R_are_runs) (ea_cons (ed_var (i := 1) rfl) (ea_cons (ed_var (i := 2) rfl) ea_nil)) ⟨_, _, _, rfl, hLv, sl, rfl⟩) (ea_cons (ed_call (R := R_are_endless) (ea_cons (ed_var (i := 1) rfl) (ea_cons (ed_var (i := 2) rfl) ea_nil)) ⟨_, _, _, rfl, hLv, sp, rfl⟩) ea_nil)))) (Nat.le_of_ble_eq_true rfl))) (xj_seq (xj_skip (et_is (et_or (a := false) (b := false) (et_is (et_test (ed_op (ed_cb (ea_cons (ed_op (ed_var (i := 6) rfl) (ed_lst (ea_cons (ed_call (R := R_are_letters) (ea_cons (ed_var (i := 1) rfl) (ea_cons (ed_var (i := 2) rfl) ea_nil)) ⟨_, _, _, rfl, hLv, sx, rfl⟩) ea_nil) (Nat.le_of_ble_eq_true rfl)) (r_cat (Nat.le_of_ble_eq_true rfl))) ea_nil) (rc_repr fb)) (ed_cb (ea_cons (ed_var (i := 4) rfl) ea_nil) (rc_repr fb)) r_neS)) (ne_self _)) fun _ => et_is (et_test (ed_op (ed_cb (ea_cons (ed_lst (ea_cons (ed_var (i := 1) rfl) (ea_cons (ed_var (i := 2) rfl) ea_nil)) (Nat.le_of_ble_eq_true rfl)) ea_nil) (rc_repr f2)) (ed_var (i := 3) rfl) r_neS)) (ne_self _)) rfl)) (xj_seq (xj_asg (i := 6) (d := .list ([fitsDoor r x, fitsPresses r x, fitsRuns r x].map PyData.bool)) (by decide) (ed_lst (ea_cons (ed_callk (R := R_is_door) (ea_cons (ed_var (i := 2) rfl) (ea_cons (ed_var (i := 5) rfl) ea_nil)) rfl (fun _ _ h => das_swap h) ⟨_, _, rfl, by omega, rfl⟩) (ea_cons (ed_callk (R := R_are_presses) (ea_cons (ed_var (i := 2) rfl) (ea_cons (ed_var (i := 1) rfl) ea_nil)) rfl (fun _ _ h => das_swap h) ⟨_, _, _, rfl, hLv, sx, rfl⟩) (ea_cons (ed_callk (R := R_are_runs) (ea_cons (ed_var (i := 2) rfl) (ea_cons (ed_var (i := 1) rfl) ea_nil)) rfl (fun _ _ h => das_swap h) ⟨_, _, _, rfl, hLv, sl, rfl⟩) ea_nil))) (Nat.le_of_ble_eq_true rfl))) (xj_seq (xj_asg (i := 6) (d := .list ([fitsDoor r x, fitsPresses r x, fitsRuns r x, fitsEndless r x, fitsLetters r x].map PyData.bool)) (by decide) (ed_op (ed_var (i := 6) rfl) (ed_lst (ea_cons (ed_callk (R := R_are_endless) (ea_cons (ed_var (i := 2) rfl) (ea_cons (ed_var (i := 1) rfl) ea_nil)) rfl (fun _ _ h => das_swap h) ⟨_, _, _, rfl, hLv, sp, rfl⟩) (ea_cons (ed_callk (R := R_are_letters) (ea_cons (ed_var (i := 2) rfl) (ea_cons (ed_var (i := 1) rfl) ea_nil)) rfl (fun _ _ h => das_swap h) ⟨_, _, _, rfl, hLv, sx, rfl⟩) ea_nil)) (Nat.le_of_ble_eq_true rfl)) (r_cat (Nat.le_of_ble_eq_true rfl)))) (xj_skip (et_is (et_test (ed_op (ed_cb (ea_cons (ed_var (i := 6) rfl) ea_nil) (rc_repr fb)) (ed_cb (ea_cons (ed_var (i := 4) rfl) ea_nil) (rc_repr fb)) r_neS)) (ne_self _)))))))), rfl, ?_⟩
    intro i d e
    match i, e with
    | 0, e => exact e
    | 1, e => exact e
    | 2, e => exact nomatch e
    | 3, e => exact nomatch e
    | 4, e => exact nomatch e
    | 5, e => exact e
    | 6, e => exact nomatch e
    | i + 7, e => exact e
  · exact rg_ret (eg_less (eg_to (eg_of ed_bl) fun d e => e) (by omega))
end
end TD

set_option maxHeartbeats 4000000
namespace TD
open PySem PySem.Spec PyProof.Rows L2
open Evl (Ex)
/-! # the law -/
section
variable {P : Program} {w : World} {K : Fg} {mg : Str → Option Value} {base : Heap}
theorem lv3 : Lv (.tuple [.int 3, .list [.tuple [.list [.int 0, .int 1], .int 2, .int 0]]]) 3 := ⟨_, rfl, by decide, by decide +kernel⟩
theorem lv4 : Lv (.tuple [.int 4, .list []]) 4 := ⟨_, rfl, by decide, by decide +kernel⟩
theorem sz_lev {x : PyData} (h : szOk x = true) : ∀ r' es, x = .tuple [r', .list es] → es.length ≤ 30000 := fun r' es e => by
  subst e
  exact Nat.le_trans (sz_list ((sz_tup h).2 (.list es) (by simp))).1 (by decide)
theorem sz_run {x : PyData} (h : szOk x = true) : ∀ es, x = .list es → es.length ≤ 30000 := fun es e => sz_Sm h es (.inl e)
theorem sz_end {x : PyData} (h : szOk x = true) : ∀ p t, x = .tuple [p, t] → Sm p ∧ Sm t := fun p t e => by
  subst e
  exact ⟨sz_Sm ((sz_tup h).2 p (by simp)), sz_Sm ((sz_tup h).2 t (by simp))⟩
theorem xs_go {t : TS} {ρ : En} {d : PyData} {σ : L2.St} {B H : Hp} {D : Ends} (s : Ex B H) (sd : SD K B σ ρ) (m : ∀ v B' H', Le B H B' H' → Da K B' v d → D.rt v H') (h : XS K t ρ (.ret d)) : t D σ H := h σ B H D s sd m
def spLaw1 (K : Fg) : Sp := fun vs H Q _ => ∃ (s : Addr) (ns : List Int), vs = [.ref s] ∧ SqL K H s (ns.map V.int) ∧ ∀ H', Q (.bl true) H'
abbrev s_law : Stmt := topS 49
abbrev spRight (K : Fg) : Sp := SpG K 2500 (fun ds => ds = []) (fun _ d => d = .bool true)
theorem f_law (T : Bg mg) (sm : ∃ mm, base.Ns sysModules mm) (c__law_generator : Fc P w K mg base "_law_generator" ["_law_script", "_law_index"] 2 (spGen K)) (c__law_right : Fc P w K mg base "_law_right" ["_law_generator_here"] 11 (spRight K))
    (c_is_level : Fc P w K mg base "is_level" ["value"] 9 (SpR K R_is_level)) (c_are_presses : Fc P w K mg base "are_presses" ["level", "value"] 10 (SpR K R_are_presses)) (c_are_runs : Fc P w K mg base "are_runs" ["level", "value"] 10 (SpR K R_are_runs)) (c_are_endless : Fc P w K mg base "are_endless" ["level", "value"] 10 (SpR K R_are_endless)) (c_are_letters : Fc P w K mg base "are_letters" ["level", "value"] 10 (SpR K R_are_letters))
    {f : Addr} {fd : FuncData} (F : Fun K "law" "law" s_law f fd) : FnG P w K mg base CX0 12 f fd ["_law_script"] (spLaw1 K) := by
  have S : FnScope ["_law_script", "_law_index", "_law_hall", "_law_told", "_law_lot", "_law_further"] ["_law_script"] (defScope s_law) := ⟨rfl, rfl, rfl, by decide +kernel, rfl, by decide +kernel, by decide +kernel⟩
  refine fnG F S ?_ ?_
  · rintro vs H Q E ⟨sc, ns, rfl, _⟩
    rfl
  intro cdv Ar outer s H vs Q E gu hr ⟨sc, ns, ev, hS, q⟩
  subst ev
  have hc : (cxOf CX0 P w K mg base ["_law_script", "_law_index", "_law_hall", "_law_told", "_law_lot", "_law_further"] "law" (defScope s_law) f cdv Ar outer s H E).nox.calm = true := rfl
  have hu64 : (cxOf CX0 P w K mg base ["_law_script", "_law_index", "_law_hall", "_law_told", "_law_lot", "_law_further"] "law" (defScope s_law) f cdv Ar outer s H E).nox.A.units + 64 < cLine := hr.units
  suffices h : ∃ t, PSs (cxOf CX0 P w K mg base ["_law_script", "_law_index", "_law_hall", "_law_told", "_law_lot", "_law_further"] "law" (defScope s_law) f cdv Ar outer s H E).nox (defBody s_law) t ∧ t { nx := fun _ H' => Q .non H', rt := Q } (L2.start ["_law_script", "_law_index", "_law_hall", "_law_told", "_law_lot", "_law_further"] [.ref sc]) H by
    obtain ⟨t, h1, h2⟩ := h
    exact ⟨t, h1.nox, h2⟩
  refine ⟨_, (pss_cons (ps_for PassesOwn.never hc (pi_range1 (by rfl) T.range (pa_cons pe_int pa_nil)) (pg_name (i := 1) S.nd rfl (by first | exact Or.inl rfl | exact Or.inr rfl))
    (pss_one (ps_if (pt_not (pt_val (pe_f c__law_right gu (hr.mono (by decide)) (by rfl) (pa_cons (pe_f c__law_generator gu (hr.mono (by decide)) (by rfl) (pa_cons (pv 0) (pa_cons (pv 1) pa_nil))) pa_nil)))) (pss_one (ps_ret pe_bl)) pss_nil)))
  (pss_cons (ps_set (i := 2) S.nd rfl (by first | exact Or.inl rfl | exact Or.inr rfl) (pe_tup (pa_cons pe_int (pa_cons (pe_lst (pa_cons (pe_tup (pa_cons (pe_lst (pa_cons pe_int (pa_cons pe_int pa_nil))) (pa_cons pe_int (pa_cons pe_int pa_nil)))) pa_nil)) pa_nil))))
  (pss_cons (ps_set (i := 3) S.nd rfl (by first | exact Or.inl rfl | exact Or.inr rfl) (pe_lst (pa_cons (pe_f c_are_letters gu (hr.mono (by decide)) (by rfl) (pa_cons (pv 2) (pa_cons (pe_lst (pa_cons (pe_lst pa_nil) (pa_cons (pe_lst (pa_cons pe_int (pa_cons pe_int pa_nil))) (pa_cons (pe_lst (pa_cons pe_int pa_nil)) (pa_cons (pe_lst (pa_cons pe_int pa_nil)) pa_nil))))) pa_nil))) (pa_cons (pe_f c_are_letters gu (hr.mono (by decide)) (by rfl) (pa_cons (pv 2) (pa_cons (pe_lst (pa_cons (pe_lst pa_nil) (pa_cons (pe_lst (pa_cons pe_int pa_nil)) (pa_cons (pe_lst (pa_cons pe_int (pa_cons pe_int pa_nil))) (pa_cons (pe_lst (pa_cons pe_int pa_nil)) pa_nil))))) pa_nil))) (pa_cons (pe_f c_are_endless gu (hr.mono (by decide)) (by rfl) (pa_cons (pv 2) (pa_cons (pe_tup (pa_cons (pe_lst pa_nil) (pa_cons (pe_lst pa_nil) pa_nil))) pa_nil))) (pa_cons (pe_f c_are_runs gu (hr.mono (by decide)) (by rfl) (pa_cons (pv 2) (pa_cons (pe_lst (pa_cons (pe_tup (pa_cons (pe_lst (pa_cons pe_int pa_nil)) (pa_cons (pe_op op_pow pe_int pe_int) pa_nil))) pa_nil)) pa_nil))) pa_nil))))))
  (pss_cons (ps_set (i := 4) S.nd rfl (by first | exact Or.inl rfl | exact Or.inr rfl) (pe_lst (pa_cons (pe_lst pa_nil) (pa_cons (pe_lst (pa_cons pe_int pa_nil)) (pa_cons (pe_lst (pa_cons pe_int (pa_cons pe_int pa_nil))) (pa_cons (pe_lst (pa_cons pe_int (pa_cons pe_int (pa_cons pe_int pa_nil)))) (pa_cons (pe_lst (pa_cons pe_int (pa_cons pe_int (pa_cons pe_int (pa_cons pe_int pa_nil))))) (pa_cons (pe_lst (pa_cons pe_int (pa_cons pe_int pa_nil))) (pa_cons (pe_lst (pa_cons pe_int pa_nil)) (pa_cons (pe_lst (pa_cons pe_int (pa_cons pe_int pa_nil))) (pa_cons (pe_lst (pa_cons pe_int pa_nil)) pa_nil)))))))))))
  (pss_cons (ps_set (i := 5) S.nd rfl (by first | exact Or.inl rfl | exact Or.inr rfl) (pe_lst (pa_cons (pe_f c_is_level gu (hr.mono (by decide)) (by rfl) (pa_cons (pe_tup (pa_cons pe_int (pa_cons (pe_op op_rep (pe_lst (pa_cons (pe_tup (pa_cons (pe_lst (pa_cons pe_int pa_nil)) (pa_cons pe_int (pa_cons pe_int pa_nil)))) pa_nil)) pe_int) pa_nil))) pa_nil)) (pa_cons (pe_f c_are_presses gu (hr.mono (by decide)) (by rfl) (pa_cons (pv 2) (pa_cons (pe_op op_rep (pe_lst (pa_cons (pe_lst pa_nil) pa_nil)) pe_int) pa_nil))) (pa_cons (pe_f c_are_runs gu (hr.mono (by decide)) (by rfl) (pa_cons (pv 2) (pa_cons (pe_op op_rep (pe_lst (pa_cons (pe_tup (pa_cons (pe_lst pa_nil) (pa_cons pe_int pa_nil))) pa_nil)) pe_int) pa_nil))) (pa_cons (pe_f c_are_endless gu (hr.mono (by decide)) (by rfl) (pa_cons (pv 2) (pa_cons (pe_tup (pa_cons (pe_op op_rep (pe_lst (pa_cons (pe_lst pa_nil) pa_nil)) pe_int) (pa_cons (pe_op op_rep (pe_lst (pa_cons (pe_lst (pa_cons pe_int pa_nil)) pa_nil)) pe_int) pa_nil))) pa_nil))) (pa_cons (pe_f c_are_letters gu (hr.mono (by decide)) (by rfl) (pa_cons (pe_tup (pa_cons pe_int (pa_cons (pe_lst pa_nil) pa_nil))) (pa_cons (pv 4) pa_nil))) pa_nil)))))))
  (pss_one (ps_ret (pe_and (pe_cmpR (op_eqA sm hu64) (pv 3) (pe_lst (pa_cons pe_bl (pa_cons pe_bl (pa_cons pe_bl (pa_cons pe_bl pa_nil))))) (nomark _)) (pe_one (pe_cmpR (op_eqA sm hu64) (pv 5) (pe_op op_rep (pe_lst (pa_cons pe_bl pa_nil)) pe_int) (nomark _))))))))))), ?_⟩
  refine seq_for1 ⟨3, rfl, by decide, by decide, ?_⟩
  refine for_range (lo := 0) (n := 3) (fun i σ' H' => ∃ o1, σ' = [some (.ref sc), o1, none, none, none, none] ∧ Ex H H') ⟨none, rfl, Ex.refl H⟩ ?_ ?_
  · rintro i σ' H' hi ⟨o1, rfl, e⟩
    refine ⟨.ref sc, rfl, .int ((0 : Int) + (i : Int)), rfl, sc, ns, (0 : Int) + (i : Int), rfl, Evl.ex_l e hS, by omega, by omega, fun g H1 ng e1 ga => ?_⟩
    refine ⟨g, [], fun _ => none, [], 0, rfl, (fun _ _ z => nomatch z), rfl, ga.less (by decide), .nil, rfl, fun v d B2 H2 l2 _ hd r => ?_⟩
    cases r
    cases hd
    refine ⟨true, rfl, ?_⟩
    show ∃ o1, _ ∧ Ex H H2
    refine ⟨_, rfl, fun a o ha => ?_⟩
    have h1 := e a o ha
    exact l2.ex a o (fun z => by rw [z, ng] at h1; cases h1) (e1 a o h1)
  · rintro σ' H' ⟨o1, rfl, e⟩
    dsimp only
    refine xs_go (K := K) (ρ := [none, none, none, none, none, none]) (d := .bool true) (B := fun _ => none) (fun _ _ z => nomatch z) ⟨rfl, fun i d z => ?_⟩ (fun v B' H2 _ hd => ?_) ?_
    rotate_left 2
    · exact xs_seq (xs_asg (d := .tuple [.int 3, .list [.tuple [.list [.int 0, .int 1], .int 2, .int 0]]]) (ed_tup (ea_cons ed_int (ea_cons (ed_lst (ea_cons (ed_tup (ea_cons (ed_lst (ea_cons ed_int (ea_cons ed_int ea_nil)) (Nat.le_of_ble_eq_true rfl)) (ea_cons ed_int (ea_cons ed_int ea_nil))) (Nat.le_of_ble_eq_true rfl)) ea_nil) (Nat.le_of_ble_eq_true rfl)) ea_nil)) (Nat.le_of_ble_eq_true rfl))) (xs_seq (xs_asg (d := .list [.bool false, .bool true, .bool false, .bool true]) (ed_lst (ea_cons (ed_is (ed_call (R := R_are_letters) (ea_cons (ed_var (i := 2) rfl) (ea_cons (ed_lst (ea_cons (ed_lst ea_nil (Nat.le_of_ble_eq_true rfl)) (ea_cons (ed_lst (ea_cons ed_int (ea_cons ed_int ea_nil)) (Nat.le_of_ble_eq_true rfl)) (ea_cons (ed_lst (ea_cons ed_int ea_nil) (Nat.le_of_ble_eq_true rfl)) (ea_cons (ed_lst (ea_cons ed_int ea_nil) (Nat.le_of_ble_eq_true rfl)) ea_nil)))) (Nat.le_of_ble_eq_true rfl)) ea_nil)) ⟨_, _, _, rfl, lv3, sz_Sm (by decide +kernel), rfl⟩) (congrArg PyData.bool (show fitsLetters 3 (.list [.list [], .list [.int 0, .int 1], .list [.int 0], .list [.int 1]]) = false by decide +kernel))) (ea_cons (ed_is (ed_call (R := R_are_letters) (ea_cons (ed_var (i := 2) rfl) (ea_cons (ed_lst (ea_cons (ed_lst ea_nil (Nat.le_of_ble_eq_true rfl)) (ea_cons (ed_lst (ea_cons ed_int ea_nil) (Nat.le_of_ble_eq_true rfl)) (ea_cons (ed_lst (ea_cons ed_int (ea_cons ed_int ea_nil)) (Nat.le_of_ble_eq_true rfl)) (ea_cons (ed_lst (ea_cons ed_int ea_nil) (Nat.le_of_ble_eq_true rfl)) ea_nil)))) (Nat.le_of_ble_eq_true rfl)) ea_nil)) ⟨_, _, _, rfl, lv3, sz_Sm (by decide +kernel), rfl⟩) (congrArg PyData.bool (show fitsLetters 3 (.list [.list [], .list [.int 0], .list [.int 0, .int 1], .list [.int 1]]) = true by decide +kernel))) (ea_cons (ed_is (ed_call (R := R_are_endless) (ea_cons (ed_var (i := 2) rfl) (ea_cons (ed_tup (ea_cons (ed_lst ea_nil (Nat.le_of_ble_eq_true rfl)) (ea_cons (ed_lst ea_nil (Nat.le_of_ble_eq_true rfl)) ea_nil)) (Nat.le_of_ble_eq_true rfl)) ea_nil)) ⟨_, _, _, rfl, lv3, sz_end (by decide +kernel), rfl⟩) (congrArg PyData.bool (show fitsEndless 3 (.tuple [.list [], .list []]) = false by decide +kernel))) (ea_cons (ed_is (ed_call (R := R_are_runs) (ea_cons (ed_var (i := 2) rfl) (ea_cons (ed_lst (ea_cons (ed_tup (ea_cons (ed_lst (ea_cons ed_int ea_nil) (Nat.le_of_ble_eq_true rfl)) (ea_cons (ed_op ed_int ed_int (r_IC ⟨by decide, by decide, by decide⟩)) ea_nil)) (Nat.le_of_ble_eq_true rfl)) ea_nil) (Nat.le_of_ble_eq_true rfl)) ea_nil)) ⟨_, _, _, rfl, lv3, sz_run (by decide +kernel), rfl⟩) (congrArg PyData.bool (show fitsRuns 3 (.list [.tuple [.list [.int 0], .int (10 ^ (29 : Int).toNat)]]) = true by decide +kernel))) ea_nil)))) (Nat.le_of_ble_eq_true rfl))) (xs_seq (xs_asg (d := .list [.list [], .list [.int 0], .list [.int 0, .int 1], .list [.int 0, .int 1, .int 2], .list [.int 0, .int 1, .int 2, .int 3], .list [.int 0, .int 2], .list [.int 1], .list [.int 1, .int 2], .list [.int 2]]) (ed_lst (ea_cons (ed_lst ea_nil (Nat.le_of_ble_eq_true rfl)) (ea_cons (ed_lst (ea_cons ed_int ea_nil) (Nat.le_of_ble_eq_true rfl)) (ea_cons (ed_lst (ea_cons ed_int (ea_cons ed_int ea_nil)) (Nat.le_of_ble_eq_true rfl)) (ea_cons (ed_lst (ea_cons ed_int (ea_cons ed_int (ea_cons ed_int ea_nil))) (Nat.le_of_ble_eq_true rfl)) (ea_cons (ed_lst (ea_cons ed_int (ea_cons ed_int (ea_cons ed_int (ea_cons ed_int ea_nil)))) (Nat.le_of_ble_eq_true rfl)) (ea_cons (ed_lst (ea_cons ed_int (ea_cons ed_int ea_nil)) (Nat.le_of_ble_eq_true rfl)) (ea_cons (ed_lst (ea_cons ed_int ea_nil) (Nat.le_of_ble_eq_true rfl)) (ea_cons (ed_lst (ea_cons ed_int (ea_cons ed_int ea_nil)) (Nat.le_of_ble_eq_true rfl)) (ea_cons (ed_lst (ea_cons ed_int ea_nil) (Nat.le_of_ble_eq_true rfl)) ea_nil))))))))) (Nat.le_of_ble_eq_true rfl))) (xs_seq (xs_asg (d := .list [.bool true, .bool true, .bool true, .bool true, .bool true]) (ed_lst (ea_cons (ed_is (ed_call (R := R_is_level) (ea_cons (ed_tup (ea_cons ed_int (ea_cons (ed_op (ed_lst (ea_cons (ed_tup (ea_cons (ed_lst (ea_cons ed_int ea_nil) (Nat.le_of_ble_eq_true rfl)) (ea_cons ed_int (ea_cons ed_int ea_nil))) (Nat.le_of_ble_eq_true rfl)) ea_nil) (Nat.le_of_ble_eq_true rfl)) ed_int (r_rep ⟨by decide, by decide, Nat.le_of_ble_eq_true rfl⟩)) ea_nil)) (Nat.le_of_ble_eq_true rfl)) ea_nil) ⟨_, rfl, sz_lev (by decide +kernel), rfl⟩) (congrArg PyData.bool (show fitsLevel (.tuple [.int 7, .list (List.replicate (13 : Int).toNat [.tuple [.list [.int 6], .int 6, .int 1]]).flatten]) = true by decide +kernel))) (ea_cons (ed_is (ed_call (R := R_are_presses) (ea_cons (ed_var (i := 2) rfl) (ea_cons (ed_op (ed_lst (ea_cons (ed_lst ea_nil (Nat.le_of_ble_eq_true rfl)) ea_nil) (Nat.le_of_ble_eq_true rfl)) ed_int (r_rep ⟨by decide, by decide, Nat.le_of_ble_eq_true rfl⟩)) ea_nil)) ⟨_, _, _, rfl, lv3, sz_Sm (by decide +kernel), rfl⟩) (congrArg PyData.bool (show fitsPresses 3 (.list (List.replicate (31 : Int).toNat [.list []]).flatten) = true by decide +kernel))) (ea_cons (ed_is (ed_call (R := R_are_runs) (ea_cons (ed_var (i := 2) rfl) (ea_cons (ed_op (ed_lst (ea_cons (ed_tup (ea_cons (ed_lst ea_nil (Nat.le_of_ble_eq_true rfl)) (ea_cons ed_int ea_nil)) (Nat.le_of_ble_eq_true rfl)) ea_nil) (Nat.le_of_ble_eq_true rfl)) ed_int (r_rep ⟨by decide, by decide, Nat.le_of_ble_eq_true rfl⟩)) ea_nil)) ⟨_, _, _, rfl, lv3, sz_run (by decide +kernel), rfl⟩) (congrArg PyData.bool (show fitsRuns 3 (.list (List.replicate (13 : Int).toNat [.tuple [.list [], .int 1]]).flatten) = true by decide +kernel))) (ea_cons (ed_is (ed_call (R := R_are_endless) (ea_cons (ed_var (i := 2) rfl) (ea_cons (ed_tup (ea_cons (ed_op (ed_lst (ea_cons (ed_lst ea_nil (Nat.le_of_ble_eq_true rfl)) ea_nil) (Nat.le_of_ble_eq_true rfl)) ed_int (r_rep ⟨by decide, by decide, Nat.le_of_ble_eq_true rfl⟩)) (ea_cons (ed_op (ed_lst (ea_cons (ed_lst (ea_cons ed_int ea_nil) (Nat.le_of_ble_eq_true rfl)) ea_nil) (Nat.le_of_ble_eq_true rfl)) ed_int (r_rep ⟨by decide, by decide, Nat.le_of_ble_eq_true rfl⟩)) ea_nil)) (Nat.le_of_ble_eq_true rfl)) ea_nil)) ⟨_, _, _, rfl, lv3, sz_end (by decide +kernel), rfl⟩) (congrArg PyData.bool (show fitsEndless 3 (.tuple [.list (List.replicate (13 : Int).toNat [.list []]).flatten, .list (List.replicate (13 : Int).toNat [.list [.int 0]]).flatten]) = true by decide +kernel))) (ea_cons (ed_is (ed_call (R := R_are_letters) (ea_cons (ed_tup (ea_cons ed_int (ea_cons (ed_lst ea_nil (Nat.le_of_ble_eq_true rfl)) ea_nil)) (Nat.le_of_ble_eq_true rfl)) (ea_cons (ed_var (i := 4) rfl) ea_nil)) ⟨_, _, _, rfl, lv4, sz_Sm (by decide +kernel), rfl⟩) (congrArg PyData.bool (show fitsLetters 4 (.list [.list [], .list [.int 0], .list [.int 0, .int 1], .list [.int 0, .int 1, .int 2], .list [.int 0, .int 1, .int 2, .int 3], .list [.int 0, .int 2], .list [.int 1], .list [.int 1, .int 2], .list [.int 2]]) = true by decide +kernel))) ea_nil))))) (Nat.le_of_ble_eq_true rfl))) (xs_ret (ed_is (ed_and (a := true) (b := true) (ed_is (ed_op (ed_var (i := 3) rfl) (ed_lst (ea_cons ed_bl (ea_cons ed_bl (ea_cons ed_bl (ea_cons ed_bl ea_nil)))) (Nat.le_of_ble_eq_true rfl)) (r_eqA (by decide +kernel) (by decide +kernel))) (congrArg PyData.bool (by decide +kernel))) fun _ => ed_is (ed_op (ed_var (i := 5) rfl) (ed_op (ed_lst (ea_cons ed_bl ea_nil)) ed_int (r_rep ⟨by decide, by decide, Nat.le_of_ble_eq_true rfl⟩)) (r_eqA (by decide +kernel) (by decide +kernel))) (congrArg PyData.bool (by decide +kernel))) rfl)))))
    · have z' : (List.replicate 6 (none : Option PyData))[i]? = some (some d) := z
      rw [List.getElem?_replicate] at z'
      split at z' <;> cases z'
    · cases hd
      exact q H2
end
end TD

set_option maxHeartbeats 4000000
namespace TD
open PySem PySem.Spec PyProof.Rows L2
open Evl (Ex)
/-! # the end: what the top has written; the law's own head -/
theorem at_mk {K : Fg} {h : Heap} {mg : Str → Option Value} {x : Str} {st : Stmt} {f : Addr} {oc : Value} {od an : Option Addr} {osl : Array (Option Value)} {kV doc pm cdv ct : Value} (X : K.In h) (G : h.Ns mainGlobals mg) (a : PySem.W.nsIn K mainGlobals x = some (some (.ref f)))
    (l : K.lookup f = some ⟨oc, od, .func (PySem.W.fnOf x x (defArgs st) (defBody st) (defScope st) .none kV doc pm an cdv ct), osl⟩) (c : PySem.W.codeIn K cdv x = true) (k : PySem.W.keepIn K (.ref f) = true) : At K mg x st :=
  ⟨f, _, fun_mk l c k, PySem.W.mg_of X G a⟩
theorem all_mk {P : Program} {w : World} {K : Fg} {h : Heap} {mg : Str → Option Value} {fa : Addr} {t0 : Tok} (X : K.In h) (G : h.Ns mainGlobals mg) (hfa : mg "law" = some (.ref fa))
    (a_is_whole : At K mg "is_whole" s_is_whole)
    (a_is_count : At K mg "is_count" s_is_count)
    (a_is_tuple_of : At K mg "is_tuple_of" s_is_tuple_of)
    (a_fits_room : At K mg "fits_room" s_fits_room)
    (a_fits_lights : At K mg "fits_lights" s_fits_lights)
    (a_fits_presses : At K mg "fits_presses" s_fits_presses)
    (a_fits_door_within : At K mg "fits_door_within" s_fits_door_within)
    (a_fits_door : At K mg "fits_door" s_fits_door)
    (a_fits_level_with : At K mg "fits_level_with" s_fits_level_with)
    (a_fits_level : At K mg "fits_level" s_fits_level)
    (a__law_hash : At K mg "_law_hash" s__law_hash)
    (a__law_random : At K mg "_law_random" s__law_random)
    (a__law_cell : At K mg "_law_cell" s__law_cell)
    (a__law_generator : At K mg "_law_generator" s__law_generator)
    (a_fits_run : At K mg "fits_run" s_fits_run)
    (a_fits_runs : At K mg "fits_runs" s_fits_runs)
    (a_fits_endless : At K mg "fits_endless" s_fits_endless)
    (a_fits_letters : At K mg "fits_letters" s_fits_letters)
    (a_check_level : At K mg "check_level" s_check_level)
    (a_is_level : At K mg "is_level" s_is_level)
    (a_is_door : At K mg "is_door" s_is_door)
    (a_are_presses : At K mg "are_presses" s_are_presses)
    (a_are_runs : At K mg "are_runs" s_are_runs)
    (a_are_endless : At K mg "are_endless" s_are_endless)
    (a_are_letters : At K mg "are_letters" s_are_letters)
    (a__law_yes : At K mg "_law_yes" s__law_yes)
    (a__law_is_whole : At K mg "_law_is_whole" s__law_is_whole)
    (a__law_is_lights : At K mg "_law_is_lights" s__law_is_lights)
    (a__law_is_door : At K mg "_law_is_door" s__law_is_door)
    (a__law_is_level : At K mg "_law_is_level" s__law_is_level)
    (a__law_are_rows : At K mg "_law_are_rows" s__law_are_rows)
    (a__law_are_runs : At K mg "_law_are_runs" s__law_are_runs)
    (a__law_are_endless : At K mg "_law_are_endless" s__law_are_endless)
    (a__law_are_letters : At K mg "_law_are_letters" s__law_are_letters)
    (a__law_lights : At K mg "_law_lights" s__law_lights)
    (a__law_presses : At K mg "_law_presses" s__law_presses)
    (a__law_level : At K mg "_law_level" s__law_level)
    (a__law_values : At K mg "_law_values" s__law_values)
    (a__law_levels : At K mg "_law_levels" s__law_levels)
    (a__law_right : At K mg "_law_right" s__law_right)
    (a_law : At K mg "law" s_law)
    (z_NEXT : PySem.W.nsIn K mainGlobals "NEXT" = some (some (.int 1 t0)))
    (z_isinstance : PySem.W.nsIn K mainGlobals "isinstance" = some none)
    (z_int : PySem.W.nsIn K mainGlobals "int" = some none)
    (z_bool : PySem.W.nsIn K mainGlobals "bool" = some none)
    (z_list : PySem.W.nsIn K mainGlobals "list" = some none)
    (z_tuple : PySem.W.nsIn K mainGlobals "tuple" = some none)
    (z_len : PySem.W.nsIn K mainGlobals "len" = some none)
    (z_all : PySem.W.nsIn K mainGlobals "all" = some none)
    (z_sorted : PySem.W.nsIn K mainGlobals "sorted" = some none)
    (z_set : PySem.W.nsIn K mainGlobals "set" = some none)
    (z_range : PySem.W.nsIn K mainGlobals "range" = some none)
    (z_max : PySem.W.nsIn K mainGlobals "max" = some none)
    (z_sum : PySem.W.nsIn K mainGlobals "sum" = some none)
    (z_repr : PySem.W.nsIn K mainGlobals "repr" = some none)
    : ∃ fd : FuncData, (∀ (s : Shared) (v : Value), BindsTo s fd ⟨[v], []⟩ [("_law_script", v)]) ∧ ∀ base : Heap, K.In base → base.Ns mainGlobals mg → (∃ mm, base.Ns sysModules mm) → FnG P w K mg base CX0 12 fa fd ["_law_script"] (spLaw1 K) := by
  have BN_ : BN mg t0 := ⟨PySem.W.mg_of X G z_NEXT⟩
  have Bl_ : Bl mg := ⟨PySem.W.mg_none_of X G z_isinstance, PySem.W.mg_none_of X G z_int, PySem.W.mg_none_of X G z_bool, PySem.W.mg_none_of X G z_list, PySem.W.mg_none_of X G z_tuple, PySem.W.mg_none_of X G z_len, PySem.W.mg_none_of X G z_all⟩
  have B3_ : B3 mg := ⟨PySem.W.mg_none_of X G z_len, PySem.W.mg_none_of X G z_all, PySem.W.mg_none_of X G z_range⟩
  have Bg_ : Bg mg := ⟨PySem.W.mg_none_of X G z_int, PySem.W.mg_none_of X G z_len, PySem.W.mg_none_of X G z_max, PySem.W.mg_none_of X G z_sum, PySem.W.mg_none_of X G z_range⟩
  have B5k_ : B5k mg := ⟨PySem.W.mg_none_of X G z_isinstance, PySem.W.mg_none_of X G z_int, PySem.W.mg_none_of X G z_bool, PySem.W.mg_none_of X G z_list, PySem.W.mg_none_of X G z_tuple, PySem.W.mg_none_of X G z_len, PySem.W.mg_none_of X G z_sorted, PySem.W.mg_none_of X G z_set, PySem.W.mg_none_of X G z_range⟩
  have B9_ : B9 mg := ⟨PySem.W.mg_none_of X G z_sorted⟩
  have B10_ : B10 mg := ⟨PySem.W.mg_none_of X G z_tuple⟩
  have B11_ : B11 mg := ⟨PySem.W.mg_none_of X G z_repr⟩
  obtain ⟨f, fd, F, hm⟩ := a_law
  have e := hfa.symm.trans hm
  cases e
  refine ⟨fd, ?_, fun base _ _ sm => ?_⟩
  · obtain ⟨oc, od, kV, doc, pm, an, cdv, ct, osl, rfl, lk, hcd⟩ := F.ex
    exact fun s v => .of_eq rfl
  · have c_is_whole := f_is_whole (P := P) (w := w) (base := base) (T := Bl_) (a := a_is_whole)
    have c_is_count := f_is_count (P := P) (w := w) (base := base) (a := a_is_count) (c_is_whole := c_is_whole)
    have c_is_tuple_of := f_is_tuple_of (P := P) (w := w) (base := base) (T := Bl_) (a := a_is_tuple_of)
    have c_fits_room := f_fits_room (P := P) (w := w) (base := base) (a := a_fits_room) (c_is_count := c_is_count)
    have c_fits_lights := f_fits_lights (P := P) (w := w) (base := base) (T := Bl_) (a := a_fits_lights) (c_fits_room := c_fits_room)
    have c_fits_presses := f_fits_presses (P := P) (w := w) (base := base) (T := Bl_) (a := a_fits_presses) (c_fits_lights := c_fits_lights)
    have c_fits_door_within := f_fits_door_within (P := P) (w := w) (base := base) (a := a_fits_door_within) (c_is_tuple_of := c_is_tuple_of) (c_fits_lights := c_fits_lights) (c_fits_room := c_fits_room) (c_is_whole := c_is_whole)
    have c_fits_door := f_fits_door (P := P) (w := w) (base := base) (T := BN_) (a := a_fits_door) (c_fits_door_within := c_fits_door_within)
    obtain ⟨fda, hfda⟩ : ∃ a, mg "fits_door" = some (.ref a) := let ⟨f, _, h, _⟩ := c_fits_door; ⟨f, h⟩
    have c_fits_level_with := f_fits_level_with (P := P) (w := w) (base := base) (T := Bl_) (a := a_fits_level_with) (hone := ⟨_, _, c_fits_door, hfda⟩) (c_is_tuple_of := c_is_tuple_of) (c_is_whole := c_is_whole)
    have c_fits_level := f_fits_level (P := P) (w := w) (base := base) (a := a_fits_level) (m_fits_door := hfda) (c_fits_level_with := c_fits_level_with)
    have c__law_hash := f__law_hash (P := P) (w := w) (base := base) (T := Bg_) (a := a__law_hash)
    have c__law_random := f__law_random (P := P) (w := w) (base := base) (T := Bg_) (a := a__law_random) (c__law_hash := c__law_hash)
    have c__law_cell := f__law_cell (P := P) (w := w) (base := base) (T := Bg_) (a := a__law_cell)
    have c__law_generator := f__law_generator (P := P) (w := w) (base := base) (T := Bg_) (a := a__law_generator) (c__law_cell := c__law_cell)
    have c_fits_run := f_fits_run (P := P) (w := w) (base := base) (a := a_fits_run) (c_is_tuple_of := c_is_tuple_of) (c_fits_lights := c_fits_lights) (c_is_count := c_is_count)
    have c_fits_runs := f_fits_runs (P := P) (w := w) (base := base) (T := Bl_) (a := a_fits_runs) (c_fits_run := c_fits_run)
    have c_fits_endless := f_fits_endless (P := P) (w := w) (base := base) (T := Bl_) (a := a_fits_endless) (c_is_tuple_of := c_is_tuple_of) (c_fits_presses := c_fits_presses)
    have c_fits_letters := f_fits_letters (P := P) (w := w) (base := base) (T := B3_) (a := a_fits_letters) (sm := sm) (c_fits_presses := c_fits_presses)
    have c_check_level := f_check_level (P := P) (w := w) (base := base) (a := a_check_level) (c_fits_level := c_fits_level)
    obtain ⟨c_is_level, k_is_level⟩ := f_is_level (P := P) (w := w) (base := base) (a := a_is_level) (c_fits_level := c_fits_level)
    obtain ⟨c_is_door, k_is_door⟩ := f_is_door (P := P) (w := w) (base := base) (a := a_is_door) (c_is_whole := c_is_whole) (c_fits_door := c_fits_door)
    obtain ⟨c_are_presses, k_are_presses⟩ := f_are_presses (P := P) (w := w) (base := base) (a := a_are_presses) (c_check_level := c_check_level) (c_fits_presses := c_fits_presses)
    obtain ⟨c_are_runs, k_are_runs⟩ := f_are_runs (P := P) (w := w) (base := base) (a := a_are_runs) (c_check_level := c_check_level) (c_fits_runs := c_fits_runs)
    obtain ⟨c_are_endless, k_are_endless⟩ := f_are_endless (P := P) (w := w) (base := base) (a := a_are_endless) (c_check_level := c_check_level) (c_fits_endless := c_fits_endless)
    obtain ⟨c_are_letters, k_are_letters⟩ := f_are_letters (P := P) (w := w) (base := base) (a := a_are_letters) (c_check_level := c_check_level) (c_fits_letters := c_fits_letters)
    have c__law_yes := f__law_yes (P := P) (w := w) (base := base) (T := B5k_) (a := a__law_yes)
    have c__law_is_whole := f__law_is_whole (P := P) (w := w) (base := base) (T := B5k_) (a := a__law_is_whole)
    have c__law_is_lights := f__law_is_lights (P := P) (w := w) (base := base) (T := B5k_) (a := a__law_is_lights) (sm := sm) (c__law_is_whole := c__law_is_whole)
    have c__law_is_door := f__law_is_door (P := P) (w := w) (base := base) (T := B5k_) (a := a__law_is_door) (c__law_is_whole := c__law_is_whole) (c__law_is_lights := c__law_is_lights)
    have c__law_is_level := f__law_is_level (P := P) (w := w) (base := base) (T := B5k_) (a := a__law_is_level) (c__law_is_whole := c__law_is_whole) (c__law_is_door := c__law_is_door)
    have c__law_are_rows := f__law_are_rows (P := P) (w := w) (base := base) (T := B5k_) (a := a__law_are_rows) (c__law_is_lights := c__law_is_lights)
    have c__law_are_runs := f__law_are_runs (P := P) (w := w) (base := base) (T := B5k_) (a := a__law_are_runs) (c__law_is_lights := c__law_is_lights) (c__law_is_whole := c__law_is_whole)
    have c__law_are_endless := f__law_are_endless (P := P) (w := w) (base := base) (T := B5k_) (a := a__law_are_endless) (c__law_are_rows := c__law_are_rows)
    have c__law_are_letters := f__law_are_letters (P := P) (w := w) (base := base) (T := B5k_) (a := a__law_are_letters) (sm := sm) (c__law_are_rows := c__law_are_rows)
    have c__law_lights := f__law_lights (P := P) (w := w) (base := base) (T := Bg_) (a := a__law_lights) (c__law_random := c__law_random)
    have c__law_presses := f__law_presses (P := P) (w := w) (base := base) (T := Bg_) (a := a__law_presses) (c__law_random := c__law_random) (c__law_lights := c__law_lights)
    have c__law_level := f__law_level (P := P) (w := w) (base := base) (T := Bg_) (a := a__law_level) (c__law_random := c__law_random) (c__law_lights := c__law_lights)
    have c__law_values := f__law_values (P := P) (w := w) (base := base) (T := B9_) (a := a__law_values) (sm := sm) (c__law_random := c__law_random) (c__law_lights := c__law_lights) (c__law_presses := c__law_presses)
    have c__law_levels := f__law_levels (P := P) (w := w) (base := base) (T := B10_) (a := a__law_levels) (c__law_values := c__law_values)
    have c__law_right := f__law_right (P := P) (w := w) (base := base) (T := B11_) (a := a__law_right) (sm := sm) (c__law_level := c__law_level) (c__law_levels := c__law_levels) (c__law_values := c__law_values) (c__law_yes := c__law_yes) (c__law_is_level := c__law_is_level) (c__law_is_door := c__law_is_door) (c__law_are_rows := c__law_are_rows) (c__law_are_runs := c__law_are_runs) (c__law_are_endless := c__law_are_endless) (c__law_are_letters := c__law_are_letters) (c_is_level := c_is_level) (k_is_level := k_is_level) (c_is_door := c_is_door) (k_is_door := k_is_door) (c_are_presses := c_are_presses) (k_are_presses := k_are_presses) (c_are_runs := c_are_runs) (k_are_runs := k_are_runs) (c_are_endless := c_are_endless) (k_are_endless := k_are_endless) (c_are_letters := c_are_letters) (k_are_letters := k_are_letters)
    exact f_law (T := Bg_) (sm := sm) (c__law_generator := c__law_generator) (c__law_right := c__law_right) (c_is_level := c_is_level) (c_are_presses := c_are_presses) (c_are_runs := c_are_runs) (c_are_endless := c_are_endless) (c_are_letters := c_are_letters) F
end TD
open PySem PySem.W PyProof.Rows
set_option maxHeartbeats 0 in
theorem PySem.Challenge.cw_timedoors_k01_levels_presses_and_runs_holds : PySem.Challenge.rw_timedoors_k01_levels_presses_and_runs.Holds := by
  w_on; o_law; k_head; (case hw => w_witness2)
  k_fill
  refine TD.walkG (l := PySem.Challenge.rw_timedoors_k01_levels_presses_and_runs) (n := 63) (k := 12) (x := "_law_script") (CX := fun _ => L2.CX0) (sp := fun w => TD.spLaw1 _) rfl (by decide) rfl rfl ⟨rfl, by decide, by decide⟩ (fun w h Y => PySem.W.kIn_of Y) ?F (fun _ _ a ns hl _ hS => ⟨a, ns, rfl, hS, fun _ => rfl⟩) (fun _ _ _ _ _ h => h)
  case F =>
    intro w mg fa h KX G hmg
    refine' TD.all_mk KX G hmg ?a_is_whole ?a_is_count ?a_is_tuple_of ?a_fits_room ?a_fits_lights ?a_fits_presses ?a_fits_door_within ?a_fits_door ?a_fits_level_with ?a_fits_level ?a__law_hash ?a__law_random ?a__law_cell ?a__law_generator ?a_fits_run ?a_fits_runs ?a_fits_endless ?a_fits_letters ?a_check_level ?a_is_level ?a_is_door ?a_are_presses ?a_are_runs ?a_are_endless ?a_are_letters ?a__law_yes ?a__law_is_whole ?a__law_is_lights ?a__law_is_door ?a__law_is_level ?a__law_are_rows ?a__law_are_runs ?a__law_are_endless ?a__law_are_letters ?a__law_lights ?a__law_presses ?a__law_level ?a__law_values ?a__law_levels ?a__law_right ?a_law ?z_NEXT ?z_isinstance ?z_int ?z_bool ?z_list ?z_tuple ?z_len ?z_all ?z_sorted ?z_set ?z_range ?z_max ?z_sum ?z_repr
    (case a_is_whole => refine' TD.at_mk KX G ?a ?l ?c ?k; (case a => k_is); (case l => k_is); (case c => k_is); (case k => k_is))
    (case a_is_count => refine' TD.at_mk KX G ?a ?l ?c ?k; (case a => k_is); (case l => k_is); (case c => k_is); (case k => k_is))
    (case a_is_tuple_of => refine' TD.at_mk KX G ?a ?l ?c ?k; (case a => k_is); (case l => k_is); (case c => k_is); (case k => k_is))
    (case a_fits_room => refine' TD.at_mk KX G ?a ?l ?c ?k; (case a => k_is); (case l => k_is); (case c => k_is); (case k => k_is))
    (case a_fits_lights => refine' TD.at_mk KX G ?a ?l ?c ?k; (case a => k_is); (case l => k_is); (case c => k_is); (case k => k_is))
    (case a_fits_presses => refine' TD.at_mk KX G ?a ?l ?c ?k; (case a => k_is); (case l => k_is); (case c => k_is); (case k => k_is))
    (case a_fits_door_within => refine' TD.at_mk KX G ?a ?l ?c ?k; (case a => k_is); (case l => k_is); (case c => k_is); (case k => k_is))
    (case a_fits_door => refine' TD.at_mk KX G ?a ?l ?c ?k; (case a => k_is); (case l => k_is); (case c => k_is); (case k => k_is))
    (case a_fits_level_with => refine' TD.at_mk KX G ?a ?l ?c ?k; (case a => k_is); (case l => k_is); (case c => k_is); (case k => k_is))
    (case a_fits_level => refine' TD.at_mk KX G ?a ?l ?c ?k; (case a => k_is); (case l => k_is); (case c => k_is); (case k => k_is))
    (case a__law_hash => refine' TD.at_mk KX G ?a ?l ?c ?k; (case a => k_is); (case l => k_is); (case c => k_is); (case k => k_is))
    (case a__law_random => refine' TD.at_mk KX G ?a ?l ?c ?k; (case a => k_is); (case l => k_is); (case c => k_is); (case k => k_is))
    (case a__law_cell => refine' TD.at_mk KX G ?a ?l ?c ?k; (case a => k_is); (case l => k_is); (case c => k_is); (case k => k_is))
    (case a__law_generator => refine' TD.at_mk KX G ?a ?l ?c ?k; (case a => k_is); (case l => k_is); (case c => k_is); (case k => k_is))
    (case a_fits_run => refine' TD.at_mk KX G ?a ?l ?c ?k; (case a => k_is); (case l => k_is); (case c => k_is); (case k => k_is))
    (case a_fits_runs => refine' TD.at_mk KX G ?a ?l ?c ?k; (case a => k_is); (case l => k_is); (case c => k_is); (case k => k_is))
    (case a_fits_endless => refine' TD.at_mk KX G ?a ?l ?c ?k; (case a => k_is); (case l => k_is); (case c => k_is); (case k => k_is))
    (case a_fits_letters => refine' TD.at_mk KX G ?a ?l ?c ?k; (case a => k_is); (case l => k_is); (case c => k_is); (case k => k_is))
    (case a_check_level => refine' TD.at_mk KX G ?a ?l ?c ?k; (case a => k_is); (case l => k_is); (case c => k_is); (case k => k_is))
    (case a_is_level => refine' TD.at_mk KX G ?a ?l ?c ?k; (case a => k_is); (case l => k_is); (case c => k_is); (case k => k_is))
    (case a_is_door => refine' TD.at_mk KX G ?a ?l ?c ?k; (case a => k_is); (case l => k_is); (case c => k_is); (case k => k_is))
    (case a_are_presses => refine' TD.at_mk KX G ?a ?l ?c ?k; (case a => k_is); (case l => k_is); (case c => k_is); (case k => k_is))
    (case a_are_runs => refine' TD.at_mk KX G ?a ?l ?c ?k; (case a => k_is); (case l => k_is); (case c => k_is); (case k => k_is))
    (case a_are_endless => refine' TD.at_mk KX G ?a ?l ?c ?k; (case a => k_is); (case l => k_is); (case c => k_is); (case k => k_is))
    (case a_are_letters => refine' TD.at_mk KX G ?a ?l ?c ?k; (case a => k_is); (case l => k_is); (case c => k_is); (case k => k_is))
    (case a__law_yes => refine' TD.at_mk KX G ?a ?l ?c ?k; (case a => k_is); (case l => k_is); (case c => k_is); (case k => k_is))
    (case a__law_is_whole => refine' TD.at_mk KX G ?a ?l ?c ?k; (case a => k_is); (case l => k_is); (case c => k_is); (case k => k_is))
    (case a__law_is_lights => refine' TD.at_mk KX G ?a ?l ?c ?k; (case a => k_is); (case l => k_is); (case c => k_is); (case k => k_is))
    (case a__law_is_door => refine' TD.at_mk KX G ?a ?l ?c ?k; (case a => k_is); (case l => k_is); (case c => k_is); (case k => k_is))
    (case a__law_is_level => refine' TD.at_mk KX G ?a ?l ?c ?k; (case a => k_is); (case l => k_is); (case c => k_is); (case k => k_is))
    (case a__law_are_rows => refine' TD.at_mk KX G ?a ?l ?c ?k; (case a => k_is); (case l => k_is); (case c => k_is); (case k => k_is))
    (case a__law_are_runs => refine' TD.at_mk KX G ?a ?l ?c ?k; (case a => k_is); (case l => k_is); (case c => k_is); (case k => k_is))
    (case a__law_are_endless => refine' TD.at_mk KX G ?a ?l ?c ?k; (case a => k_is); (case l => k_is); (case c => k_is); (case k => k_is))
    (case a__law_are_letters => refine' TD.at_mk KX G ?a ?l ?c ?k; (case a => k_is); (case l => k_is); (case c => k_is); (case k => k_is))
    (case a__law_lights => refine' TD.at_mk KX G ?a ?l ?c ?k; (case a => k_is); (case l => k_is); (case c => k_is); (case k => k_is))
    (case a__law_presses => refine' TD.at_mk KX G ?a ?l ?c ?k; (case a => k_is); (case l => k_is); (case c => k_is); (case k => k_is))
    (case a__law_level => refine' TD.at_mk KX G ?a ?l ?c ?k; (case a => k_is); (case l => k_is); (case c => k_is); (case k => k_is))
    (case a__law_values => refine' TD.at_mk KX G ?a ?l ?c ?k; (case a => k_is); (case l => k_is); (case c => k_is); (case k => k_is))
    (case a__law_levels => refine' TD.at_mk KX G ?a ?l ?c ?k; (case a => k_is); (case l => k_is); (case c => k_is); (case k => k_is))
    (case a__law_right => refine' TD.at_mk KX G ?a ?l ?c ?k; (case a => k_is); (case l => k_is); (case c => k_is); (case k => k_is))
    (case a_law => refine' TD.at_mk KX G ?a ?l ?c ?k; (case a => k_is); (case l => k_is); (case c => k_is); (case k => k_is))
    (case z_NEXT => k_is)
    (case z_isinstance => k_is)
    (case z_int => k_is)
    (case z_bool => k_is)
    (case z_list => k_is)
    (case z_tuple => k_is)
    (case z_len => k_is)
    (case z_all => k_is)
    (case z_sorted => k_is)
    (case z_set => k_is)
    (case z_range => k_is)
    (case z_max => k_is)
    (case z_sum => k_is)
    (case z_repr => k_is)
