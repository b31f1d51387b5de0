import PyProof.Rows.All
import Wide.All
import OpenK.AllK
import Wide.FinOn
import HandS.ForMost
import HandS.IsInst
import HandS.Evl
import HandS.WideBits
import HandS.Wide
import HandS.Flow
import HandS.Style
import HandS.SortInts
import HandS.Strs
import HandS.Conv
import HandS.TupLe
import HandS.Defaults
import HandS.Small
import KE.DataCmp
import HandS.SetFor
import KE.SortData
import HandS.CallLocal
import HandS.ExcInit
import HandS.ExcIs
import HandS.ExcValue
import HandS.ExcOwn
import KE.KExcIs
import HandS.DeepEq
import HandS.TryMany
import HandS.Zip
import HandS.Text
import HandS.Lambda
import HandS.EndTab
import HandS.Walk
import HandS.SetBool
import HandS.Deep
import KE.KDictZip
import PyProof.ZipIter
import HandS.DictComp
import KE.DataMinMax
import HandS.SortKw
import KE.KRevSl
import KE.DataMinKey
import KE.LtData
import HandS.TupSets
import HandS.Keys
import PySem.Challenge.RW_timedoors_k07_whole_light
set_option Elab.async false
set_option linter.all false
set_option maxRecDepth 100000
set_option maxHeartbeats 4000000
namespace TD
open PySem PySem.Spec PyProof.Rows L2
structure FnG (P : Program) (w : World) (K : PySem.W.Frag) (mg : Str → Option Value) (base : Heap) (CX : CXT) (k : Nat) (f : Addr) (fd : FuncData) (ps : List Str) (sp : Sp) : Prop where
  ln : ∀ vs H Q E, sp vs H Q E → vs.length = ps.length
  go : ∀ (A : Around) (outer : List Env) (s : Shared) (H : Hp) (args : Args) (us : List Value) (vs : List V) (Q : VK) (E : XK),
    A.guards = some [] → Room k A → Env0 P w K mg base A outer s H → BindsTo s fd args (ps.zip us) → Vals vs us → sp vs H Q E →
    codeAny (model P w) A (.call (.ref f) args) (CR CX outer P w H s Q E) s
section
variable {P : Program} {w : World} {K : PySem.W.Frag} {mg : Str → Option Value} {base : Heap}
theorem FnG.up {CX : CXT} {j k : Nat} {f : Addr} {fd : FuncData} {ps : List Str} {sp : Sp} (F : FnG P w K mg base CX j f fd ps sp) (h : j ≤ k) :
    FnG P w K mg base CX k f fd ps sp := ⟨F.ln, fun A o s H a us vs Q E g r => F.go A o s H a us vs Q E g (r.mono h)⟩
theorem FnG.of {CX : CXT} {k : Nat} {f : Addr} {fd : FuncData} {ps : List Str} {sp : Sp} (F : FnOk P w K mg base CX k f fd ps sp) :
    FnG P w K mg base CX k f fd ps sp := ⟨F.len, fun A o s H a us vs Q E _ r => F.run A o s H a us vs Q E r⟩
theorem fnG {CX : CXT} {x qual : Str} {st : Stmt} {f : Addr} {fd : FuncData} {N ps : List Str} {k : Nat} {sp : Sp} (F : Fun K x qual st f fd) (S : FnScope N ps (defScope st))
    (ln : ∀ vs H Q E, sp vs H Q E → vs.length = ps.length)
    (body : ∀ (cdv : Value) (A : Around) (outer : List Env) (s : Shared) (H : Hp) (vs : List V) (Q : VK) (E : XK),
      A.guards = some [] → Room k (A.deeper (envOfC qual (defScope st) s.heap.objs.size f cdv)) → sp vs H Q E →
      ∃ t, PSs (cxOf CX P w K mg base N qual (defScope st) f cdv A outer s H E) (defBody st) t ∧ t { nx := fun _ H' => Q .non H', rt := Q } (start N vs) H) :
    FnG P w K mg base CX (k + 1) f fd ps sp := by
  obtain ⟨oc, od, kV, doc, pm, an, cdv, ct, osl, rfl, lk, hcd⟩ := F.ex
  refine ⟨ln, ?_⟩
  intro A outer s H args us vs Q E hg hr e0 hb r hsp
  have keepB : ∀ b o, base.get? b = some o → s.heap.get? b = some o := fun b o e => (e0.bs b o e).1
  have inK : K.In s.heap := e0.mod.kin.keeps keepB
  have noLim : s.heap.NoLimit := e0.mod.nolimit.keeps keepB
  have kinds : ∀ y ∈ ps.zip us, (defScope st).names.lookup y.1 = some .local ∨
      ((defScope st).names.lookup y.1 = some .cell ∧ ((cellsFrom (s.heap.objs.size + 1) (defScope st).names []).lookup y.1).isSome = true) := by
    intro ⟨nm, u⟩ hy
    rcases S.par nm (List.of_mem_zip hy).1 with z | z
    · exact Or.inl z
    · exact Or.inr ⟨z, PySem.W.cellsFrom_some _ _ _ (Or.inl z)⟩
  refine codeAny_call_function hr.depth (inK _ _ lk) rfl S.co S.gen rfl (PySem.W.codeRec_of inK hcd) (hb _ _ _ _ ?_)
  refine wpAny_newFunctionEnv_cells S.kind kinds fun en hen s1 x1 => ?_
  subst hen
  refine ⟨noLim.keeps x1.toInCall.keep, codeAny_func ?_⟩
  obtain ⟨t, ht, hq⟩ := body cdv A outer s H vs Q E hg (hr.deeper _) hsp
  have I1 : Inv (cxOf CX P w K mg base N qual (defScope st) f cdv A outer s H E) [] (start N vs) H s1 := inv_start S hr.hd e0 (ln _ _ _ _ hsp) r x1
  refine wpAny_mono (ht.run [] s1 (start N vs) H _ I1 hq) ?_ (fun _ _ z => z)
  intro fl s2 hs
  match fl, hs with
  | .ret u, ⟨v, _, H2, J, rv, q⟩ => exact ⟨v, H2, J.os, J.bare, J.base, J.hok, rv, q⟩
  | .next, ⟨_, H2, J, q⟩ => exact ⟨V.non, H2, J.os, J.bare, J.base, J.hok, rfl, q⟩
  | .brk, ⟨_, _, _, q⟩ => exact q.elim
  | .cont, ⟨_, _, _, q⟩ => exact q.elim
end
section
variable {X : Cx} {CX : CXT} {k : Nat} {f : Addr} {fd : FuncData} {ps ks : List Str} {sp : Sp} {dvs : List V} {ds : List Value} {E : XK} {x : Str} {p pos : Pos} {e : Expr} {es : List Expr} {t tk : TA} {kws : List Keyword}
  {g : List Value → List Value → List Value} {gV : List V → List V → List V}
theorem runG {pins : List (Addr × Obj)} {σ : L2.St} {H : Hp} {s : Shared} {Q : VK} {us us2 : List Value} {kw : List (Str × Value)} {vs : List V}
    (F : FnG X.prog X.w X.K X.mg X.base CX k f fd ps sp) (hg : X.A.guards = some []) (hr : Room k X.A)
    (hb : BindsTo s fd ⟨us2, kw⟩ (ps.zip us)) (hx : Passes CX X E) (I : Inv X pins σ H s) (r : Vals vs us) (h : sp vs H Q E) :
    wpAny (model X.prog X.w) X.A (call (.ref f) us2 kw) (EP X pins σ Q) X.xe s := by
  refine wpAny_call (codeAny_mono (F.go X.A X.stack s H _ us vs Q E hg hr I.env0 hb r h) ?_)
  intro rs s2 hq
  match rs, hq with
  | .error e, hq => exact hx pins σ H s e s2 I hq
  | .ok (.ret u), hq => exact I.after hq
  | .ok .next, hq => exact hq.elim
  | .ok .brk, hq => exact hq.elim
  | .ok .cont, hq => exact hq.elim
theorem pe_g (F : FnG X.prog X.w X.K X.mg X.base CX k f fd ps sp) (gu : X.A.guards = some []) (hr : Room k X.A) (hg : Gl X x) (hm : X.mg x = some (.ref f))
    (hk : PySem.W.keepIn X.K (.ref f) = true) (hb : Binds X.K fd ps []) (hx : Passes CX X E) (ha : PA X (e :: es) t)
    (d1 : (x == ("__debug__" : Str)) = false := by decide)
    (d2 : starEach (e :: es) X.env = (false, eval e X.env) :: starEach es X.env := by rfl)
    (d3 : (backTo pos (starEach es X.env)).any (·.1) = false := by rfl) :
    PE X (.Call (.Name x p) (e :: es) [] pos) (tCall sp [] E t) := by
  refine ⟨fun pins s σ H Q I h => wpAny_Call_Name_kw (ld_glob I hg hm ?_ d1)⟩
  refine PySem.W.callWith_K (h₀ := X.base) I.ok.mod.kin hk (thn (ha.run pos pins s σ H _ I h) ?_) d2 d3
  intro us s1 ⟨vs, H1, I1, r, q⟩
  have q' : sp vs H1 Q E := by
    have z : sp (vs ++ []) H1 Q E := q
    rw [List.append_nil] at z
    exact z
  have b := hb s1 us I1.kIn (by rw [List.append_nil, ← r.length]; exact F.ln _ _ _ _ q')
  rw [List.append_nil] at b
  exact ⟨I1.kIn, runG F gu hr b hx I1 r q'⟩
structure KAll (fd : FuncData) (ps ks : List Str) (g : List Value → List Value) (gV : List V → List V) : Prop where
  to : ∀ ws : List Value, ws.length = ks.length → bindArgs fd ⟨[], ks.zip ws⟩ = pure (ps.zip (g ws))
  rel : ∀ {zs : List V} {ws : List Value}, zs.length = ks.length → Vals zs ws → Vals (gV zs) (g ws)
def tCallKw (n : Nat) (sp : Sp) (gV : List V → List V) (E : XK) (tk : TA) : TE := fun σ H Q => tk σ H fun zs H2 => zs.length = n ∧ sp (gV zs) H2 Q E
theorem pe_gk {g1 : List Value → List Value} {gV1 : List V → List V} (F : FnG X.prog X.w X.K X.mg X.base CX k f fd ps sp) (gu : X.A.guards = some []) (hr : Room k X.A) (hg : Gl X x) (hm : X.mg x = some (.ref f))
    (hk : PySem.W.keepIn X.K (.ref f) = true) (hb : KAll fd ps ks g1 gV1) (hx : Passes CX X E) (hkw : PK X kws tk)
    (d1 : (x == ("__debug__" : Str)) = false := by decide)
    (d2 : (backToKw pos (keywordEach kws X.env)).all (·.1.isSome) = true := by rfl)
    (d3 : (backToKw pos (keywordEach kws X.env)).filterMap (·.1) = ks := by rfl)
    (d4 : ((backTo pos (starEach [] X.env)).any (·.1) || (backToKw pos (keywordEach kws X.env)).any (·.1.isNone)) = false := by rfl) :
    PE X (.Call (.Name x p) [] kws pos) (tCallKw ks.length sp gV1 E tk) := by
  refine ⟨fun pins s σ H Q I h => wpAny_Call_Name_kw (ld_glob I hg hm ?_ d1)⟩
  refine PySem.W.callWith_KW0 (h₀ := X.base) I.ok.mod.kin hk d2 (thn (hkw.run pos pins s σ H _ I h) ?_) d4
  intro ws s2 ⟨zs, H2, I2, rz, hl, q⟩
  refine ⟨I2.kIn, ?_⟩
  rw [d3]
  exact runG (us := g1 ws) F gu hr (.of_eq (hb.to ws (rz.length.symm.trans hl))) hx I2 (hb.rel hl rz) q
end
section
theorem lawG {P : Program} {w : World} {K : PySem.W.Frag} {mg mb : Str → Option Value} {CX : CXT} {k : Nat} {fa a : Addr} {fd : FuncData} {x : Str} {sp : Sp} {s1 : Shared} {vs : List Value} {ns : List Int}
    (inK : K.In s1.heap) (hgl : s1.heap.Ns mainGlobals mg) (hbu : s1.heap.Ns builtinsNs mb) (hbb : ∀ x : Str, x ≠ "__name__" → mb x = bootBuiltins x) (lim : s1.heap.NoLimit) (see : s1.heap.NoSeer) (gen : s1.gens = #[])
    (at_ : s1.heap.get? a = some { cls := .type "list", data := .seq vs.toArray }) (hints : IntsAre vs ns) (len : ns.length ≤ sizeLine) (room : Room k callerA)
    (F : ∀ base : Heap, K.In base → base.Ns mainGlobals mg → (∃ mm, base.Ns sysModules mm) → FnG P w K mg base CX k fa fd [x] sp) (bind : ∀ (s : Shared) (u : Value), BindsTo s fd ⟨[u], []⟩ [(x, u)])
    (hsp : ∀ H : Hp, Only H → SqL K H a (ns.map V.int) → sp [.ref a] H (fun v _ => v = .bl true) fun _ _ _ => False)
    (hCX : ∀ H e s', CX [] H s1 (fun _ _ _ => False) e s' → False) :
    codeAny (model P w) callerA (.call (.ref fa) ⟨[.ref a], []⟩) (fun r s' => r = .ok (.ret (.bool true)) ∧ OldK s1.heap s'.heap ∧ s'.os = s1.os ∧ AllBare s'.gens) s1 := by
  have relV := vals_ints hints
  have lenV := hints.length
  have key : ∀ H : Hp, Only H → SqL K H a (ns.map V.int) → HOk P w H s1.heap → (∀ b, H b ≠ none → b = a) → (H a ≠ none → K.lookup a = none) →
      codeAny (model P w) callerA (.call (.ref fa) ⟨[.ref a], []⟩) (fun r s' => r = .ok (.ret (.bool true)) ∧ OldK s1.heap s'.heap ∧ s'.os = s1.os ∧ AllBare s'.gens) s1 := by
    intro H only hS ok one nk
    have not_a : ∀ {b : Addr} {o : Obj} {es : Array DictEntry} {ep : Nat}, s1.heap.get? b = some o → o.data = .dict es ep → H b = none := by
      intro b o es ep e d
      by_cases z : H b = none
      · exact z
      · have hb := one b z
        rw [hb, at_] at e
        cases e
        exact nomatch (show Data.seq vs.toArray _ = Data.dict es ep from d)
    have ns_ : ∀ {b : Addr} {m : Str → Option Value}, s1.heap.Ns b m → (hidT s1.heap H).Ns b m := by
      intro b m ⟨o, es, ep, e, d, r⟩
      exact ⟨o, es, ep, hidT_get e (not_a e d), d, r⟩
    have inB : K.In (hidT s1.heap H) := by
      intro b o e
      refine hidT_get (inK b o e) ?_
      by_cases z : H b = none
      · exact z
      · have hb := one b z
        rw [hb] at z e
        rw [nk z] at e
        cases e
    obtain ⟨mc, l1, l2⟩ := lim
    have md : Mod K mg (hidT s1.heap H) := ⟨inB, ns_ hgl, ⟨mb, ns_ hbu, hbb⟩, ⟨mc, ns_ l1, l2⟩⟩
    have e0 : Env0 P w K mg (hidT s1.heap H) callerA [] s1 H :=
      ⟨rfl, md, fun b o e => of_hidT e, Nat.le_of_eq (hidT_size _ _), trivial, (fun b hb => nomatch (show b ∈ ([] : List Addr) from hb)), ok, .of_eq gen⟩
    obtain ⟨mm, sm, _⟩ := see.mods
    refine codeAny_mono ((F _ inB (ns_ hgl) ⟨mm, ns_ sm⟩).go callerA [] s1 H ⟨[.ref a], []⟩ [.ref a] [.ref a] _ _ rfl room e0 (bind s1 (.ref a)) (.cons rfl .nil) (hsp H only hS)) ?_
    intro r s2 h
    match r, h with
    | .error e, h => exact (hCX H e s2 h).elim
    | .ok .next, h => exact False.elim h
    | .ok .brk, h => exact False.elim h
    | .ok .cont, h => exact False.elim h
    | .ok (.ret u), ⟨v, H2, os, bare, un, ok2, r2, q⟩ =>
      have qv : v = .bl true := q
      subst qv
      have ru : u = Value.bool true := r2
      subst ru
      refine ⟨rfl, OldK.of_keep ?_, os, bare⟩
      intro b o e
      rcases only b with z | ⟨ob, xs, z⟩
      · exact un.keep b o e z (fun y => nomatch (show b ∈ ([] : List Addr) from y)) (fun y => nomatch y)
      · obtain ⟨e1, _⟩ := ok b _ z
        obtain ⟨e2, _⟩ := ok2 b _ (un.frzs b ob _ z)
        rw [e1] at e
        cases e
        exact e2
  by_cases hk : K.lookup a = none
  · refine key (fun b => if b = a then some (.frz { cls := .type "list", data := .seq vs.toArray } (.lst (ns.map V.int))) else none) ?_ (.inl (.inr ⟨_, if_pos rfl⟩)) ?_ ?_ fun _ => hk
    · intro b
      by_cases hb : b = a
      · exact Or.inr ⟨_, _, if_pos hb⟩
      · exact Or.inl (if_neg hb)
    · intro b u z
      by_cases hb : b = a
      · subst hb
        have y := (if_pos rfl).symm.trans z
        cases y
        exact ⟨at_, by rw [List.length_map]; exact len, vs, _, relV, at_⟩
      · exact nomatch (if_neg hb).symm.trans z
    · intro b z
      by_cases hb : b = a
      · exact hb
      · exact (z (if_neg hb)).elim
  · obtain ⟨o, ho⟩ : ∃ o, K.lookup a = some o := by
      cases z : K.lookup a with
      | none => exact (hk z).elim
      | some o => exact ⟨o, rfl⟩
    have e := inK a o ho
    rw [at_] at e
    cases e
    refine key (fun _ => none) (fun _ => Or.inl rfl) (.inr ⟨_, vs.toArray, _, ho, rfl, rfl, rfl, by rw [List.size_toArray, lenV]; exact len, by simpa using relV⟩) ?_ (fun b z => absurd rfl z) fun z => absurd rfl z
    intro b u z
    exact nomatch (show (none : Option HO) = some u from z)
theorem walkG {l : PySem.W.OpenLaw} {n k : Nat} {q : Program} {loose : List Str} {XP : (Str → Option Value) → Heap → Prop} {YP : World → Heap → Prop} {d : DefRec} {K : Params → PySem.W.Frag} {CX : World → CXT} {sp : World → Sp} {x : Str}
    (h1 : l.most = some n) (h2 : n ≤ sizeLine) (h3 : d.params.defaults = []) (imp : importsNone q = true) (room : Room k callerA)
    (hY : ∀ (w : World) (h : Heap), YP w h → (K w.params).In h)
    (F : ∀ (w : World) (mg : Str → Option Value) (fa : Addr) (h : Heap), (K w.params).In h → h.Ns mainGlobals mg → mg d.name = some (.ref fa) →
      ∃ fd : FuncData, (∀ (s : Shared) (u : Value), BindsTo s fd ⟨[u], []⟩ [(x, u)]) ∧
        ∀ base : Heap, (K w.params).In base → base.Ns mainGlobals mg → (∃ mm, base.Ns sysModules mm) → FnG l.prog w (K w.params) mg base (CX w) k fa fd [x] (sp w))
    (hsp : ∀ (w : World) (H : Hp) (a : Addr) (ns : List Int), ns.length ≤ n → Only H → SqL (K w.params) H a (ns.map V.int) → sp w [.ref a] H (fun v _ => v = .bl true) fun _ _ _ => False)
    (hCX : ∀ (w : World) (H : Hp) (s : Shared) (e : Value) (s' : Shared), CX w [] H s (fun _ _ _ => False) e s' → False) :
    PySem.W.WalkO q loose XP YP l.row.toRowW d [] (fun f vs => PySem.call f vs) := by
  refine Att.attach_call h1 h3 ?_
  intro w s0 s1 mg mb fa o pm cd doc a vs ns G Y ho hd hcd hmg hobj hints hlen hgen
  have KX := hY w _ Y
  obtain ⟨fd, hb, hF⟩ := F w mg fa _ KX G.T.g hmg
  refine lawG KX G.T.g G.T.b G.T.builtins G.T.nolimit (G.T.seer imp) hgen hobj hints (Nat.le_trans hlen h2) room hF hb (fun H hO hS => hsp w H a ns hlen hO hS) ?_
  intro H e s2
  exact hCX w H s1 e s2
end
end TD
set_option maxHeartbeats 4000000
namespace TD
open PySem PySem.Spec PyProof.Rows L2
def keyD : Key → PyData
  | .inl i => .int i
  | .inr x => .str x
mutual
inductive Da (K : PySem.W.Frag) (H : Hp) : V → PyData → Prop
  | non : Da K H .non .none
  | bl (b : Bool) : Da K H (.bl b) (.bool b)
  | int (i : Int) : Da K H (.int i) (.int i)
  | str (x : Str) : Da K H (.str x) (.str x)
  | lst {a : Addr} {xs : List V} {ds : List PyData} : H a = some (.lst xs) → Das K H xs ds → Da K H (.ref a) (.list ds)
  | tup {a : Addr} {xs : List V} {ds : List PyData} : H a = some (.tup xs) → Das K H xs ds → Da K H (.ref a) (.tuple ds)
  | dic {a : Addr} {kvs : List (Key × V)} {ds : List PyData} : H a = some (.dK kvs) → Das K H (kvs.map (·.2)) ds → Da K H (.ref a) (.dict ((kvs.map fun p => keyD p.1).zip ds))
inductive Das (K : PySem.W.Frag) (H : Hp) : List V → List PyData → Prop
  | nil : Das K H [] []
  | cons {v : V} {vs : List V} {d : PyData} {ds : List PyData} : Da K H v d → Das K H vs ds → Das K H (v :: vs) (d :: ds)
end
theorem Das.len {K : PySem.W.Frag} {H : Hp} : ∀ {vs : List V} {ds : List PyData}, Das K H vs ds → vs.length = ds.length
  | _, _, .nil => rfl
  | _, _, .cons _ t => congrArg Nat.succ t.len
theorem Das.get {K : PySem.W.Frag} {H : Hp} : ∀ {vs : List V} {ds : List PyData} {i : Nat} {v : V}, Das K H vs ds → vs[i]? = some v → ∃ d, ds[i]? = some d ∧ Da K H v d
  | _, _, _, _, .nil, h => by simp at h
  | _, _, 0, v, .cons (d := d) h t, e => by
    simp at e
    subst e
    exact ⟨d, rfl, h⟩
  | _, _, i + 1, v, .cons h t, e => by
    obtain ⟨d, e1, e2⟩ := t.get (i := i) (v := v) (by simpa using e)
    exact ⟨d, by simpa using e1, e2⟩
theorem Das.getD {K : PySem.W.Frag} {H : Hp} : ∀ {vs : List V} {ds : List PyData} {i : Nat} {d : PyData}, Das K H vs ds → ds[i]? = some d → ∃ v, vs[i]? = some v ∧ Da K H v d
  | _, _, _, _, .nil, h => by simp at h
  | _, _, 0, d, .cons (v := v) h t, e => by
    simp at e
    subst e
    exact ⟨v, rfl, h⟩
  | _, _, i + 1, d, .cons h t, e => by
    obtain ⟨v, e1, e2⟩ := t.getD (i := i) (d := d) (by simpa using e)
    exact ⟨v, by simpa using e1, e2⟩
theorem Das.app {K : PySem.W.Frag} {H : Hp} : ∀ {vs ws : List V} {ds es : List PyData}, Das K H vs ds → Das K H ws es → Das K H (vs ++ ws) (ds ++ es)
  | _, _, _, _, .nil, h => h
  | _, _, _, _, .cons a t, h => .cons a (t.app h)
theorem Das.take {K : PySem.W.Frag} {H : Hp} : ∀ {vs : List V} {ds : List PyData} (n : Nat), Das K H vs ds → Das K H (vs.take n) (ds.take n)
  | _, _, 0, _ => .nil
  | _, _, _ + 1, .nil => .nil
  | _, _, n + 1, .cons a t => .cons a (t.take n)
theorem Das.drop {K : PySem.W.Frag} {H : Hp} : ∀ {vs : List V} {ds : List PyData} (n : Nat), Das K H vs ds → Das K H (vs.drop n) (ds.drop n)
  | _, _, 0, h => h
  | _, _, _ + 1, .nil => .nil
  | _, _, n + 1, .cons a t => t.drop n
mutual
theorem Da.ex {K : PySem.W.Frag} {H H' : Hp} (e : Evl.Ex H H') : ∀ {v : V} {d : PyData}, Da K H v d → Da K H' v d
  | _, _, .non => .non
  | _, _, .bl b => .bl b
  | _, _, .int i => .int i
  | _, _, .str x => .str x
  | _, _, .lst h t => .lst (e _ _ h) (Das.ex e t)
  | _, _, .tup h t => .tup (e _ _ h) (Das.ex e t)
  | _, _, .dic h t => .dic (e _ _ h) (Das.ex e t)
theorem Das.ex {K : PySem.W.Frag} {H H' : Hp} (e : Evl.Ex H H') : ∀ {vs : List V} {ds : List PyData}, Das K H vs ds → Das K H' vs ds
  | _, _, .nil => .nil
  | _, _, .cons a t => .cons (Da.ex e a) (Das.ex e t)
end
section
variable {X : Cx} {pins : List (Addr × Obj)} {σ : L2.St} {H : Hp} {s : Shared}
theorem pairs_reads {P : Program} {w : World} {h : Heap} : ∀ {es : List DictEntry} {kvs : List (Key × V)} {vs : List (Key × Value)}, Pairs (mixKind P w) es vs → KV kvs vs →
    ReadsAll h (es.map (·.key)) (kvs.map fun p => keyD p.1) [] ∧ Vals (kvs.map (·.2)) (es.map (·.val))
  | _, _, _, .nil, .nil => ⟨.nil, .nil⟩
  | _, _, _, .cons (e := e) h1 h2 t, .cons (a := a) r u => by
    obtain ⟨q1, q2⟩ := pairs_reads (h := h) t u
    obtain ⟨r1, r2⟩ := r
    have h1' : keyIs a.1 e.key = true := by
      rw [r1]
      exact h1
    refine ⟨?_, .cons (by show L2.RelV a.2 e.val; rw [h2]; exact r2) q2⟩
    rcases keyIs_shape h1' with ⟨i, tk, ek, ev⟩ | ⟨x, tk, ek, ev⟩
    · have z := ReadsAll.cons (Reads.int (h := h) i tk) q1
      simp only [List.map_cons, ek, ev]
      exact z
    · have z := ReadsAll.cons (Reads.str (h := h) x tk) q1
      simp only [List.map_cons, ek, ev]
      exact z
theorem seq_not_sm {a : Addr} {o : Obj} {vs : Array Value} {n : Nat} (sm : ∃ mm, X.base.Ns sysModules mm) (I : Inv X pins σ H s) (ho : s.heap.get? a = some o) (hd : o.data = .seq vs n) : a ≠ sysModules := by
  intro e
  subst e
  obtain ⟨mm, q⟩ := sm
  obtain ⟨o2, es, ep, e2, d2, _⟩ := q.keeps I.bk
  rw [ho] at e2
  cases e2
  have z : o.data = .dict es ep := d2
  rw [hd] at z
  cases z
mutual
theorem Da.reads (sm : ∃ mm, X.base.Ns sysModules mm) (I : Inv X pins σ H s) : ∀ (d : PyData) (v : V) (u : Value), Da X.K H v d → RelV v u → ∃ as, Reads s.heap u d as ∧ sysModules ∉ as
  | .none, _, _, h, r => by
    cases h
    cases r
    exact ⟨_, Reads.none, fun z => nomatch z⟩
  | .bool b, _, _, h, r => by
    cases h
    cases r
    exact ⟨_, Reads.bool b, fun z => nomatch z⟩
  | .int i, _, _, h, r => by
    cases h
    obtain ⟨t, rfl⟩ := r
    exact ⟨_, Reads.int i t, fun z => nomatch z⟩
  | .str x, _, _, h, r => by
    cases h
    obtain ⟨t, rfl⟩ := r
    exact ⟨_, Reads.str x t, fun z => nomatch z⟩
  | .list ds, _, _, h, r => by
    cases h with
    | lst hs ha =>
      cases r
      obtain ⟨its, rv, ⟨o, n, ho, hc, _, hd⟩, _⟩ := I.list (SqL.of hs)
      obtain ⟨as, hr, hn⟩ := Das.reads sm I ds _ its ha rv
      refine ⟨_, Reads.list ho hc hd hr, fun z => ?_⟩
      rcases List.mem_cons.mp z with z | z
      · exact seq_not_sm sm I ho hd z.symm
      · exact hn z
  | .tuple ds, _, _, h, r => by
    cases h with
    | tup hs ha =>
      cases r
      obtain ⟨its, rv, ⟨o, ho, hc, n, hd⟩, _⟩ := I.tuple (SqT.of hs)
      obtain ⟨as, hr, hn⟩ := Das.reads sm I ds _ its ha rv
      exact ⟨_, Reads.tuple ho hc hd hr, hn⟩
  | .dict kds, v, u, h, r => by
    generalize hk : PyData.dict kds = dd at h
    cases h with
    | @dic a kvs ds hs ha =>
      cases r
      injection hk with hk
      subst hk
      obtain ⟨_, ns, vs, rel, o, es, ep, ho, hx, hd, _, hp, _⟩ := (I.hok a _ hs : ObjOk X.prog X.w H s.heap a (.dK kvs))
      obtain ⟨q1, q2⟩ := pairs_reads (h := s.heap) hp rel
      have l1 : (kvs.map fun p => keyD p.1).length = ds.length := by
        have := ha.len
        rw [List.length_map] at this ⊢
        exact this
      have ez : ((kvs.map fun p => keyD p.1).zip ds).map (·.2) = ds := List.map_snd_zip (by omega)
      obtain ⟨as, hr, hn⟩ := Das.readsZ sm I ((kvs.map fun p => keyD p.1).zip ds) _ _ (by rw [ez]; exact ha) q2
      refine ⟨_, Reads.dict (es := es) (n := ep) (as := []) (bs := as) ho hx.1 hd ?_ ?_, fun z => ?_⟩
      · rw [List.map_fst_zip (by omega)]
        exact q1
      · exact hr
      · rcases List.mem_cons.mp z with z | z
        · rw [← z] at ns
          simp at ns
        · exact hn (by simpa using z)
    | _ => cases hk
theorem Das.reads (sm : ∃ mm, X.base.Ns sysModules mm) (I : Inv X pins σ H s) : ∀ (ds : List PyData) (vs : List V) (us : List Value), Das X.K H vs ds → Vals vs us → ∃ as, ReadsAll s.heap us ds as ∧ sysModules ∉ as
  | [], _, _, h, r => by
    cases h
    cases r
    exact ⟨_, ReadsAll.nil, fun z => nomatch z⟩
  | d :: ds, _, _, h, r => by
    cases h with
    | cons h1 h2 =>
      cases r with
      | cons r1 r2 =>
        obtain ⟨as, q1, n1⟩ := Da.reads sm I d _ _ h1 r1
        obtain ⟨bs, q2, n2⟩ := Das.reads sm I ds _ _ h2 r2
        exact ⟨_, ReadsAll.cons q1 q2, fun z => (List.mem_append.mp z).elim n1 n2⟩
theorem Das.readsZ (sm : ∃ mm, X.base.Ns sysModules mm) (I : Inv X pins σ H s) : ∀ (kds : List (PyData × PyData)) (vs : List V) (us : List Value), Das X.K H vs (kds.map (·.2)) → Vals vs us → ∃ as, ReadsAll s.heap us (kds.map (·.2)) as ∧ sysModules ∉ as
  | [], _, _, h, r => by
    cases h
    cases r
    exact ⟨_, ReadsAll.nil, fun z => nomatch z⟩
  | (k, d) :: ds, _, _, h, r => by
    cases h with
    | cons h1 h2 =>
      cases r with
      | cons r1 r2 =>
        obtain ⟨as, q1, n1⟩ := Da.reads sm I d _ _ h1 r1
        obtain ⟨bs, q2, n2⟩ := Das.readsZ sm I ds _ _ h2 r2
        exact ⟨_, ReadsAll.cons q1 q2, fun z => (List.mem_append.mp z).elim n1 n2⟩
end
end
end TD
namespace TD
open PySem PySem.Spec PyProof.Rows L2
mutual
def sz : PyData → Nat
  | .none => 10
  | .bool _ => 10
  | .int _ => 2000
  | .str x => (reprText x).length
  | .list xs => szs xs + 5
  | .tuple xs => szs xs + 5
  | .dict kvs => szk kvs + 5
def szs : List PyData → Nat
  | [] => 0
  | d :: ds => sz d + 2 + szs ds
def szk : List (PyData × PyData) → Nat
  | [] => 0
  | (k, v) :: r => sz k + sz v + 4 + szk r
end
def piles (ts : List Str) : Nat := (ts.map fun t => t.length + 2).sum
theorem textFrom_up : ∀ (ts : List Str) (k : Nat) (acc : Str), (textFrom k acc ts).length ≤ acc.length + piles ts
  | [], _, acc => by
    show acc.length ≤ acc.length + 0
    omega
  | t :: r, k, acc => by
    have h := textFrom_up r (k + 1) (acc ++ (if k > 0 then ", " else "" : String) ++ t)
    have e : (acc ++ (if k > 0 then ", " else "" : String) ++ t).length ≤ acc.length + 2 + t.length := by
      rw [strLen_append, strLen_append]
      split
      · show acc.length + 2 + t.length ≤ _
        omega
      · show acc.length + 0 + t.length ≤ _
        omega
    have z : piles (t :: r) = (t.length + 2) + piles r := rfl
    show (textFrom (k + 1) _ r).length ≤ _
    omega
theorem list_up (ts : List Str) : (listText ts).length ≤ piles ts + 2 := by
  have h := textFrom_up ts 0 "["
  have e : (Str.ofString "[").length = 1 := by decide
  have e2 : (Str.ofString "]").length = 1 := by decide
  unfold listText
  rw [strLen_append]
  have z : (textFrom 0 "[" ts).length ≤ 1 + piles ts := by
    rw [← e]
    exact h
  omega
theorem tuple_up (ts : List Str) : (tupleText ts).length ≤ piles ts + 5 := by
  unfold tupleText
  rw [strLen_append, strLen_append]
  have e1 : (Str.ofString "(").length = 1 := by decide
  have e2 : (Str.ofString ((if ts.length == 1 then ",)" else ")" : String))).length ≤ 2 := by split <;> decide
  have e3 : (Str.join ", " ts).length ≤ piles ts := by
    cases ts with
    | nil => exact Nat.zero_le _
    | cons t r =>
      have z := join_length_add (t :: r) (by simp)
      have y : piled (t :: r) = piles (t :: r) := rfl
      omega
  rw [e1]
  omega
theorem dict_up (ts : List Str) : (dictText ts).length ≤ piles ts + 5 := by
  unfold dictText
  rw [strLen_append, strLen_append]
  have e1 : (Str.ofString "{").length = 1 := by decide
  have e2 : (Str.ofString "}").length = 1 := by decide
  have e3 : (Str.join ", " ts).length ≤ piles ts := by
    cases ts with
    | nil => exact Nat.zero_le _
    | cons t r =>
      have z := join_length_add (t :: r) (by simp)
      have y : piled (t :: r) = piles (t :: r) := rfl
      omega
  omega
mutual
theorem shown_up : ∀ d : PyData, d.showable = true → d.shown.length ≤ sz d
  | .none, _ => by
    show (Str.ofString "None").length ≤ 10
    decide
  | .bool b, _ => by
    cases b
    · show (Str.ofString "False").length ≤ 10
      decide
    · show (Str.ofString "True").length ≤ 10
      decide
  | .int i, h => by
    have z : i.natAbs.log2 < 1920 := by simpa [PyData.showable] using h
    have y := int_text_len_1921 z
    show (Str.ofString (toString i)).length ≤ 2000
    omega
  | .str x, _ => Nat.le_refl _
  | .list xs, h => by
    have q := shown_ups xs (by simpa [PyData.showable] using h)
    have z := list_up (PyData.shownAll xs)
    have e : (PyData.list xs).shown = listText (PyData.shownAll xs) := by simp only [PyData.shown]
    rw [e]
    show _ ≤ szs xs + 5
    omega
  | .tuple xs, h => by
    have q := shown_ups xs (by simpa [PyData.showable] using h)
    have z := tuple_up (PyData.shownAll xs)
    have e : (PyData.tuple xs).shown = tupleText (PyData.shownAll xs) := by simp only [PyData.shown]
    rw [e]
    show _ ≤ szs xs + 5
    omega
  | .dict kvs, h => by
    have q := shown_upk kvs (by simpa [PyData.showable] using h)
    have z := dict_up (PyData.shownKv kvs)
    have e : (PyData.dict kvs).shown = dictText (PyData.shownKv kvs) := by simp only [PyData.shown]
    rw [e]
    show _ ≤ szk kvs + 5
    omega
theorem shown_ups : ∀ ds : List PyData, PyData.showableAll ds = true → piles (PyData.shownAll ds) ≤ szs ds
  | [], _ => by
    simp only [PyData.shownAll]
    exact Nat.le_refl _
  | d :: ds, h => by
    have z : d.showable = true ∧ PyData.showableAll ds = true := by simpa [PyData.showableAll] using h
    have h1 := shown_up d z.1
    have h2 := shown_ups ds z.2
    simp only [PyData.shownAll]
    show d.shown.length + 2 + piles (PyData.shownAll ds) ≤ sz d + 2 + szs ds
    omega
theorem shown_upk : ∀ kvs : List (PyData × PyData), PyData.showableKv kvs = true → piles (PyData.shownKv kvs) ≤ szk kvs
  | [], _ => by
    simp only [PyData.shownKv]
    exact Nat.le_refl _
  | (k, v) :: r, h => by
    have z : (k.showable = true ∧ v.showable = true) ∧ PyData.showableKv r = true := by simpa [PyData.showableKv] using h
    have h1 := shown_up k z.1.1
    have h2 := shown_up v z.1.2
    have h3 := shown_upk r z.2
    simp only [PyData.shownKv]
    show (k.shown ++ ": " ++ v.shown).length + 2 + piles (PyData.shownKv r) ≤ sz k + sz v + 4 + szk r
    rw [strLen_append, strLen_append]
    have e : (Str.ofString ": ").length = 2 := by decide
    omega
end
structure Fine (d : PyData) : Prop where
  sh : d.showable = true
  dp : d.depth ≤ 100
  up : sz d ≤ 16000000
section
variable {X : Cx}
def rRepr (K : PySem.W.Frag) : List V → Hp → VK → Prop := fun xs H Q => ∃ v d, xs = [v] ∧ Da K H v d ∧ Fine d ∧ Q (.str d.shown) H
theorem call_reprA (sm : ∃ mm, X.base.Ns sysModules mm) (gu : X.A.guards = some []) (hu : X.A.units + 200 < cLine) : CallR X (.builtin "repr") (rRepr X.K) := by
  intro pins s σ H xs us Q I r h
  obtain ⟨v, d, rfl, hd, hf, q⟩ := h
  obtain ⟨u, rfl, ru⟩ := vals1 r
  have up : d.shown.length ≤ sizeLine := Nat.le_trans (shown_up d hf.sh) (Nat.le_trans hf.up (by decide))
  obtain ⟨as, rd, hn⟩ := Da.reads sm I d v u hd ru
  have dp := hf.dp
  have big : wpAny (model X.prog X.w) X.A (call (.builtin "repr") [u]) (EP X pins σ Q) X.xe s := by
    cases rd with
    | none => exact PySem.P.repr_of_none ⟨.str _, H, I.tok _, ⟨_, rfl⟩, q⟩
    | bool b => exact PySem.P.repr_of_bool ⟨.str _, H, I.tok _, ⟨_, rfl⟩, q⟩
    | int i t => exact PySem.P.repr_of_int (by simpa [PyData.showable] using hf.sh) ⟨.str _, H, I.tok _, ⟨_, rfl⟩, q⟩
    | str x t => exact PySem.P.repr_of_str ⟨.str _, H, I.tok _, ⟨_, rfl⟩, q⟩ up
    | list h1 h2 h3 h4 =>
      exact repr_of_reads' (.list h1 h2 h3 h4) hf.sh (fun _ => hn) gu (by omega) (fun b o e => e) (fun h2 u2 tk k => ⟨.str _, H, I.kept k, ⟨_, rfl⟩, q⟩) up
    | tuple h1 h2 h3 h4 =>
      exact repr_of_reads' (.tuple h1 h2 h3 h4) hf.sh (fun _ => hn) gu (by omega) (fun b o e => e) (fun h2 u2 tk k => ⟨.str _, H, I.kept k, ⟨_, rfl⟩, q⟩) up
    | dict h1 h2 h3 h4 h5 =>
      exact repr_of_reads' (.dict h1 h2 h3 h4 h5) hf.sh (fun _ => hn) gu (by omega) (fun b o e => e) (fun h2 u2 tk k => ⟨.str _, H, I.kept k, ⟨_, rfl⟩, q⟩) up
  exact big
def rEqA (K : PySem.W.Frag) : R2 := fun x y H Q => ∃ d e, Da K H x d ∧ Da K H y e ∧ SeqAt.shaped d = true ∧ SeqAt.shaped e = true ∧ Q (.bl (PyData.eqv d e)) H
def rNeA (K : PySem.W.Frag) : R2 := fun x y H Q => ∃ d e, Da K H x d ∧ Da K H y e ∧ SeqAt.shaped d = true ∧ SeqAt.shaped e = true ∧ Q (.bl (!PyData.eqv d e)) H
theorem op_eqA (sm : ∃ mm, X.base.Ns sysModules mm) (hu : X.A.units + 64 < cLine) : OpR X (compareOp .Eq) (rEqA X.K) := by
  intro pins s σ H x y v u Q I rx ry h
  obtain ⟨d, e, hd, he, sd, se, q⟩ := h
  obtain ⟨as, r1, _⟩ := Da.reads sm I d x v hd rx
  obtain ⟨bs, r2, _⟩ := Da.reads sm I e y u he ry
  exact SeqAt.compareEq_shaped r1 r2 sd se hu ⟨.bl _, H, I, rfl, q⟩
theorem op_neA (sm : ∃ mm, X.base.Ns sysModules mm) (hu : X.A.units + 64 < cLine) : OpR X (compareOp .NotEq) (rNeA X.K) := by
  intro pins s σ H x y v u Q I rx ry h
  obtain ⟨d, e, hd, he, sd, se, q⟩ := h
  obtain ⟨as, r1, _⟩ := Da.reads sm I d x v hd rx
  obtain ⟨bs, r2, _⟩ := Da.reads sm I e y u he ry
  exact SeqAt.compareNe_shaped r1 r2 sd se hu ⟨.bl _, H, I, rfl, q⟩
end
end TD
set_option maxHeartbeats 4000000
namespace TD
open PySem PySem.Spec PyProof.Rows L2
open Evl (Ex)
abbrev Fg := PySem.W.Frag
structure Le (B H B' H' : Hp) : Prop where
  ex : Ex H H'
  ek : Ex B B'
  sub : Ex B' H'
  old : ∀ a, B a = none → H a ≠ none → B' a = none
theorem Le.rfl' {B H : Hp} (s : Ex B H) : Le B H B H := ⟨Ex.refl H, Ex.refl B, s, fun _ h _ => h⟩
theorem Le.tr {B H B1 H1 B2 H2 : Hp} (a : Le B H B1 H1) (b : Le B1 H1 B2 H2) : Le B H B2 H2 :=
  ⟨a.ex.trans b.ex, a.ek.trans b.ek, b.sub, fun x h1 h2 => b.old x (a.old x h1 h2) (fun z => by
    cases q : H x with
    | none => exact h2 q
    | some o =>
      rw [a.ex x o q] at z
      cases z)⟩
theorem Le.new {B H : Hp} {p : Addr} {o : HO} (s : Ex B H) (h : H p = none) : Le B H (upd B p o) (upd H p o) where
  ex := Ex.new h
  ek := Ex.new (Evl.fresh_back s h)
  sub := fun a u e => by
    by_cases q : a = p
    · subst q
      rw [upd_same] at e ⊢
      exact e
    · rw [upd_ne q] at e ⊢
      exact s a u e
  old := fun a h1 h2 => by
    have q : a ≠ p := fun z => h2 (z ▸ h)
    rw [upd_ne q]
    exact h1
abbrev En := List (Option PyData)
def SD (K : Fg) (B : Hp) (σ : L2.St) (ρ : En) : Prop := σ.length = ρ.length ∧ ∀ (i : Nat) (d : PyData), ρ[i]? = some (some d) → ∃ v, σ[i]? = some (some v) ∧ Da K B v d
theorem SD.up {K : Fg} {B B' : Hp} {σ : L2.St} {ρ : En} (e : Ex B B') (s : SD K B σ ρ) : SD K B' σ ρ := ⟨s.1, fun i d h => let ⟨v, a, b⟩ := s.2 i d h; ⟨v, a, b.ex e⟩⟩
theorem SD.put {K : Fg} {B : Hp} {σ : L2.St} {ρ : En} {v : V} {d : PyData} (s : SD K B σ ρ) (i : Nat) (h : Da K B v d) : SD K B (σ.set i (some v)) (ρ.set i (some d)) := by
  refine ⟨by rw [List.length_set, List.length_set]; exact s.1, fun j e hj => ?_⟩
  by_cases q : i = j
  · subst q
    by_cases l : i < ρ.length
    · rw [List.getElem?_set_self l] at hj
      cases hj
      exact ⟨v, List.getElem?_set_self (by rw [s.1]; exact l), h⟩
    · rw [List.getElem?_eq_none (by rw [List.length_set]; omega)] at hj
      cases hj
  · rw [List.getElem?_set_ne q] at hj
    obtain ⟨u, a, b⟩ := s.2 j e hj
    exact ⟨u, by rw [List.getElem?_set_ne q]; exact a, b⟩
def wipeD (ρ : En) : List Nat → En
  | [] => ρ
  | v :: vs => (wipeD ρ vs).set v none
theorem SD.drop {K : Fg} {B : Hp} {σ : L2.St} {ρ : En} (s : SD K B σ ρ) (i : Nat) (o : Option V) : SD K B (σ.set i o) (ρ.set i none) := by
  refine ⟨by rw [List.length_set, List.length_set]; exact s.1, fun j e hj => ?_⟩
  by_cases q : i = j
  · subst q
    by_cases l : i < ρ.length
    · rw [List.getElem?_set_self l] at hj
      cases hj
    · rw [List.getElem?_eq_none (by rw [List.length_set]; omega)] at hj
      cases hj
  · rw [List.getElem?_set_ne q] at hj
    obtain ⟨u, a, b⟩ := s.2 j e hj
    exact ⟨u, by rw [List.getElem?_set_ne q]; exact a, b⟩
theorem SD.wipe {K : Fg} {B : Hp} {σ : L2.St} {ρ : En} (s : SD K B σ ρ) : ∀ vs : List Nat, SD K B (L2.wipe σ vs) (wipeD ρ vs)
  | [] => s
  | v :: vs => (s.wipe vs).drop v none
section
variable (K : Fg)
def ED (te : TE) (ρ : En) (d : PyData) : Prop := ∀ σ B H, Ex B H → SD K B σ ρ → ∀ Q : VK, (∀ v B' H', Le B H B' H' → Da K B' v d → Q v H') → te σ H Q
def EA (ta : TA) (ρ : En) (ds : List PyData) : Prop := ∀ σ B H, Ex B H → SD K B σ ρ → ∀ Q : List V → Hp → Prop, (∀ vs B' H', Le B H B' H' → Das K B' vs ds → Q vs H') → ta σ H Q
def ET (tt : TT) (ρ : En) (b : Bool) : Prop := ∀ σ B H, Ex B H → SD K B σ ρ → ∀ Q : Bool → Hp → Prop, (∀ B' H', Le B H B' H' → Q b H') → tt σ H Q
def R2D (r : R2) (x y z : PyData) : Prop := ∀ v w B H, Ex B H → Da K B v x → Da K B w y → ∀ Q : VK, (∀ u B' H', Le B H B' H' → Da K B' u z → Q u H') → r v w H Q
def R1D (r : V → Hp → VK → Prop) (x z : PyData) : Prop := ∀ v B H, Ex B H → Da K B v x → ∀ Q : VK, (∀ u B' H', Le B H B' H' → Da K B' u z → Q u H') → r v H Q
def RcD (r : List V → Hp → VK → Prop) (xs : List PyData) (z : PyData) : Prop := ∀ vs B H, Ex B H → Das K B vs xs → ∀ Q : VK, (∀ u B' H', Le B H B' H' → Da K B' u z → Q u H') → r vs H Q
inductive Out where
  | nx (ρ : En) | ret (d : PyData) | br (ρ : En) | ct (ρ : En)
def Meet (D : Ends) (B H : Hp) : Out → Prop
  | .nx ρ => ∀ σ' B' H', Le B H B' H' → SD K B' σ' ρ → D.nx σ' H'
  | .ret d => ∀ v B' H', Le B H B' H' → Da K B' v d → D.rt v H'
  | .br ρ => ∀ σ' B' H', Le B H B' H' → SD K B' σ' ρ → D.bk σ' H'
  | .ct ρ => ∀ σ' B' H', Le B H B' H' → SD K B' σ' ρ → D.ct σ' H'
def XS (t : TS) (ρ : En) (o : Out) : Prop := ∀ σ B H (D : Ends), Ex B H → SD K B σ ρ → Meet K D B H o → t D σ H
def TG_ (g : TG) (d : PyData) (ρ ρ' : En) : Prop := ∀ σ v B H, Ex B H → SD K B σ ρ → Da K B v d → ∀ Q : L2.St → Hp → Prop, (∀ σ' , SD K B σ' ρ' → Q σ' H) → g v σ H Q
def SpR (R : List PyData → PyData → Prop) : Sp := fun vs H Q _ => ∃ B ds d, Ex B H ∧ Das K B vs ds ∧ R ds d ∧ ∀ v B' H', Le B H B' H' → Da K B' v d → Q v H'
end
section
variable {K : Fg} {ρ ρ' ρ1 : En} {ta tb tc te : TE} {tt tu : TT} {t u : TS} {x y z d : PyData} {r : R2} {a b c : Bool} {o : Out} {g : TG}
theorem ed_var {i : Nat} (h : ρ[i]? = some (some d)) : ED K (tVar i) ρ d := fun σ B H s sd Q q =>
  let ⟨v, e, hd⟩ := sd.2 i d h
  ⟨v, e, q v B H (Le.rfl' s) hd⟩
theorem ed_int {i : Int} : ED K (tC (.int i)) ρ (.int i) := fun σ B H s _ Q q => q _ B H (Le.rfl' s) (.int i)
theorem ed_bl {i : Bool} : ED K (tC (.bl i)) ρ (.bool i) := fun σ B H s _ Q q => q _ B H (Le.rfl' s) (.bl i)
theorem ed_op (ha : ED K ta ρ x) (hb : ED K tb ρ y) (hr : R2D K r x y z) : ED K (tOp r ta tb) ρ z := fun σ B H s sd Q q =>
  ha σ B H s sd _ fun v B1 H1 l1 d1 => hb σ B1 H1 l1.sub (sd.up l1.ek) _ fun w B2 H2 l2 d2 => hr v w B2 H2 l2.sub (d1.ex l2.ek) d2 Q fun u B3 H3 l3 d3 => q u B3 H3 ((l1.tr l2).tr l3) d3
theorem ed_un {r : V → Hp → VK → Prop} (ha : ED K ta ρ x) (hr : R1D K r x z) : ED K (tUn r ta) ρ z := fun σ B H s sd Q q =>
  ha σ B H s sd _ fun v B1 H1 l1 d1 => hr v B1 H1 l1.sub d1 Q fun u B3 H3 l3 d3 => q u B3 H3 (l1.tr l3) d3
theorem ed_is (h : ED K te ρ x) (e : x = y) : ED K te ρ y := e ▸ h
theorem et_is (h : ET K tt ρ a) (e : a = b) : ET K tt ρ b := e ▸ h
theorem ed_and (ha : ED K ta ρ (.bool a)) (hb : a = true → ED K tb ρ (.bool b)) : ED K (tAndV ta tb) ρ (.bool (a && b)) := fun σ B H s sd Q q =>
  ha σ B H s sd _ fun v B1 H1 l1 d1 => by
    cases d1
    refine ⟨a, rfl, ?_⟩
    cases a with
    | true =>
      show tb σ H1 Q
      exact hb rfl σ B1 H1 l1.sub (sd.up l1.ek) Q fun u B2 H2 l2 d2 => q u B2 H2 (l1.tr l2) d2
    | false =>
      show Q (.bl false) H1
      exact q _ B1 H1 l1 (.bl false)
theorem ed_not (ha : ED K ta ρ (.bool a)) : ED K (tNotV ta) ρ (.bool (!a)) := fun σ B H s sd Q q =>
  ha σ B H s sd _ fun v B1 H1 l1 d1 => by
    cases d1
    exact ⟨a, rfl, q _ B1 H1 l1 (.bl _)⟩
theorem et_test (h : ED K te ρ (.bool b)) : ET K (tTest te) ρ b := fun σ B H s sd Q q => h σ B H s sd _ fun v B1 H1 l1 d1 => by
  cases d1
  exact ⟨b, rfl, q B1 H1 l1⟩
theorem et_B (h : ED K te ρ (.bool b)) : ET K (tB te) ρ b := fun σ B H s sd Q q => h σ B H s sd _ fun v B1 H1 l1 d1 => by
  cases d1
  exact ⟨b, rfl, q B1 H1 l1⟩
theorem et_or (h1 : ET K tt ρ a) (h2 : a = false → ET K tu ρ b) : ET K (tOr tt tu) ρ (a || b) := fun σ B H s sd Q q => h1 σ B H s sd _ fun B1 H1 l1 => by
  cases a with
  | false =>
    show tu σ H1 Q
    exact h2 rfl σ B1 H1 l1.sub (sd.up l1.ek) Q fun B2 H2 l2 => q B2 H2 (l1.tr l2)
  | true =>
    show Q true H1
    exact q B1 H1 l1
theorem et_not (h : ET K tt ρ a) : ET K (tNot tt) ρ (!a) := fun σ B H s sd Q q => h σ B H s sd _ fun B1 H1 l1 => q B1 H1 l1
theorem ea_nil : EA K tNil ρ [] := fun σ B H s sd Q q => q [] B H (Le.rfl' s) .nil
theorem ea_cons {tr : TA} {ds : List PyData} (h : ED K ta ρ x) (hr : EA K tr ρ ds) : EA K (tCons ta tr) ρ (x :: ds) := fun σ B H s sd Q q =>
  h σ B H s sd _ fun v B1 H1 l1 d1 => hr σ B1 H1 l1.sub (sd.up l1.ek) _ fun vs B2 H2 l2 d2 => q (v :: vs) B2 H2 (l1.tr l2) (.cons (d1.ex l2.ek) d2)
theorem das_big {B : Hp} {vs : List V} {ds : List PyData} (h : Das K B vs ds) (hl : ds.length ≤ 100000) : vs.length ≤ sizeLine := by
  rw [h.len]
  exact Evl.sz_of hl
theorem ed_cb {rc : List V → Hp → VK → Prop} {tl : TA} {ds : List PyData} (h : EA K tl ρ ds) (hr : RcD K rc ds z) : ED K (tCB rc tl) ρ z := fun σ B H s sd Q q =>
  h σ B H s sd _ fun vs B1 H1 l1 d1 => hr vs B1 H1 l1.sub d1 Q fun u B2 H2 l2 d2 => q u B2 H2 (l1.tr l2) d2
theorem ed_call {R : List PyData → PyData → Prop} {E : XK} {tl : TA} {ds : List PyData} (h : EA K tl ρ ds) (hR : R ds z) : ED K (tCall (SpR K R) [] E tl) ρ z := fun σ B H s sd Q q =>
  h σ B H s sd _ fun vs B1 H1 l1 d1 => by
    show SpR K R (vs ++ []) H1 Q E
    rw [List.append_nil]
    exact ⟨B1, ds, z, l1.sub, d1, hR, fun u B2 H2 l2 d2 => q u B2 H2 (l1.tr l2) d2⟩
theorem Meet.back {D : Ends} {B H B1 H1 : Hp} (l : Le B H B1 H1) : ∀ {o : Out}, Meet K D B H o → Meet K D B1 H1 o
  | .nx _, m => fun σ' B' H' l' s => m σ' B' H' (l.tr l') s
  | .ret _, m => fun v B' H' l' s => m v B' H' (l.tr l') s
  | .br _, m => fun σ' B' H' l' s => m σ' B' H' (l.tr l') s
  | .ct _, m => fun σ' B' H' l' s => m σ' B' H' (l.tr l') s
theorem xs_next : XS K tNext ρ (.nx ρ) := fun σ B H D s sd m => m σ B H (Le.rfl' s) sd
theorem xs_ret (h : ED K te ρ d) : XS K (tRet te) ρ (.ret d) := fun σ B H D s sd m => h σ B H s sd _ m
theorem xs_asgG (h : ED K te ρ d) (hg : TG_ K g d ρ ρ') : XS K (tAsg te g) ρ (.nx ρ') := fun σ B H D s sd m =>
  h σ B H s sd _ fun v B1 H1 l1 d1 => hg σ v B1 H1 l1.sub (sd.up l1.ek) d1 _ fun σ' s' => m σ' B1 H1 l1 s'
theorem tg_name {i : Nat} : TG_ K (gName i) d ρ (ρ.set i (some d)) := fun σ v B H s sd hd Q q => q _ (sd.put i hd)
theorem xs_asg {i : Nat} (h : ED K te ρ d) : XS K (tAsg te (gName i)) ρ (.nx (ρ.set i (some d))) := xs_asgG h tg_name
theorem xs_if (h : ET K tt ρ b) (h1 : b = true → XS K t ρ o) (h2 : b = false → XS K u ρ o) : XS K (tIfS tt t u) ρ o := fun σ B H D s sd m =>
  h σ B H s sd _ fun B1 H1 l1 => by
    cases b with
    | true =>
      show t D σ H1
      exact h1 rfl σ B1 H1 D l1.sub (sd.up l1.ek) (m.back l1)
    | false =>
      show u D σ H1
      exact h2 rfl σ B1 H1 D l1.sub (sd.up l1.ek) (m.back l1)
theorem xs_seq (h1 : XS K t ρ (.nx ρ1)) (h2 : XS K u ρ1 o) : XS K (tSeq t u) ρ o := fun σ B H D s sd m =>
  h1 σ B H _ s sd fun σ' B' H' l s' => h2 σ' B' H' D l.sub s' (m.back l)
def Out.leaves : Out → Prop
  | .nx _ => False
  | _ => True
theorem xs_leave (h1 : XS K t ρ o) (hl : o.leaves) : XS K (tSeq t u) ρ o := fun σ B H D s sd m => by
  refine h1 σ B H _ s sd ?_
  cases o with
  | nx _ => exact hl.elim
  | ret _ => exact m
  | br _ => exact m
  | ct _ => exact m
theorem xs_is {o' : Out} (h : XS K t ρ o) (e : o = o') : XS K t ρ o' := e ▸ h
inductive XF (K : Fg) (g : TG) (tb : TS) : List PyData → En → Out → Prop
  | nil {ρ : En} : XF K g tb [] ρ (.nx ρ)
  | go {d : PyData} {ds : List PyData} {ρ ρ0 ρ1 : En} {o : Out} : TG_ K g d ρ ρ0 → XS K tb ρ0 (.nx ρ1) → XF K g tb ds ρ1 o → XF K g tb (d :: ds) ρ o
  | goC {d : PyData} {ds : List PyData} {ρ ρ0 ρ1 : En} {o : Out} : TG_ K g d ρ ρ0 → XS K tb ρ0 (.ct ρ1) → XF K g tb ds ρ1 o → XF K g tb (d :: ds) ρ o
  | ret {d e : PyData} {ds : List PyData} {ρ ρ0 : En} : TG_ K g d ρ ρ0 → XS K tb ρ0 (.ret e) → XF K g tb (d :: ds) ρ (.ret e)
  | brk {d : PyData} {ds : List PyData} {ρ ρ0 ρ1 : En} : TG_ K g d ρ ρ0 → XS K tb ρ0 (.br ρ1) → XF K g tb (d :: ds) ρ (.nx ρ1)
theorem xf_turn {tb : TS} {D : Ends} {B H : Hp} (m : Meet K D B H o) {dx : PyData} {ds : List PyData} {ρ : En} (f : XF K g tb (dx :: ds) ρ o) {σ' : L2.St} {B' H' : Hp} {v : V} (l : Le B H B' H') (sd : SD K B' σ' ρ) (hd : Da K B' v dx)
    {N : L2.St → Hp → Prop} (hN : ∀ ρ1 σ1 B1 H1, XF K g tb ds ρ1 o → Le B H B1 H1 → SD K B1 σ1 ρ1 → N σ1 H1) :
    g v σ' H' fun σ2 H2 => tb { D with nx := N, ct := N, bk := D.nx } σ2 H2 := by
  cases f with
  | go hg hx hr => exact hg σ' v B' H' l.sub sd hd _ fun σ2 s2 => hx σ2 B' H' _ l.sub s2 fun σ3 B3 H3 l3 s3 => hN _ σ3 B3 H3 hr (l.tr l3) s3
  | goC hg hx hr => exact hg σ' v B' H' l.sub sd hd _ fun σ2 s2 => hx σ2 B' H' _ l.sub s2 fun σ3 B3 H3 l3 s3 => hN _ σ3 B3 H3 hr (l.tr l3) s3
  | ret hg hx => exact hg σ' v B' H' l.sub sd hd _ fun σ2 s2 => hx σ2 B' H' _ l.sub s2 fun v3 B3 H3 l3 d3 => m v3 B3 H3 (l.tr l3) d3
  | brk hg hx => exact hg σ' v B' H' l.sub sd hd _ fun σ2 s2 => hx σ2 B' H' _ l.sub s2 fun σ3 B3 H3 l3 s3 => m σ3 B3 H3 (l.tr l3) s3
theorem drop_cons {α : Type} {ds : List α} {i : Nat} {e : α} (h : ds[i]? = some e) : ds.drop i = e :: ds.drop (i + 1) := by
  obtain ⟨hi, e1⟩ := List.getElem?_eq_some_iff.mp h
  rw [List.drop_eq_getElem_cons hi, e1]
theorem drop_all {α : Type} {ds : List α} {i : Nat} (h : ds.length ≤ i) : ds.drop i = [] := List.drop_of_length_le h
theorem xs_forL {tl : TE} {tb : TS} {ds : List PyData} (h : ED K tl ρ (.list ds)) (f : XF K g tb ds ρ o) : XS K (tFor (iList K tl) g tb) ρ o := fun σ B H D s sd m =>
  h σ B H s sd _ fun v B1 H1 l1 d1 => by
    cases d1 with
    | @lst p xs _ hs ha =>
      have hs' : SqL K H1 p xs := Evl.sq_of (l1.sub _ _ hs)
      refine ⟨p, rfl, ⟨xs, hs'⟩, ?_⟩
      refine for_list (K := K) (a := p) (xs := xs) (fun i σ' H' => ∃ B' ρ', XF K g tb (ds.drop i) ρ' o ∧ Le B1 H1 B' H' ∧ SD K B' σ' ρ') ⟨B1, ρ, by rw [List.drop_zero]; exact f, Le.rfl' l1.sub, sd.up l1.ek⟩
        (fun i σ' H' _ ⟨B', _, _, l, _⟩ => Evl.ex_l l.ex hs') (fun i v σ' H' hi ⟨B', ρ', f', l, s'⟩ => ?_) (fun σ' H' ⟨B', ρ', f', l, s'⟩ => ?_)
      · obtain ⟨e, he, hv⟩ := ha.get hi
        rw [drop_cons he] at f'
        exact xf_turn (m.back l1) f' l s' (hv.ex l.ek) fun ρ2 σ2 B2 H2 f2 l2 s2 => ⟨B2, ρ2, f2, l2, s2⟩
      · rw [drop_all (by rw [ha.len]; omega)] at f'
        cases f' with
        | nil => exact m σ' B' H' (l1.tr l) s'
def rgD (lo : Int) (n : Nat) : List PyData := (List.range n).map fun (i : Nat) => PyData.int (lo + (i : Int))
theorem rgD_get {lo : Int} {n i : Nat} (h : i < n) : (rgD lo n)[i]? = some (.int (lo + (i : Int))) := by
  unfold rgD
  rw [List.getElem?_map, List.getElem?_range h]
  rfl
theorem rgD_len (lo : Int) (n : Nat) : (rgD lo n).length = n := by
  unfold rgD
  rw [List.length_map, List.length_range]
end
end TD
set_option maxHeartbeats 4000000
namespace TD
open PySem PySem.Spec PyProof.Rows L2
open Evl (Ex)
section
variable {K : Fg} {ρ ρ' : En} {ta tb tc te : TE} {tt : TT} {x y z d : PyData} {a b c : Bool} {i j k : Int}
theorem r_I0 {g : Int → Int → V} {gd : PyData} (h : ∀ B, Da K B (g i j) gd) : R2D K (rI0 g) (.int i) (.int j) gd := fun v w B H s h1 h2 Q q => by
  cases h1
  cases h2
  exact ⟨i, j, rfl, rfl, q _ B H (Le.rfl' s) (h B)⟩
theorem r_Ii {g : Int → Int → Int} : R2D K (rI0 fun i j => .int (g i j)) (.int i) (.int j) (.int (g i j)) := r_I0 fun _ => .int _
theorem r_Ib {g : Int → Int → Bool} : R2D K (rI0 fun i j => .bl (g i j)) (.int i) (.int j) (.bool (g i j)) := r_I0 fun _ => .bl _
theorem r_IC {C : Int → Int → Prop} {g : Int → Int → Int} (h : C i j) : R2D K (rI C fun i j => .int (g i j)) (.int i) (.int j) (.int (g i j)) := fun v w B H s h1 h2 Q q => by
  cases h1
  cases h2
  exact ⟨i, j, rfl, rfl, h, q _ B H (Le.rfl' s) (.int _)⟩
theorem r_eqI : R2D K rEq (.int i) (.int j) (.bool (decide (i = j))) := fun v w B H s h1 h2 Q q => by
  cases h1
  cases h2
  have e : decide (V.int i = V.int j) = decide (i = j) := by
    rw [dec_int]
    exact (Bool.beq_eq_decide_eq i j)
  exact ⟨rfl, by rw [e]; exact q _ B H (Le.rfl' s) (.bl _)⟩
theorem r_neI : R2D K rNe (.int i) (.int j) (.bool (!decide (i = j))) := fun v w B H s h1 h2 Q q => by
  cases h1
  cases h2
  have e : decide (V.int i = V.int j) = decide (i = j) := by
    rw [dec_int]
    exact (Bool.beq_eq_decide_eq i j)
  exact ⟨rfl, by rw [e]; exact q _ B H (Le.rfl' s) (.bl _)⟩
theorem r_eqB : R2D K rEq (.bool a) (.bool b) (.bool (a == b)) := fun v w B H s h1 h2 Q q => by
  cases h1
  cases h2
  exact ⟨rfl, by rw [dec_bl]; exact q _ B H (Le.rfl' s) (.bl _)⟩
theorem r_neS {u w' : Str} : R2D K rNe (.str u) (.str w') (.bool (!decide (u = w'))) := fun v w B H s h1 h2 Q q => by
  cases h1
  cases h2
  have e : decide (V.str u = V.str w') = decide (u = w') := by
    by_cases h : u = w'
    · rw [h]
      simp
    · rw [decide_eq_false h, decide_eq_false (fun z => h (V.str.inj z))]
  exact ⟨rfl, by rw [e]; exact q _ B H (Le.rfl' s) (.bl _)⟩
theorem r_eqS {u w' : Str} : R2D K rEq (.str u) (.str w') (.bool (decide (u = w'))) := fun v w B H s h1 h2 Q q => by
  cases h1
  cases h2
  have e : decide (V.str u = V.str w') = decide (u = w') := by
    by_cases h : u = w'
    · rw [h]
      simp
    · rw [decide_eq_false h, decide_eq_false (fun z => h (V.str.inj z))]
  exact ⟨rfl, by rw [e]; exact q _ B H (Le.rfl' s) (.bl _)⟩
theorem r_eqA (h1 : SeqAt.shaped x = true) (h2 : SeqAt.shaped y = true) : R2D K (rEqA K) x y (.bool (PyData.eqv x y)) := fun v w B H s dx dy Q q =>
  ⟨x, y, dx.ex s, dy.ex s, h1, h2, q _ B H (Le.rfl' s) (.bl _)⟩
theorem r_neA (h1 : SeqAt.shaped x = true) (h2 : SeqAt.shaped y = true) : R2D K (rNeA K) x y (.bool (!PyData.eqv x y)) := fun v w B H s dx dy Q q =>
  ⟨x, y, dx.ex s, dy.ex s, h1, h2, q _ B H (Le.rfl' s) (.bl _)⟩
theorem r1_neg : R1D K (rU fun i => .int (-i)) (.int i) (.int (-i)) := fun v B H s h Q q => by
  cases h
  exact ⟨i, rfl, q _ B H (Le.rfl' s) (.int _)⟩
theorem ed_neg1 : ED K (tUn (rU fun i => .int (-i)) (tC (.int 1))) ρ (.int (-1)) := ed_un ed_int r1_neg
theorem ed_chain {r r' : R2} (ha : ED K ta ρ x) (hb : ED K tb ρ y) (hr : R2D K r x y (.bool a)) (hc : a = true → ED K tc ρ z) (hr' : a = true → R2D K r' y z (.bool b)) : ED K (tChain r r' ta tb tc) ρ (.bool (a && b)) := fun σ B H s sd Q q =>
  ha σ B H s sd _ fun v B1 H1 l1 d1 => hb σ B1 H1 l1.sub (sd.up l1.ek) _ fun w B2 H2 l2 d2 => hr v w B2 H2 l2.sub (d1.ex l2.ek) d2 _ fun u B3 H3 l3 d3 => by
    cases d3
    refine ⟨a, rfl, ?_⟩
    cases a with
    | true =>
      show tc σ H3 _
      refine hc rfl σ B3 H3 l3.sub (sd.up ((l1.tr l2).tr l3).ek) _ fun u B4 H4 l4 d4 => ?_
      exact hr' rfl w u B4 H4 l4.sub (d2.ex (l3.tr l4).ek) d4 Q fun u B5 H5 l5 d5 => q u B5 H5 ((((l1.tr l2).tr l3).tr l4).tr l5) d5
    | false =>
      show Q (.bl false) H3
      exact q _ B3 H3 ((l1.tr l2).tr l3) (.bl false)
def isT (T : String) : PyData → Bool
  | .none => T == "NoneType"
  | .bool _ => T == "bool" || T == "int"
  | .int _ => T == "int"
  | .str _ => T == "str"
  | .list _ => T == "list"
  | .tuple _ => T == "tuple"
  | .dict _ => T == "dict"
def tyName : PyData → String
  | .none => "NoneType"
  | .bool _ => "bool"
  | .int _ => "int"
  | .str _ => "str"
  | .list _ => "list"
  | .tuple _ => "tuple"
  | .dict _ => "dict"
theorem da_ty {B : Hp} {v : V} (h : Da K B v d) : TyX K B v (.type (tyName d)) := by
  cases h with
  | non => exact .base .non
  | bl b => exact .base (.bl b)
  | int i => exact .base (.int i)
  | str x => exact .base (.str x)
  | lst h _ => exact .base (.lst h)
  | tup h _ => exact .base (.tup h)
  | dic h _ => exact .base (.dK h)
theorem kit_int : ∀ d : PyData, PySem.W.kitOne K (.type (tyName d)) (.type "int") = some (isT "int" d)
  | .none => (kit_ty (a := "NoneType") (b := "int") (r := false) (by decide +kernel))
  | .bool _ => (kit_ty (a := "bool") (b := "int") (r := true) (by decide +kernel))
  | .int _ => (kit_ty (a := "int") (b := "int") (r := true) (by decide +kernel))
  | .str _ => (kit_ty (a := "str") (b := "int") (r := false) (by decide +kernel))
  | .list _ => (kit_ty (a := "list") (b := "int") (r := false) (by decide +kernel))
  | .tuple _ => (kit_ty (a := "tuple") (b := "int") (r := false) (by decide +kernel))
  | .dict _ => (kit_ty (a := "dict") (b := "int") (r := false) (by decide +kernel))
theorem kit_bool : ∀ d : PyData, PySem.W.kitOne K (.type (tyName d)) (.type "bool") = some (isT "bool" d)
  | .none => (kit_ty (a := "NoneType") (b := "bool") (r := false) (by decide +kernel))
  | .bool _ => (kit_ty (a := "bool") (b := "bool") (r := true) (by decide +kernel))
  | .int _ => (kit_ty (a := "int") (b := "bool") (r := false) (by decide +kernel))
  | .str _ => (kit_ty (a := "str") (b := "bool") (r := false) (by decide +kernel))
  | .list _ => (kit_ty (a := "list") (b := "bool") (r := false) (by decide +kernel))
  | .tuple _ => (kit_ty (a := "tuple") (b := "bool") (r := false) (by decide +kernel))
  | .dict _ => (kit_ty (a := "dict") (b := "bool") (r := false) (by decide +kernel))
theorem kit_list : ∀ d : PyData, PySem.W.kitOne K (.type (tyName d)) (.type "list") = some (isT "list" d)
  | .none => (kit_ty (a := "NoneType") (b := "list") (r := false) (by decide +kernel))
  | .bool _ => (kit_ty (a := "bool") (b := "list") (r := false) (by decide +kernel))
  | .int _ => (kit_ty (a := "int") (b := "list") (r := false) (by decide +kernel))
  | .str _ => (kit_ty (a := "str") (b := "list") (r := false) (by decide +kernel))
  | .list _ => (kit_ty (a := "list") (b := "list") (r := true) (by decide +kernel))
  | .tuple _ => (kit_ty (a := "tuple") (b := "list") (r := false) (by decide +kernel))
  | .dict _ => (kit_ty (a := "dict") (b := "list") (r := false) (by decide +kernel))
theorem kit_tuple : ∀ d : PyData, PySem.W.kitOne K (.type (tyName d)) (.type "tuple") = some (isT "tuple" d)
  | .none => (kit_ty (a := "NoneType") (b := "tuple") (r := false) (by decide +kernel))
  | .bool _ => (kit_ty (a := "bool") (b := "tuple") (r := false) (by decide +kernel))
  | .int _ => (kit_ty (a := "int") (b := "tuple") (r := false) (by decide +kernel))
  | .str _ => (kit_ty (a := "str") (b := "tuple") (r := false) (by decide +kernel))
  | .list _ => (kit_ty (a := "list") (b := "tuple") (r := false) (by decide +kernel))
  | .tuple _ => (kit_ty (a := "tuple") (b := "tuple") (r := true) (by decide +kernel))
  | .dict _ => (kit_ty (a := "dict") (b := "tuple") (r := false) (by decide +kernel))
theorem kit_str : ∀ d : PyData, PySem.W.kitOne K (.type (tyName d)) (.type "str") = some (isT "str" d)
  | .none => (kit_ty (a := "NoneType") (b := "str") (r := false) (by decide +kernel))
  | .bool _ => (kit_ty (a := "bool") (b := "str") (r := false) (by decide +kernel))
  | .int _ => (kit_ty (a := "int") (b := "str") (r := false) (by decide +kernel))
  | .str _ => (kit_ty (a := "str") (b := "str") (r := true) (by decide +kernel))
  | .list _ => (kit_ty (a := "list") (b := "str") (r := false) (by decide +kernel))
  | .tuple _ => (kit_ty (a := "tuple") (b := "str") (r := false) (by decide +kernel))
  | .dict _ => (kit_ty (a := "dict") (b := "str") (r := false) (by decide +kernel))
theorem kitT {T : String} (hT : T = "int" ∨ T = "bool" ∨ T = "list" ∨ T = "tuple" ∨ T = "str") : PySem.W.kitOne K (.type (tyName d)) (.type T) = some (isT T d) := by
  rcases hT with rfl | rfl | rfl | rfl | rfl
  · exact kit_int d
  · exact kit_bool d
  · exact kit_list d
  · exact kit_tuple d
  · exact kit_str d
theorem ed_isi {T : String} (h : ED K te ρ d) (hT : T = "int" ∨ T = "bool" ∨ T = "list" ∨ T = "tuple" ∨ T = "str" := by simp) : ED K (tCB (rIsi K) (tCons te (tCons (tC (.ty T)) tNil))) ρ (.bool (isT T d)) := fun σ B H s sd Q q =>
  h σ B H s sd _ fun v B1 H1 l1 d1 => ⟨v, .ty T, _, _, isT T d, rfl, .ty T, da_ty (d1.ex l1.sub), kitT hT, q _ B1 H1 l1 (.bl _)⟩
def rLen (K : Fg) : List V → Hp → VK → Prop := fun xs H Q => ∃ p ys, xs = [.ref p] ∧ (SqL K H p ys ∨ SqT K H p ys) ∧ Q (.int ys.length) H
theorem rc_lenL {ds : List PyData} : RcD K (rLen K) [.list ds] (.int ds.length) := fun vs B H s h Q q => by
  cases h with
  | cons h1 h2 =>
    cases h2
    cases h1 with
    | lst ha hs => exact ⟨_, _, rfl, .inl (SqL.of (s _ _ ha)), by rw [hs.len]; exact q _ B H (Le.rfl' s) (.int _)⟩
theorem rc_lenT {ds : List PyData} : RcD K (rLen K) [.tuple ds] (.int ds.length) := fun vs B H s h Q q => by
  cases h with
  | cons h1 h2 =>
    cases h2
    cases h1 with
    | tup ha hs => exact ⟨_, _, rfl, .inr (SqT.of (s _ _ ha)), by rw [hs.len]; exact q _ B H (Le.rfl' s) (.int _)⟩
theorem r_ixL {ds : List PyData} {i : Nat} (h : ds[i]? = some z) : R2D K (rIxL K) (.list ds) (.int (i : Int)) z := fun v w B H s h1 h2 Q q => by
  cases h2
  cases h1 with
  | lst ha hs =>
    obtain ⟨u, hu, hd⟩ := hs.getD h
    exact ⟨_, _, _, u, rfl, rfl, SqL.of (s _ _ ha), atI_nat hu, q _ B H (Le.rfl' s) hd⟩
theorem r_ixT {ds : List PyData} {i : Nat} (h : ds[i]? = some z) : R2D K (rIxT K) (.tuple ds) (.int (i : Int)) z := fun v w B H s h1 h2 Q q => by
  cases h2
  cases h1 with
  | tup ha hs =>
    obtain ⟨u, hu, hd⟩ := hs.getD h
    exact ⟨_, _, _, u, rfl, rfl, SqT.of (s _ _ ha), atI_nat hu, q _ B H (Le.rfl' s) hd⟩
theorem r_cat {ds es : List PyData} (h : ds.length + es.length ≤ 100000) : R2D K rCat (.list ds) (.list es) (.list (ds ++ es)) := fun v w B H s h1 h2 Q q => by
  cases h1 with
  | @lst p1 xs1 _ ha hs =>
    cases h2 with
    | @lst p2 xs2 _ hb ht =>
      refine ⟨p1, p2, xs1, xs2, rfl, rfl, s _ _ ha, s _ _ hb, by rw [hs.len, ht.len]; exact Evl.sz_of h, fun p hp => ?_⟩
      have l := Le.new (o := .lst (xs1 ++ xs2)) s hp
      exact q _ _ _ l (.lst upd_same ((hs.app ht).ex l.ek))
theorem Das.rep {B : Hp} {vs : List V} {ds : List PyData} (h : Das K B vs ds) : ∀ n : Nat, Das K B (List.replicate n vs).flatten (List.replicate n ds).flatten
  | 0 => .nil
  | n + 1 => h.app (h.rep n)
theorem r_rep {ds : List PyData} (h : 0 ≤ k ∧ k ≤ 1000 ∧ ds.length ≤ 1000) : R2D K rRep (.list ds) (.int k) (.list (List.replicate k.toNat ds).flatten) := fun v w B H s h1 h2 Q q => by
  cases h2
  cases h1 with
  | @lst p1 xs1 _ ha hs =>
    refine ⟨p1, k, xs1, rfl, rfl, s _ _ ha, by omega, by omega, ?_, fun p hp => ?_⟩
    · rw [hs.len]
      exact Nat.le_trans (Nat.mul_le_mul h.2.2 (show k.toNat ≤ 1000 by omega)) (by decide)
    · have l := Le.new (o := .lst (List.replicate k.toNat xs1).flatten) s hp
      exact q _ _ _ l (.lst upd_same ((hs.rep _).ex l.ek))
theorem bools_of {B : Hp} : ∀ {vs : List V} {bs : List Bool}, Das K B vs (bs.map PyData.bool) → vs = bs.map V.bl
  | [], [], _ => rfl
  | v :: vs, b :: bs, .cons h t => by
    cases h
    rw [bools_of t]
    rfl
theorem rc_all {bs : List Bool} : RcD K (rAll K) [.list (bs.map PyData.bool)] (.bool (bs.all id)) := fun vs B H s h Q q => by
  cases h with
  | cons h1 h2 =>
    cases h2
    cases h1 with
    | lst ha hs =>
      rw [bools_of hs] at ha
      exact ⟨_, bs, rfl, SqL.of (s _ _ ha), q _ B H (Le.rfl' s) (.bl _)⟩
def flatD : PyData → Bool
  | .none => true
  | .bool _ => true
  | .int _ => true
  | .str _ => true
  | _ => false
end
section
variable {K : Fg} {ρ : En} {te : TE} {tt : TT}
def picked (ds : List PyData) (f : PyData → Bool) (g : PyData → PyData) : List PyData := (ds.filter f).map g
theorem picked_len (ds : List PyData) (f : PyData → Bool) (g : PyData → PyData) : (picked ds f g).length ≤ ds.length := by
  unfold picked
  rw [List.length_map]
  exact List.length_filter_le f ds
theorem picked_more {ds : List PyData} {f : PyData → Bool} {g : PyData → PyData} {i : Nat} {e : PyData} (h : ds[i]? = some e) :
    picked (ds.take (i + 1)) f g = picked (ds.take i) f g ++ (if f e = true then [g e] else []) := by
  unfold picked
  rw [List.take_add_one, h]
  show List.map g (List.filter f (ds.take i ++ [e])) = _
  rw [List.filter_append, List.map_append]
  congr 1
  rw [List.filter_cons]
  split <;> rfl
def Cz (K : Fg) (B H : Hp) (D : Addr) (out : List PyData) (H' : Hp) : Prop := ∃ B' acc, Le B H B' H' ∧ B' D = none ∧ H' D = some (.lst acc) ∧ Das K B' acc out
theorem cz_start {B H : Hp} {D : Addr} (s : Ex B H) (hD : H D = none) : Cz K B H D [] (upd H D (.lst [])) :=
  ⟨B, [], ⟨Ex.new hD, Ex.refl B, s.trans (Ex.new hD), fun _ h _ => h⟩, Evl.fresh_back s hD, upd_same, .nil⟩
theorem cz_end {B H H' : Hp} {D : Addr} {out : List PyData} (hD : H D = none) (c : Cz K B H D out H') : ∃ B', Le B H B' H' ∧ Da K B' (.ref D) (.list out) := by
  obtain ⟨B', acc, l, n, e, h⟩ := c
  have k : Ex B' (upd B' D (.lst acc)) := fun a o q => by
    rw [upd_ne (ne_of_none q n)]
    exact q
  refine ⟨upd B' D (.lst acc), ⟨l.ex, l.ek.trans k, fun a o q => ?_, fun a h1 h2 => ?_⟩, .lst upd_same (h.ex k)⟩
  · by_cases z : a = D
    · subst z
      rw [upd_same] at q
      cases q
      exact e
    · rw [upd_ne z] at q
      exact l.sub a o q
  · rw [upd_ne (fun z => h2 (by rw [z]; exact hD))]
    exact l.old a h1 h2
theorem cz_turn {B H : Hp} {D : Addr} {out : List PyData} {H' : Hp} {σ' : L2.St} {ρ' : En} {b : Bool} {y : PyData} (hD : H D = none) (c : Cz K B H D out H') (sd : SD K B σ' ρ') (hl : out.length ≤ 50000) (ht : ET K tt ρ' b) (he : b = true → ED K te ρ' y) {P : Hp → Prop}
    (h1 : b = true → ∀ H2, Cz K B H D (out ++ [y]) H2 → P H2) (h0 : b = false → ∀ H2, Cz K B H D out H2 → P H2) :
    tt σ' H' fun b2 H3 => if b2 = true then te σ' H3 fun v H4 => ∃ acc, H4 D = some (.lst acc) ∧ acc.length < sizeLine ∧ P (upd H4 D (.lst (acc ++ [v]))) else P H3 := by
  obtain ⟨B', acc, l, n, e, h⟩ := c
  refine ht σ' B' H' l.sub (sd.up l.ek) _ fun B3 H3 l3 => ?_
  have n3 : B3 D = none := l3.old D n (fun z => by rw [e] at z; cases z)
  cases b with
  | false => exact h0 rfl H3 ⟨B3, acc, l.tr l3, n3, l3.ex D _ e, h.ex l3.ek⟩
  | true =>
    show te σ' H3 _
    refine he rfl σ' B3 H3 l3.sub (sd.up (l.tr l3).ek) _ fun v B4 H4 l4 d4 => ?_
    have e3 := l3.ex D _ e
    have n4 : B4 D = none := l4.old D n3 (fun z => by rw [e3] at z; cases z)
    refine ⟨acc, l4.ex D _ e3, Evl.sz_lt (by rw [h.len]; omega), h1 rfl _ ⟨B4, acc ++ [v], ⟨fun a o q => ?_, (l.tr (l3.tr l4)).ek, fun a o q => ?_, (l.tr (l3.tr l4)).old⟩, n4, upd_same, (h.ex (l3.tr l4).ek).app (.cons d4 .nil)⟩⟩
    · by_cases z : a = D
      · subst z
        rw [hD] at q
        cases q
      · rw [upd_ne z]
        exact (l.tr (l3.tr l4)).ex a o q
    · rw [upd_ne (ne_of_none q n4)]
      exact l4.sub a o q
theorem wipe_set {α : Type} : ∀ (vs : List Nat) (l : List (Option α)) (j : Nat) (o : Option α) (w : List (Option α) → List Nat → List (Option α)) (hw0 : ∀ l, w l [] = l) (hw1 : ∀ l v vs, w l (v :: vs) = (w l vs).set v none), j ∈ vs → w ((w l vs).set j o) vs = w (w l vs) vs
  | v :: vs, l, j, o, w, h0, h1, hj => by
    rw [h1, h1 ((w l (v :: vs)))]
    by_cases e : j ∈ vs
    · have ih := fun l' => wipe_set vs l' j o w h0 h1 e
      have c : ∀ (l' : List (Option α)) (i : Nat) (q : Option α) (us : List Nat), (i ∉ us) → w (l'.set i q) us = (w l' us).set i q := by
        intro l' i q us
        induction us with
        | nil =>
          intro _
          rw [h0, h0]
        | cons u us ihu =>
          intro hn
          rw [List.mem_cons, not_or] at hn
          rw [h1, h1, ihu hn.2, List.set_comm _ _ hn.1]
      by_cases e2 : v ∈ vs
      · have d : ∀ (l' : List (Option α)) (q : Option α) (us : List Nat), v ∈ us → w (l'.set v q) us = w l' us := by
          intro l' q us
          induction us with
          | nil => exact fun z => nomatch z
          | cons u us ihu =>
            intro hn
            rw [h1, h1]
            by_cases e3 : v ∈ us
            · rw [ihu e3]
            · rcases List.mem_cons.mp hn with z | z
              · subst z
                rw [c _ _ _ _ e3, List.set_set]
              · exact (e3 z).elim
        have d' : ∀ (l' : List (Option α)) (q : Option α) (us : List Nat), j ∈ us → w (l'.set j q) us = w l' us := by
          intro l' q us
          induction us with
          | nil => exact fun z => nomatch z
          | cons u us ihu =>
            intro hn
            rw [h1, h1]
            by_cases e3 : j ∈ us
            · rw [ihu e3]
            · rcases List.mem_cons.mp hn with z | z
              · subst z
                rw [c _ _ _ _ e3, List.set_set]
              · exact (e3 z).elim
        rw [d' _ _ _ e]
      · have d' : ∀ (l' : List (Option α)) (q : Option α) (us : List Nat), j ∈ us → w (l'.set j q) us = w l' us := by
          intro l' q us
          induction us with
          | nil => exact fun z => nomatch z
          | cons u us ihu =>
            intro hn
            rw [h1, h1]
            by_cases e3 : j ∈ us
            · rw [ihu e3]
            · rcases List.mem_cons.mp hn with z | z
              · subst z
                rw [c _ _ _ _ e3, List.set_set]
              · exact (e3 z).elim
        rw [d' _ _ _ e]
    · have ev : j = v := (List.mem_cons.mp hj).resolve_right e
      subst ev
      have c : ∀ (l' : List (Option α)) (i : Nat) (q : Option α) (us : List Nat), (i ∉ us) → w (l'.set i q) us = (w l' us).set i q := by
        intro l' i q us
        induction us with
        | nil =>
          intro _
          rw [h0, h0]
        | cons u us ihu =>
          intro hn
          rw [List.mem_cons, not_or] at hn
          rw [h1, h1, ihu hn.2, List.set_comm _ _ hn.1]
      rw [c _ _ _ _ e, List.set_set]
theorem wipe_none {σ : L2.St} : ∀ vs : List Nat, L2.wipe (L2.wipe σ vs) vs = L2.wipe σ vs := by
  have c : ∀ (us : List Nat) (l : L2.St) (i : Nat), L2.wipe (l.set i none) us = (L2.wipe l us).set i none := by
    intro us
    induction us with
    | nil => exact fun _ _ => rfl
    | cons u us ih =>
      intro l i
      show (L2.wipe (l.set i none) us).set u none = ((L2.wipe l us).set u none).set i none
      rw [ih]
      by_cases e : i = u
      · rw [e]
      · rw [List.set_comm _ _ e]
  intro vs
  induction vs with
  | nil => rfl
  | cons v vs ih =>
    show (L2.wipe ((L2.wipe σ vs).set v none) vs).set v none = (L2.wipe σ vs).set v none
    rw [c, ih, List.set_set]
theorem ed_lcL {tl : TE} {j : Nat} {vs : List Nat} {ds : List PyData} (f : PyData → Bool) (g : PyData → PyData) (h : ED K tl ρ (.list ds)) (hj : j ∈ vs) (hz : ds.length ≤ 40000)
    (ht : ∀ d, d ∈ ds → ET K tt ((wipeD ρ vs).set j (some d)) (f d)) (he : ∀ d, d ∈ ds → f d = true → ED K te ((wipeD ρ vs).set j (some d)) (g d)) :
    ED K (tLc (iList K tl) (gName j) tt te vs) ρ (.list (picked ds f g)) := fun σ B H s sd Q q =>
  h σ B H s sd _ fun v B1 H1 l1 d1 => by
    cases d1 with
    | @lst p xs _ ha hs =>
      have hx : SqL K H1 p xs := SqL.of (l1.sub _ _ ha)
      refine ⟨p, rfl, ⟨xs, hx⟩, fun D hD => ?_⟩
      refine lc_list (K := K) (a := p) (xs := xs) (fun i H' => Cz K B1 H1 D (picked (ds.take i) f g) H') (cz_start l1.sub hD) (fun i H' _ ⟨B', acc, l, _⟩ => SqL.of (l.ex _ _ (l1.sub _ _ ha))) (fun i x H' hi c => ?_) (fun H' c => ?_)
      · obtain ⟨e, he1, hd⟩ := hs.get hi
        have me : e ∈ ds := List.mem_of_getElem? he1
        refine ⟨?_, ?_⟩
        · exact wipe_set vs σ j (some x) L2.wipe (fun _ => rfl) (fun _ _ _ => rfl) hj |>.trans (wipe_none vs)
        · refine cz_turn hD c ((((sd.up l1.ek).wipe vs)).put j hd) ?_ (ht e me) (he e me) (fun hf H2 c2 => ?_) (fun hf H2 c2 => ?_)
          · have z1 := picked_len (ds.take i) f g
            have z2 : (ds.take i).length ≤ ds.length := by
              rw [List.length_take]
              omega
            omega
          · show Cz K B1 H1 D (picked (ds.take (i + 1)) f g) H2
            rw [picked_more he1, if_pos hf]
            exact c2
          · show Cz K B1 H1 D (picked (ds.take (i + 1)) f g) H2
            rw [picked_more he1, if_neg (by rw [hf]; exact Bool.false_ne_true), List.append_nil]
            exact c2
      · have e : ds.take xs.length = ds := by
          rw [hs.len]
          exact List.take_length
        rw [e] at c
        obtain ⟨B', l, hd⟩ := cz_end hD c
        exact q _ _ _ (l1.tr l) hd
theorem et_yes {ρ : En} : ET K tYes ρ true := fun σ B H s sd Q q => q B H (Le.rfl' s)
end
end TD
set_option maxHeartbeats 4000000
namespace TD
open PySem PySem.Spec PyProof.Rows L2
open Evl (Ex)
section
variable (P : Program) (w : World) (K : Fg) (mg : Str → Option Value) (base : Heap)
def Fc (x : Str) (ps : List Str) (k : Nat) (sp : Sp) : Prop :=
  ∃ (f : Addr) (fd : FuncData), mg x = some (.ref f) ∧ PySem.W.keepIn K (.ref f) = true ∧ Binds K fd ps [] ∧ FnG P w K mg base CX0 k f fd ps sp
def At (x : Str) (st : Stmt) : Prop := ∃ (f : Addr) (fd : FuncData), Fun K x x st f fd ∧ mg x = some (.ref f)
end
section
variable {P : Program} {w : World} {K : Fg} {mg : Str → Option Value} {base : Heap} {x : Str} {ps N : List Str} {k : Nat} {st : Stmt}
def XR (K : Fg) (t : TS) (ρ : En) (d : PyData) : Prop := XS K t ρ (.ret d) ∨ (d = .none ∧ ∃ ρ', XS K t ρ (.nx ρ'))
theorem xr_ret {t : TS} {ρ : En} {d : PyData} (h : XS K t ρ (.ret d)) : XR K t ρ d := .inl h
def enOf (N : List Str) (ds : List PyData) : En := ds.map some ++ List.replicate (N.length - ds.length) none
theorem sd_start {B : Hp} {N : List Str} {vs : List V} {ds : List PyData} (h : Das K B vs ds) : SD K B (L2.start N vs) (enOf N ds) := by
  have hl := h.len
  refine ⟨by unfold L2.start enOf; simp [hl], fun i d e => ?_⟩
  unfold enOf at e
  by_cases hi : i < ds.length
  · rw [List.getElem?_append_left (by rw [List.length_map]; exact hi), List.getElem?_map] at e
    obtain ⟨d2, e1, e2⟩ := Option.map_eq_some_iff.mp e
    cases e2
    obtain ⟨v, hv, hd⟩ := h.getD e1
    refine ⟨v, ?_, hd⟩
    unfold L2.start
    rw [List.getElem?_append_left (by rw [List.length_map, hl]; exact hi), List.getElem?_map, hv]
    rfl
  · rw [List.getElem?_append_right (by rw [List.length_map]; omega), List.getElem?_replicate] at e
    split at e <;> cases e
theorem sp_len {R : List PyData → PyData → Prop} (hl : ∀ ds d, R ds d → ds.length = ps.length) : ∀ vs H Q E, SpR K R vs H Q E → vs.length = ps.length := fun vs H Q E ⟨B, ds, d, _, h, r, _⟩ => h.len.trans (hl ds d r)
theorem fc_mk {R : List PyData → PyData → Prop} (a : At K mg x st) (S : FnScope N ps (defScope st))
    (hb : ∀ (kV doc pm : Value) (an : Option Addr) (cdv ct : Value) (us : List Value), us.length = ps.length → bindArgs (PySem.W.fnOf x x (defArgs st) (defBody st) (defScope st) .none kV doc pm an cdv ct) ⟨us, []⟩ = pure (ps.zip us))
    (hl : ∀ ds d, R ds d → ds.length = ps.length)
    (body : ∀ (f : Addr) (cdv : Value) (A : Around) (outer : List Env) (s : Shared) (H : Hp) (E : XK), A.guards = some [] → Room k (A.deeper (envOfC x (defScope st) s.heap.objs.size f cdv)) →
      ∃ t, PSs (cxOf CX0 P w K mg base N x (defScope st) f cdv A outer s H E).nox (defBody st) t ∧ ∀ ds d, R ds d → XR K t (enOf N ds) d) : Fc P w K mg base x ps (k + 1) (SpR K R) := by
  obtain ⟨f, fd, F, hm⟩ := a
  refine ⟨f, fd, hm, F.kp, F.binds hb, fnG F S (sp_len hl) ?_⟩
  intro cdv A outer s H vs Q E gu hr ⟨B, ds, d, sx, hd, r, q⟩
  obtain ⟨t, ht, hx⟩ := body f cdv A outer s H E gu hr
  refine ⟨t, ht.nox, ?_⟩
  have sd := sd_start (N := N) hd
  rcases hx ds d r with h | ⟨rfl, ρ', h⟩
  · exact h _ B H _ sx sd q
  · exact h _ B H _ sx sd fun σ' B' H' l _ => q _ B' H' l .non
end
section
variable {X : Cx} {x : Str} {ps ks : List Str} {k : Nat} {sp : Sp} {E : XK} {p pos : Pos} {e : Expr} {es : List Expr} {t tk : TA} {kws : List Keyword}
theorem pe_f (c : Fc X.prog X.w X.K X.mg X.base x ps k sp) (gu : X.A.guards = some []) (hr : Room k X.A) (hg : Gl X x) (ha : PA X (e :: es) t)
    (d1 : (x == ("__debug__" : Str)) = false := by decide)
    (d2 : starEach (e :: es) X.env = (false, eval e X.env) :: starEach es X.env := by rfl)
    (d3 : (backTo pos (starEach es X.env)).any (·.1) = false := by rfl) :
    PE X (.Call (.Name x p) (e :: es) [] pos) (tCall sp [] E0 t) := by
  obtain ⟨f, fd, hm, kp, hb, F⟩ := c
  exact pe_g F gu hr hg hm kp hb pass0 ha d1 d2 d3
end
end TD
set_option maxHeartbeats 4000000
namespace TD
open PySem PySem.Spec PyProof.Rows L2
open Evl (Ex)
section
variable {K : Fg} {ρ ρ' : En} {te : TE} {x y z d : PyData}
theorem Das.inv1 {B : Hp} {vs : List V} {ds : List PyData} (h : Das K B vs (x :: ds)) : ∃ v r, vs = v :: r ∧ Da K B v x ∧ Das K B r ds := by
  cases h with
  | cons a t => exact ⟨_, _, rfl, a, t⟩
def TGs_ (K : Fg) (g : TGs) (ds : List PyData) (ρ ρ' : En) : Prop := ∀ σ vs B H, Ex B H → SD K B σ ρ → Das K B vs ds → ∀ Q : L2.St → Hp → Prop, (∀ σ', SD K B σ' ρ' → Q σ' H) → g vs σ H Q
theorem tgs_nil : TGs_ K gNil [] ρ ρ := fun σ vs B H s sd h Q q => by
  cases h
  exact ⟨rfl, q σ sd⟩
theorem tgs_cons {g : TG} {gs : TGs} {ds : List PyData} {ρ1 : En} (h1 : TG_ K g d ρ ρ1) (h2 : TGs_ K gs ds ρ1 ρ') : TGs_ K (gCons g gs) (d :: ds) ρ ρ' := fun σ vs B H s sd h Q q => by
  obtain ⟨v, r, rfl, a, t⟩ := h.inv1
  exact ⟨v, r, rfl, h1 σ v B H s sd a _ fun σ' s' => h2 σ' r B H s s' t Q q⟩
theorem tg_tup {gs : TGs} {ds : List PyData} {n : Nat} (h : TGs_ K gs ds ρ ρ') (hn : ds.length = n := by rfl) : TG_ K (gTup K n gs) (.tuple ds) ρ ρ' := fun σ v B H s sd hd Q q => by
  cases hd with
  | tup ha hs => exact ⟨_, _, rfl, SqT.of (s _ _ ha), hs.len.trans hn, h σ _ B H s sd hs Q q⟩
theorem picked_all (ds : List PyData) (g : PyData → PyData) : picked ds (fun _ => true) g = ds.map g := by
  unfold picked
  rw [List.filter_eq_self.mpr (fun _ _ => rfl)]
theorem ed_allL {tl : TE} {j : Nat} {vs : List Nat} {ds : List PyData} (p : PyData → Bool) (h : ED K tl ρ (.list ds)) (hj : j ∈ vs) (hz : ds.length ≤ 40000)
    (he : ∀ d, d ∈ ds → ED K te ((wipeD ρ vs).set j (some d)) (.bool (p d))) :
    ED K (tCB (rAll K) (tCons (tLc (iList K tl) (gName j) tYes te vs) tNil)) ρ (.bool (ds.all p)) := by
  have h1 := ed_lcL (te := te) (tt := tYes) (fun _ => true) (fun d => .bool (p d)) h hj hz (fun _ _ => et_yes) (fun d m _ => he d m)
  rw [picked_all] at h1
  have e : (ds.map fun d => PyData.bool (p d)) = (ds.map p).map PyData.bool := by rw [List.map_map]; rfl
  have e2 : ds.all p = (ds.map p).all id := by rw [List.all_map]; rfl
  rw [e] at h1
  rw [e2]
  exact ed_cb (ea_cons h1 ea_nil) rc_all
end
end TD
set_option maxHeartbeats 4000000
namespace TD
open PySem PySem.Spec PyProof.Rows L2
open Evl (Ex)
def GenAt (g : Addr) (n : Nat) (H : Hp) : Prop := ∃ a b c : Int, H g = some (.lst [.int a, .int b, .int c]) ∧ 0 ≤ a ∧ (0 ≤ b ∧ b < 2147483647) ∧ 0 ≤ c ∧ c + (n : Int) ≤ 1000000000
theorem GenAt.ex {g : Addr} {n : Nat} {H H' : Hp} (h : GenAt g n H) (e : Ex H H') : GenAt g n H' := by
  obtain ⟨a, b, c, h1, r⟩ := h
  exact ⟨a, b, c, e g _ h1, r⟩
theorem GenAt.some {g : Addr} {n : Nat} {H : Hp} (h : GenAt g n H) : H g ≠ none := by
  obtain ⟨a, b, c, h1, r⟩ := h
  rw [h1]
  exact fun z => nomatch z
structure LeG (g : Addr) (B H B' H' : Hp) : Prop where
  ex : ∀ a o, a ≠ g → H a = some o → H' a = some o
  ek : Ex B B'
  sub : Ex B' H'
  old : ∀ a, B a = none → H a ≠ none → B' a = none
theorem LeG.of {g : Addr} {B H B' H' : Hp} (l : Le B H B' H') : LeG g B H B' H' := ⟨fun a o _ => l.ex a o, l.ek, l.sub, l.old⟩
theorem LeG.tr {g : Addr} {B H B1 H1 B2 H2 : Hp} (a : LeG g B H B1 H1) (b : LeG g B1 H1 B2 H2) (s : H1 g ≠ none) : LeG g B H B2 H2 :=
  ⟨fun x o n h => b.ex x o n (a.ex x o n h), a.ek.trans b.ek, b.sub, fun x h1 h2 => b.old x (a.old x h1 h2) (fun z => by
    by_cases q : x = g
    · subst q
      exact s z
    · cases q2 : H x with
      | none => exact h2 q2
      | some o =>
        rw [a.ex x o q q2] at z
        cases z)⟩
section
variable (K : Fg)
end
section
variable {K : Fg} {j : Nat} {ρ ρ' : En} {ta tb te : TE} {tt : TT} {n m k : Nat} {P P1 P2 P3 : PyData → Prop}
theorem LeG.g {g : Addr} {B H B' H' : Hp} (l : LeG g B H B' H') (h : B g = none) (s : H g ≠ none) : B' g = none := l.old g h s
end
end TD
set_option maxHeartbeats 4000000
namespace TD
open PySem PySem.Spec PyProof.Rows L2
def isWhole (d : PyData) : Bool := isT "int" d && !isT "bool" d
def isCount : PyData → Bool
  | .int i => decide (0 ≤ i)
  | _ => false
def isTup (n : Int) : PyData → Bool
  | .tuple ds => decide ((ds.length : Int) = n)
  | _ => false
def fitsRoom (r : Int) : PyData → Bool
  | .int i => decide (0 ≤ i) && decide (i < r)
  | _ => false
def asc (r : Int) : Int → List PyData → Bool
  | _, [] => true
  | a, .int i :: ds => (decide (0 ≤ i) && decide (i < r)) && (decide (a < i) && asc r i ds)
  | _, _ :: _ => false
def fitsLights (r : Int) : PyData → Bool
  | .list ds => asc r (-1) ds
  | _ => false
def fitsPresses (r : Int) : PyData → Bool
  | .list ds => ds.all (fitsLights r)
  | _ => false
def isShift : PyData → Bool
  | .int i => decide (-1 ≤ i) && decide (i ≤ 1)
  | _ => false
def fitsDoor (r : Int) : PyData → Bool
  | .tuple [n, m, s] => fitsLights r n && (fitsRoom r m && isShift s)
  | _ => false
def fitsLevel2 : PyData → PyData → Bool
  | .int r, .list ds => decide (1 ≤ r) && ds.all (fitsDoor r)
  | _, _ => false
def fitsLevel : PyData → Bool
  | .tuple [a, b] => fitsLevel2 a b
  | _ => false
theorem whole_int {d : PyData} (h : isWhole d = true) : ∃ i, d = .int i := by
  cases d <;> first | exact ⟨_, rfl⟩ | (revert h; decide) | (revert h; unfold isWhole isT; simp)
def Sm (d : PyData) : Prop := ∀ ds, (d = .list ds ∨ d = .tuple ds) → ds.length ≤ 30000
end TD
set_option maxHeartbeats 4000000
namespace TD
open PySem PySem.Spec PyProof.Rows L2
open PySem.W (alike alikeAll dataLt lt_data ge_data)
section
variable {X : Cx}
theorem ix_listK {K : Fg} (hK : X.K = K) : IxR X (rIxL K) := hK ▸ ix_list
theorem ix_tupK {K : Fg} (hK : X.K = K) : IxR X (rIxT K) := hK ▸ ix_tup
end
section
variable {K : Fg} {ρ : En} {te : TE} {x y : PyData}
end
end TD
set_option maxHeartbeats 4000000
namespace TD
open PySem PySem.Spec PyProof.Rows L2
open Evl (Ex)
def tNo : TS := fun _ _ _ => False
theorem ps_no {X : Cx} {st : Stmt} : PS X st tNo := ⟨fun _ _ _ _ _ _ h => h.elim⟩
section
variable (P : Program) (w : World) (K : Fg) (mg : Str → Option Value) (base : Heap)
end
section
variable {P : Program} {w : World} {K : Fg} {mg : Str → Option Value} {base : Heap} {x : Str} {ps ks N : List Str} {k : Nat} {st : Stmt}
end
section
variable {X : Cx} {x : Str} {ps ks : List Str} {k : Nat} {sp : Sp} {p pos : Pos} {tk : TA} {kws : List Keyword} {g : List Value → List Value} {gV : List V → List V}
end
end TD
set_option maxHeartbeats 4000000
namespace TD
open PySem PySem.Spec PyProof.Rows L2
open Evl (Ex)
section
variable {P : Program} {w : World} {A : Around} {E : Value → Shared → Prop} {s : Shared}
end
end TD
set_option maxHeartbeats 4000000
namespace TD
open PySem PySem.Spec PyProof.Rows L2
open Evl (Ex)
section
section
variable {K : Fg} {ds : List PyData}
def put (i : Int) : List Int → List Int
  | [] => [i]
  | j :: l => if i < j then i :: j :: l else if i = j then j :: l else j :: put i l
end
end
end TD
set_option maxHeartbeats 4000000
namespace TD
open PySem PySem.Spec PyProof.Rows L2
open Evl (Ex)
open PySem.W (alike alikeAll dataLt)
mutual
def szOk : PyData → Bool
  | .list ds => decide (ds.length ≤ 50) && szAll ds
  | .tuple ds => decide (ds.length ≤ 50) && szAll ds
  | _ => true
def szAll : List PyData → Bool
  | [] => true
  | d :: ds => szOk d && szAll ds
end
end TD
set_option maxHeartbeats 4000000
namespace TD
open PySem PySem.Spec PyProof.Rows L2
open Evl (Ex)
section
variable {P : Program} {w : World} {K : Fg} {mg : Str → Option Value} {base : Heap} {x : Str} {ps N : List Str} {k c : Nat} {st : Stmt}
end
end TD
set_option maxHeartbeats 4000000
namespace TD
open PySem PySem.Spec PyProof.Rows L2
open Evl (Ex)
section
variable {K : Fg} {j : Nat} {ρ : En} {te : TE} {t : TS} {n m o : Nat} {P P1 : PyData → Prop}
end
end TD
set_option maxHeartbeats 4000000
namespace TD
open PySem PySem.Spec PyProof.Rows L2
open Evl (Ex)
open PySem.W (AllAlike Sortable EachIs dataLe sorted_data)
section
variable {K : Fg} {ρ : En} {te : TE} {ds : List PyData}
end
end TD
set_option maxHeartbeats 4000000
namespace TD
open PySem PySem.Spec PyProof.Rows L2
open Evl (Ex)
structure Gd (k w : Nat) (d : PyData) : Prop where
  sz : szOk d = true
  sh : d.showable = true
  dp : d.depth ≤ k
  up : TD.sz d ≤ w
theorem Gd.up' {k k' w w' : Nat} {d : PyData} (h : Gd k w d) (hk : k ≤ k') (hw : w ≤ w') : Gd k' w' d := ⟨h.sz, h.sh, Nat.le_trans h.dp hk, Nat.le_trans h.up hw⟩
section
variable {K : Fg} {j : Nat} {ρ : En} {te : TE} {tr : TA} {n m k l : Nat} {G : PyData → Prop}
end
end TD
set_option maxHeartbeats 4000000
namespace TD
open PySem PySem.Spec PyProof.Rows L2
open Evl (Ex)
def cutD (ds : List PyData) (lo hi : Option Int) : List PyData := (ds.drop (HT.sIx ds.length 0 lo)).take (HT.sIx ds.length ds.length hi - HT.sIx ds.length 0 lo)
section
variable {K : Fg} {ρ : En} {te : TE} {ds : List PyData}
end
end TD
set_option maxHeartbeats 4000000
namespace TD
open PySem PySem.Spec PyProof.Rows L2
open Evl (Ex)
section
variable {K : Fg} {j : Nat} {ρ ρ1 ρ2 : En} {te : TE} {tt : TT} {t u : TS} {d x y : PyData}
end
theorem rc_repr {K : Fg} {d : PyData} (hf : Fine d) : RcD K (rRepr K) [d] (.str d.shown) := fun vs B H s h Q q => by
  obtain ⟨v, r, rfl, a, t⟩ := h.inv1
  cases t
  exact ⟨v, d, rfl, a.ex s, hf, q _ B H (Le.rfl' s) (.str _)⟩
end TD
set_option maxHeartbeats 4000000
namespace TD
open PySem PySem.Spec PyProof.Rows L2
open Evl (Ex)
def CPc (P : Program) (w : World) (K : Fg) (mg : Str → Option Value) (base : Heap) (k : Nat) : Addr → Sp → Prop := fun f sp => ∃ x ps, Fc P w K mg base x ps k sp ∧ mg x = some (.ref f)
def tCallN (CP : Addr → Sp → Prop) (i : Nat) (t : TA) : TE := fun σ H Q => ∃ f sp, σ[i]? = some (some (.ref f)) ∧ CP f sp ∧ t σ H fun vs H2 => sp vs H2 Q E0
section
variable {X : Cx} {e : Expr} {es : List Expr} {pos : Pos} {t : TA} {k : Nat}
theorem pe_callNc {a : Str} {p : Pos} {i : Nat} {CP : Addr → Sp → Prop} (hcp : ∀ f sp, CP f sp → CPc X.prog X.w X.K X.mg X.base k f sp) (gu : X.A.guards = some []) (hr : Room k X.A) (hN : X.N[i]? = some a) (hv : Vis X.env.scope a) (ha : PA X (e :: es) t)
    (z1 : (a == ("__debug__" : Str)) = false := by decide) (z2 : (a == ("__classdict__" : Str)) = false := by decide)
    (d2 : starEach (e :: es) X.env = (false, eval e X.env) :: starEach es X.env := by rfl)
    (d3 : (backTo pos (starEach es X.env)).any (·.1) = false := by rfl) :
    PE X (.Call (.Name a p) (e :: es) [] pos) (tCallN CP i t) := by
  refine ⟨fun pins s σ H Q I ⟨f, sp, hs, hcp1, q⟩ => ?_⟩
  obtain ⟨x, ps, ⟨f', fd, hm', kp, hb, F⟩, hm⟩ := hcp f sp hcp1
  rw [hm] at hm'
  cases hm'
  refine wpAny_Call_Name_kw (thn ((pe_var (pos := p) (i := i) hN hv z1 z2).run pins s σ H (fun v H1 => v = .ref f ∧ H1 = H) I ⟨.ref f, hs, rfl, rfl⟩) fun u s1 ⟨v, H1, I1, r1, ev, eh⟩ => ?_)
  subst ev
  subst eh
  cases (show u = Value.ref f from r1)
  refine PySem.W.callWith_K (h₀ := X.base) I1.ok.mod.kin kp (thn (ha.run pos pins s1 σ H1 _ I1 q) ?_) d2 d3
  intro us s2 ⟨vs, H2, I2, r, q2⟩
  have b := hb s2 us I2.kIn (by rw [List.append_nil, ← r.length]; exact F.ln _ _ _ _ q2)
  rw [List.append_nil] at b
  exact ⟨I2.kIn, runG F gu hr b pass0 I2 r q2⟩
end
section
variable {P : Program} {w : World} {K : Fg} {mg : Str → Option Value} {base : Heap} {x : Str} {ps N : List Str} {k : Nat} {st : Stmt} {sp : Sp}
theorem fcg_mk (a : At K mg x st) (S : FnScope N ps (defScope st))
    (hb : ∀ (kV doc pm : Value) (an : Option Addr) (cdv ct : Value) (us : List Value), us.length = ps.length → bindArgs (PySem.W.fnOf x x (defArgs st) (defBody st) (defScope st) .none kV doc pm an cdv ct) ⟨us, []⟩ = pure (ps.zip us))
    (hl : ∀ vs H Q E, sp vs H Q E → vs.length = ps.length)
    (body : ∀ (f : Addr) (cdv : Value) (A : Around) (outer : List Env) (s : Shared) (H : Hp) (vs : List V) (Q : VK) (E : XK), A.guards = some [] → Room k (A.deeper (envOfC x (defScope st) s.heap.objs.size f cdv)) → sp vs H Q E →
      ∃ t, PSs (cxOf CX0 P w K mg base N x (defScope st) f cdv A outer s H E).nox (defBody st) t ∧ t { nx := fun _ H' => Q .non H', rt := Q } (L2.start N vs) H) : Fc P w K mg base x ps (k + 1) sp := by
  obtain ⟨f, fd, F, hm⟩ := a
  refine ⟨f, fd, hm, F.kp, F.binds hb, fnG F S hl ?_⟩
  intro cdv A outer s H vs Q E gu hr h
  obtain ⟨t, ht, hx⟩ := body f cdv A outer s H vs Q E gu hr h
  exact ⟨t, ht.nox, hx⟩
end
section
variable {K : Fg} {ρ ρ' : En} {te : TE} {J : L2.St → Prop} {d : PyData}
def EDs (K : Fg) (J : L2.St → Prop) (te : TE) (ρ : En) (d : PyData) : Prop := ∀ σ, J σ → ∀ B H, Ex B H → SD K B σ ρ → ∀ Q : VK, (∀ v B' H', Le B H B' H' → Da K B' v d → Q v H') → te σ H Q
theorem eds_callN {CP : Addr → Sp → Prop} {f : Addr} {R : List PyData → PyData → Prop} {i : Nat} {ta : TA} {ds : List PyData} (c : CP f (SpR K R)) (ha : EA K ta ρ ds) (hR : R ds d) : EDs K (fun σ => σ[i]? = some (some (.ref f))) (tCallN CP i ta) ρ d := fun σ hs B H s sd Q q =>
  ⟨f, _, hs, c, ha σ B H s sd _ fun vs B1 H1 l1 d1 => ⟨B1, ds, d, l1.sub, d1, hR, fun u B2 H2 l2 d2 => q u B2 H2 (l1.tr l2) d2⟩⟩
theorem czs_turn {B H : Hp} {D : Addr} {out : List PyData} {H' : Hp} {σ' : L2.St} {y : PyData} (hD : H D = none) (c : Cz K B H D out H') (sd : SD K B σ' ρ') (js : J σ') (hl : out.length ≤ 50000) (he : EDs K J te ρ' y) {P : Hp → Prop}
    (h1 : ∀ H2, Cz K B H D (out ++ [y]) H2 → P H2) :
    tYes σ' H' fun b2 H3 => if b2 = true then te σ' H3 fun v H4 => ∃ acc, H4 D = some (.lst acc) ∧ acc.length < sizeLine ∧ P (upd H4 D (.lst (acc ++ [v]))) else P H3 := by
  obtain ⟨B', acc, l, n, e, h⟩ := c
  show te σ' H' _
  refine he σ' js B' H' l.sub (sd.up l.ek) _ fun v B4 H4 l4 d4 => ?_
  have n4 : B4 D = none := l4.old D n (fun z => by rw [e] at z; cases z)
  refine ⟨acc, l4.ex D _ e, Evl.sz_lt (by rw [h.len]; omega), h1 _ ⟨B4, acc ++ [v], ⟨fun a o q => ?_, (l.tr l4).ek, fun a o q => ?_, (l.tr l4).old⟩, n4, upd_same, (h.ex l4.ek).app (.cons d4 .nil)⟩⟩
  · by_cases z : a = D
    · subst z
      rw [hD] at q
      cases q
    · rw [upd_ne z]
      exact (l.tr l4).ex a o q
  · rw [upd_ne (ne_of_none q n4)]
    exact l4.sub a o q
theorem eds_lcL {tl : TE} {j : Nat} {vs : List Nat} {ds : List PyData} (g : PyData → PyData) (h : ED K tl ρ (.list ds)) (hj : j ∈ vs) (hz : ds.length ≤ 40000) (hJ : ∀ σ x, J σ → J ((L2.wipe σ vs).set j (some x)))
    (he : ∀ d, d ∈ ds → EDs K J te ((wipeD ρ vs).set j (some d)) (g d)) : EDs K J (tLc (iList K tl) (gName j) tYes te vs) ρ (.list (ds.map g)) := fun σ js B H s sd Q q =>
  h σ B H s sd _ fun v B1 H1 l1 d1 => by
    cases d1 with
    | @lst p xs _ ha hs =>
      have hx : SqL K H1 p xs := SqL.of (l1.sub _ _ ha)
      refine ⟨p, rfl, ⟨xs, hx⟩, fun D hD => ?_⟩
      refine lc_list (K := K) (a := p) (xs := xs) (fun i H' => Cz K B1 H1 D ((ds.take i).map g) H') (cz_start l1.sub hD) (fun i H' _ ⟨B', acc, l, _⟩ => SqL.of (l.ex _ _ (l1.sub _ _ ha))) (fun i x H' hi c => ?_) (fun H' c => ?_)
      · obtain ⟨e, he1, hd⟩ := hs.get hi
        have me : e ∈ ds := List.mem_of_getElem? he1
        refine ⟨?_, ?_⟩
        · exact wipe_set vs σ j (some x) L2.wipe (fun _ => rfl) (fun _ _ _ => rfl) hj |>.trans (wipe_none vs)
        · refine czs_turn hD c ((((sd.up l1.ek).wipe vs)).put j hd) (hJ σ x js) ?_ (he e me) (fun H2 c2 => ?_)
          · have z2 : ((ds.take i).map g).length ≤ ds.length := by
              rw [List.length_map, List.length_take]
              omega
            omega
          · show Cz K B1 H1 D ((ds.take (i + 1)).map g) H2
            have e : (ds.take (i + 1)).map g = (ds.take i).map g ++ [g e] := by
              rw [List.take_add_one, he1, List.map_append]
              rfl
            rw [e]
            exact c2
      · have e : ds.take xs.length = ds := by
          rw [hs.len]
          exact List.take_length
        rw [e] at c
        obtain ⟨B', l, hd⟩ := cz_end hD c
        exact q _ _ _ (l1.tr l) hd
theorem eds_allL {tl : TE} {j : Nat} {vs : List Nat} {ds : List PyData} (p : PyData → Bool) (h : ED K tl ρ (.list ds)) (hj : j ∈ vs) (hz : ds.length ≤ 40000) (hJ : ∀ σ x, J σ → J ((L2.wipe σ vs).set j (some x)))
    (he : ∀ d, d ∈ ds → EDs K J te ((wipeD ρ vs).set j (some d)) (.bool (p d))) :
    EDs K J (tCB (rAll K) (tCons (tLc (iList K tl) (gName j) tYes te vs) tNil)) ρ (.bool (ds.all p)) := fun σ js B H s sd Q q => by
  have e2 : ds.all p = (ds.map p).all id := by rw [List.all_map]; rfl
  rw [e2] at q
  have h1 := eds_lcL (te := te) (J := J) (fun d => .bool (p d)) h hj hz hJ he
  have e : (ds.map fun d => PyData.bool (p d)) = (ds.map p).map PyData.bool := by rw [List.map_map]; rfl
  rw [e] at h1
  exact h1 σ js B H s sd _ fun v B1 H1 l1 d1 => rc_all _ B1 H1 l1.sub (.cons d1 .nil) Q fun u B3 H3 l3 d3 => q u B3 H3 (l1.tr l3) d3
def XSs (K : Fg) (J : L2.St → Prop) (t : TS) (ρ : En) (o : Out) : Prop := ∀ σ, J σ → ∀ B H (D : Ends), Ex B H → SD K B σ ρ → Meet K D B H o → t D σ H
theorem xss_of {t : TS} {o : Out} (h : XS K t ρ o) : XSs K J t ρ o := fun σ _ B H D s sd m => h σ B H D s sd m
theorem xss_ret (h : EDs K J te ρ d) : XSs K J (tRet te) ρ (.ret d) := fun σ js B H D s sd m => h σ js B H s sd _ m
def KeepsS (J : L2.St → Prop) (t : TS) (ρ ρ' : En) (K : Fg) : Prop := ∀ σ, J σ → ∀ B H (D : Ends), Ex B H → SD K B σ ρ → (∀ σ' B' H', J σ' → Le B H B' H' → SD K B' σ' ρ' → D.nx σ' H') → t D σ H
theorem xss_seq {t u : TS} {ρ1 : En} {o : Out} (h1 : KeepsS J t ρ ρ1 K) (h2 : XSs K J u ρ1 o) : XSs K J (tSeq t u) ρ o := fun σ js B H D s sd m =>
  h1 σ js B H _ s sd fun σ' B' H' js' l s' => h2 σ' js' B' H' D l.sub s' (m.back l)
theorem ks_skip {tt : TT} {t : TS} (h : ET K tt ρ false) : KeepsS J (tIfS tt t tNext) ρ ρ K := fun σ js B H D s sd m =>
  h σ B H s sd _ fun B1 H1 l1 => by
    show tNext D σ H1
    exact m σ B1 H1 js l1 (sd.up l1.ek)
theorem ks_asg2 {i j : Nat} {x y : PyData} (h : ED K te ρ (.tuple [x, y])) (hJ : ∀ σ a b, J σ → J ((σ.set i (some a)).set j (some b))) : KeepsS J (tAsg te (gTup K 2 (gCons (gName i) (gCons (gName j) gNil)))) ρ ((ρ.set i (some x)).set j (some y)) K := fun σ js B H D s sd m =>
  h σ B H s sd _ fun v B1 H1 l1 d1 => by
    cases d1 with
    | tup ha hs =>
      obtain ⟨v1, r1, rfl, a1, hs⟩ := hs.inv1
      obtain ⟨v2, r2, rfl, a2, hs⟩ := hs.inv1
      cases hs
      exact ⟨_, _, rfl, SqT.of (l1.sub _ _ ha), rfl, v1, _, rfl, v2, _, rfl, rfl, m _ B1 H1 (hJ σ v1 v2 js) l1 (((sd.up l1.ek).put i a1).put j a2)⟩
end
end TD
set_option maxHeartbeats 4000000
namespace TDX
open PySem PySem.W PySem.Calls PySem.HandSPX
section
variable {prog : Program} {w : World} {A : Around} {E : Value → Shared → Prop} {R : Result → Shared → Prop} {h : Heap} {g : Array GenState} {d : Drawn} {t : Nat} {os : OsState}
variable {nm q : Str} {C N : Addr} {bs bm bmB : List Value} {hdct : Bool} {sn : List Str} {sub : List Value} {ab : Bool} {col : Option Bool} {dd : Option Addr} {k0 k1 k2 k3 k5 : Option Value} {B newId initId : String}
variable {rest : List Value} {kw : List (Str × Value)}
end
end TDX
set_option maxHeartbeats 4000000
namespace TD
open PySem PySem.Spec PyProof.Rows L2
open Evl (Ex)
def ExV (H : Hp) (a C : Addr) (v : V) : Prop := ∃ d, H a = some (exo a C (some d)) ∧ H d = some (exd d [(("value" : Str), v)])
theorem ExV.ex {H H' : Hp} {a C : Addr} {v : V} (e : Ex H H') (h : ExV H a C v) : ExV H' a C v := let ⟨d, h1, h2⟩ := h; ⟨d, e _ _ h1, e _ _ h2⟩
structure Exc (K : Fg) (C fI : Addr) : Prop where
  o : OexC K C
  no : PySem.W.findIn K (.ref C) "value" = some none
  ini : PySem.W.findIn K (.ref C) "__init__" = some (some (.ref fI))
  tI : PySem.W.typeIn K (.ref fI) = some (.type "function")
  x : ExcC K C
def spIni (K : Fg) : Sp := fun vs H Q _ => ∃ a C v, vs = [.ref a, v] ∧ OexC K C ∧ PySem.W.findIn K (.ref C) "value" = some none ∧ H a = some (exo a C none) ∧ ∀ dx, H dx = none → dx ≠ a → Q .non (upd (upd H dx (exd dx [(("value" : Str), v)])) a (exo a C (some dx)))
section
variable {X : Cx} {pins : List (Addr × Obj)} {σ : L2.St} {H : Hp} {s : Shared} {C fI : Addr} {fd : FuncData} {Q : VK}
end
structure Bd (K : Fg) (fd : FuncData) : Prop where
  b1 : ∀ (s : Shared) (z u : Value), K.In s.heap → BindsTo s fd ⟨[z, u], []⟩ ([("self" : Str), "value"].zip [z, u])
  b0 : ∀ (s : Shared) (z : Value), K.In s.heap → BindsTo s fd ⟨[z], []⟩ ([("self" : Str), "value"].zip [z, .none])
  bk : ∀ (s : Shared) (z u : Value), K.In s.heap → BindsTo s fd ⟨[z], [(("value" : Str), u)]⟩ ([("self" : Str), "value"].zip [z, u])
def Mke (P : Program) (w : World) (K : Fg) (mg : Str → Option Value) (base : Heap) (x : Str) (C : Addr) : Prop :=
  ∃ (fI : Addr) (fd : FuncData), mg x = some (.ref C) ∧ Exc K C fI ∧ FnOk P w K mg base CX0 1 fI fd ["self", "value"] (spIni K) ∧ Bd K fd
section
variable {X : Cx} {C : Addr} {x : Str} {p pos kpos : Pos} {e : Expr} {ta : TA}
end
def Mkn (K : Fg) (mg : Str → Option Value) (x : Str) (C : Addr) : Prop := ∃ bmB, ExcBaseFacts "ValueError" "ValueError.__new__" "ValueError.__init__" bmB ∧ PySem.W.excIn K C bmB "ValueError.__new__" = true ∧ mg x = some (.ref C) ∧ PySem.W.keepIn K (.ref C) = true ∧ ExcC K C
section
variable {X : Cx} {pins : List (Addr × Obj)} {σ : L2.St} {H : Hp} {s : Shared} {C : Addr} {x : Str} {p pos : Pos} {e : Expr} {es : List Expr} {ta : TA} {Q : VK}
end
def IsX (H : Hp) (a C : Addr) : Prop := H a = some (exo a C none) ∨ ∃ d fs, H a = some (exo a C (some d)) ∧ H d = some (exd d fs)
theorem IsX.of {H : Hp} {a C : Addr} {v : V} (h : ExV H a C v) : IsX H a C := let ⟨d, h1, h2⟩ := h; .inr ⟨d, _, h1, h2⟩
theorem IsX.ex {H H' : Hp} {a C : Addr} (e : Ex H H') (h : IsX H a C) : IsX H' a C := by
  rcases h with h | ⟨d, fs, h1, h2⟩
  · exact .inl (e _ _ h)
  · exact .inr ⟨d, fs, e _ _ h1, e _ _ h2⟩
section
variable {X : Cx} {pins : List (Addr × Obj)} {σ : L2.St} {H : Hp} {s : Shared}
end
end TD
set_option maxHeartbeats 4000000
namespace TD
open PySem PySem.Spec PyProof.Rows L2
open Evl (Ex Ev EvA EvL EvT RV)
def AllE (H : Hp) (v : V) : List Addr → List Addr → Prop := Paired fun a C => ExV H a C v
theorem AllE.ex {H H' : Hp} {v : V} (e : Ex H H') : ∀ {as Cs : List Addr}, AllE H v as Cs → AllE H' v as Cs
  | _, _, .nil => .nil
  | _, _, .cons h t => .cons (h.ex e) (AllE.ex e t)
theorem AllE.app {H : Hp} {v : V} : ∀ {as Cs bs Ds : List Addr}, AllE H v as Cs → AllE H v bs Ds → AllE H v (as ++ bs) (Cs ++ Ds)
  | _, _, _, _, .nil, k => k
  | _, _, _, _, .cons h t, k => .cons h (AllE.app t k)
theorem AllE.len {H : Hp} {v : V} : ∀ {as Cs : List Addr}, AllE H v as Cs → as.length = Cs.length
  | _, _, .nil => rfl
  | _, _, .cons h t => congrArg Nat.succ (AllE.len t)
theorem AllE.get {H : Hp} {v : V} : ∀ {as Cs : List Addr} {i : Nat} {a : Addr}, AllE H v as Cs → as[i]? = some a → ∃ C, Cs[i]? = some C ∧ ExV H a C v
  | _, _, _, _, .nil, h => by simp at h
  | _, _, 0, _, .cons h t, e => by
    simp at e
    subst e
    exact ⟨_, rfl, h⟩
  | _, _, i + 1, _, .cons h t, e => AllE.get (i := i) t e
section
variable {K : Fg} {σ : L2.St} {H : Hp} {ta tr : TA} {C : Addr} {Cs Ds : List Addr} {v : V}
def KdL (K : Fg) (C : Addr) : List Addr → List Bool → Prop := Paired fun D b => PySem.W.kitOne K (.ref C) (.ref D) = some b
theorem KdL.len {C : Addr} : ∀ {Ds : List Addr} {bs : List Bool}, KdL K C Ds bs → bs.length = Ds.length
  | _, _, .nil => rfl
  | _, _, .cons h t => congrArg Nat.succ (KdL.len t)
end
def rEqW (K : Fg) : R2 := fun x y H Q => rEqA K x y H Q ∨ rEqV K x y H Q
section
variable {X : Cx}
end
end TD
set_option maxHeartbeats 4000000
namespace TD
open PySem PySem.Spec PyProof.Rows L2
open Evl (Ex Ev EvA EvL EvT RV)
abbrev bmV (r : List Value) : List Value := r ++ [.type "ValueError", .type "Exception", .type "BaseException", .type "object"]
structure Std (K : Fg) (mg : Str → Option Value) (x : Str) (C : Addr) (r : List Value) : Prop where
  gC : mg x = some (.ref C)
  kC : PySem.W.keepIn K (.ref C) = true
  tyC : PySem.W.typeIn K (.ref C) = some (.type "type")
  cls : ∃ nm q N bs sn sub ab col dd k0 k1 k2 k3 k5, K.lookup C = some (excClassObj nm q C N bs (bmV r) true sn sub ab col dd k0 k1 k2 k3 k5 "ValueError.__new__")
  hg : PySem.W.findIn K (.ref C) "__getattribute__" = some (some (.builtin "BaseException.__getattribute__"))
  hk : PySem.W.findIn K (.ref C) "__getattr__" = some none
  ha : PySem.W.findIn K (.ref C) "__class__" = some (some (.builtin "object.__class__"))
  hn : PySem.W.specialIn K (.builtin "object.__class__") "__get__" = some (some (.builtin "getset_descriptor.__get__"))
  ht : PySem.W.takesIn K (.builtin "object.__class__") = some true
section
variable {P : Program} {w : World} {K : Fg} {mg : Str → Option Value} {base : Heap} {x : Str} {C D fI : Addr} {r : List Value}
theorem Std.mro (h : Std K mg x C r) (v : Value) : PySem.W.mroIn K C v = some ((Value.ref C :: bmV r).contains v) := by
  obtain ⟨nm, q, N, bs, sn, sub, ab, col, dd, k0, k1, k2, k3, k5, e⟩ := h.cls
  unfold PySem.W.mroIn PySem.W.clsIn
  rw [e]
  rfl
theorem Std.has (h : Std K mg x C r) : PySem.W.hasDictIn K C = true := by
  obtain ⟨nm, q, N, bs, sn, sub, ab, col, dd, k0, k1, k2, k3, k5, e⟩ := h.cls
  unfold PySem.W.hasDictIn PySem.W.clsIn
  rw [e]
  rfl
theorem Std.isCls (h : Std K mg x C r) : (PySem.W.clsIn K C).isSome = true := by
  obtain ⟨nm, q, N, bs, sn, sub, ab, col, dd, k0, k1, k2, k3, k5, e⟩ := h.cls
  unfold PySem.W.clsIn
  rw [e]
  rfl
theorem bm_has {v : Value} (h : v ∈ bmV r) : (Value.ref C :: bmV r).contains v = true := List.contains_iff_mem.mpr (List.mem_cons_of_mem _ h)
theorem Std.sub (h : Std K mg x C r) {v : Value} (hv : v ∈ bmV r) : PySem.W.subIn K (.ref C) v = some true := by
  show PySem.W.mroIn K C v = some true
  rw [h.mro, bm_has hv]
theorem Std.kitT (h : Std K mg x C r) {T : String} (hT : Value.type T ∈ bmV r) (m : PySem.W.kitMeta T = true) : PySem.W.kitOne K (.ref C) (.type T) = some true := by
  unfold PySem.W.kitOne
  rw [if_neg (by simp)]
  show (if PySem.W.kitMeta T = true then PySem.W.subIn K (.ref C) (.type T) else none) = some true
  rw [if_pos m, h.sub hT]
theorem Std.kit {y : Str} {r' : List Value} (h : Std K mg x C r) (k : Std K mg y D r') (hr : Value.ref D ∉ bmV r) : PySem.W.kitOne K (.ref C) (.ref D) = some (decide (C = D)) := by
  unfold PySem.W.kitOne
  by_cases e : C = D
  · subst e
    rw [if_pos (by simp), decide_eq_true rfl]
  · rw [if_neg (by simpa using e), decide_eq_false e]
    show (if ((PySem.W.clsIn K D).isSome && PySem.W.typeIn K (.ref D) == some (.type "type")) = true then PySem.W.subIn K (.ref C) (.ref D) else none) = some false
    rw [if_pos (by rw [k.isCls, k.tyC]; rfl)]
    show PySem.W.mroIn K C (.ref D) = some false
    rw [h.mro]
    congr 1
    rw [Bool.eq_false_iff]
    intro z
    rcases List.mem_cons.mp (List.contains_iff_mem.mp z) with z | z
    · injection z with z
      exact e z.symm
    · exact hr z
end
theorem nd_map {α : Type} [DecidableEq α] : ∀ {l : List α} {i : Nat} {c : α} (k : Nat), l.Nodup → l[i]? = some c → l.map (fun d => decide (c = d)) = (List.range' k l.length).map fun j => decide (j = k + i)
  | [], _, _, _, _, h => by simp at h
  | a :: l, 0, c, k, nd, h => by
    simp at h
    subst h
    rw [List.nodup_cons] at nd
    rw [List.map_cons, List.length_cons, List.range'_succ, List.map_cons]
    congr 1
    · rw [decide_eq_true rfl, decide_eq_true (Nat.add_zero k).symm]
    · have e1 : l.map (fun d => decide (a = d)) = l.map (fun _ => false) := List.map_congr_left fun d hd => decide_eq_false fun z => nd.1 (z ▸ hd)
      have e2 : (List.range' (k + 1) l.length).map (fun j => decide (j = k + 0)) = (List.range' (k + 1) l.length).map (fun _ => false) := List.map_congr_left fun j hj => decide_eq_false (by
        have := (List.mem_range'_1.mp hj).1
        omega)
      rw [e1, e2, List.map_const', List.map_const', List.length_range']
  | a :: l, i + 1, c, k, nd, h => by
    rw [List.nodup_cons] at nd
    have hc : l[i]? = some c := by simpa using h
    have ih := nd_map (k + 1) nd.2 hc
    rw [List.map_cons, List.length_cons, List.range'_succ, List.map_cons, ih]
    congr 1
    · have m := List.mem_of_getElem? hc
      rw [decide_eq_false (fun z => nd.1 (by rw [← z]; exact m)), decide_eq_false (by omega)]
    · refine List.map_congr_left fun j _ => ?_
      congr 1
      rw [eq_iff_iff]
      constructor <;> intro z <;> omega
end TD
set_option maxHeartbeats 4000000
namespace TD
open PySem PySem.Spec PyProof.Rows L2
open Evl (Ex Ev EvA EvL EvT RV)
structure Ad where
  InvalidNumber : Addr
  InvalidRoom : Addr
  InvalidLights : Addr
  InvalidLevel : Addr
  InvalidPresses : Addr
  InvalidHistory : Addr
  InvalidRuns : Addr
  InvalidTable : Addr
  InvalidLetters : Addr
  InvalidHouse : Addr
  InvalidWalk : Addr
  InvalidWalks : Addr
  InvalidLayers : Addr
  InvalidText : Addr
  InvalidDeed : Addr
  Unlike : Addr
  TooMany : Addr
  NothingToUndo : Addr
  NothingToRedo : Addr
  DoorError : Addr
def Ad.l19 (A : Ad) : List Addr := [A.InvalidNumber, A.InvalidRoom, A.InvalidLights, A.InvalidLevel, A.InvalidPresses, A.InvalidHistory, A.InvalidRuns, A.InvalidTable, A.InvalidLetters, A.InvalidHouse, A.InvalidWalk, A.InvalidWalks, A.InvalidLayers, A.InvalidText, A.InvalidDeed, A.Unlike, A.TooMany, A.NothingToUndo, A.NothingToRedo]
structure Ck (P : Program) (w : World) (K : Fg) (mg : Str → Option Value) (base : Heap) (A : Ad) : Prop where
  InvalidNumber : Mke P w K mg base "InvalidNumber" A.InvalidNumber
  InvalidRoom : Mke P w K mg base "InvalidRoom" A.InvalidRoom
  InvalidLights : Mke P w K mg base "InvalidLights" A.InvalidLights
  InvalidLevel : Mke P w K mg base "InvalidLevel" A.InvalidLevel
  InvalidPresses : Mke P w K mg base "InvalidPresses" A.InvalidPresses
  InvalidHistory : Mke P w K mg base "InvalidHistory" A.InvalidHistory
  InvalidRuns : Mke P w K mg base "InvalidRuns" A.InvalidRuns
  InvalidTable : Mke P w K mg base "InvalidTable" A.InvalidTable
  InvalidLetters : Mke P w K mg base "InvalidLetters" A.InvalidLetters
  InvalidHouse : Mke P w K mg base "InvalidHouse" A.InvalidHouse
  InvalidWalk : Mke P w K mg base "InvalidWalk" A.InvalidWalk
  InvalidWalks : Mke P w K mg base "InvalidWalks" A.InvalidWalks
  InvalidLayers : Mke P w K mg base "InvalidLayers" A.InvalidLayers
  InvalidText : Mke P w K mg base "InvalidText" A.InvalidText
  InvalidDeed : Mke P w K mg base "InvalidDeed" A.InvalidDeed
  Unlike : Mke P w K mg base "Unlike" A.Unlike
  TooMany : Mke P w K mg base "TooMany" A.TooMany
  NothingToUndo : Mkn K mg "NothingToUndo" A.NothingToUndo
  NothingToRedo : Mkn K mg "NothingToRedo" A.NothingToRedo
  DoorError : Mkn K mg "DoorError" A.DoorError
  s_InvalidNumber : Std K mg "InvalidNumber" A.InvalidNumber [.ref A.DoorError]
  s_InvalidRoom : Std K mg "InvalidRoom" A.InvalidRoom [.ref A.DoorError]
  s_InvalidLights : Std K mg "InvalidLights" A.InvalidLights [.ref A.DoorError]
  s_InvalidLevel : Std K mg "InvalidLevel" A.InvalidLevel [.ref A.DoorError]
  s_InvalidPresses : Std K mg "InvalidPresses" A.InvalidPresses [.ref A.DoorError]
  s_InvalidHistory : Std K mg "InvalidHistory" A.InvalidHistory [.ref A.DoorError]
  s_InvalidRuns : Std K mg "InvalidRuns" A.InvalidRuns [.ref A.DoorError]
  s_InvalidTable : Std K mg "InvalidTable" A.InvalidTable [.ref A.DoorError]
  s_InvalidLetters : Std K mg "InvalidLetters" A.InvalidLetters [.ref A.DoorError]
  s_InvalidHouse : Std K mg "InvalidHouse" A.InvalidHouse [.ref A.DoorError]
  s_InvalidWalk : Std K mg "InvalidWalk" A.InvalidWalk [.ref A.DoorError]
  s_InvalidWalks : Std K mg "InvalidWalks" A.InvalidWalks [.ref A.DoorError]
  s_InvalidLayers : Std K mg "InvalidLayers" A.InvalidLayers [.ref A.DoorError]
  s_InvalidText : Std K mg "InvalidText" A.InvalidText [.ref A.DoorError]
  s_InvalidDeed : Std K mg "InvalidDeed" A.InvalidDeed [.ref A.DoorError]
  s_Unlike : Std K mg "Unlike" A.Unlike [.ref A.DoorError]
  s_TooMany : Std K mg "TooMany" A.TooMany [.ref A.DoorError]
  s_NothingToUndo : Std K mg "NothingToUndo" A.NothingToUndo [.ref A.DoorError]
  s_NothingToRedo : Std K mg "NothingToRedo" A.NothingToRedo [.ref A.DoorError]
  s_DoorError : Std K mg "DoorError" A.DoorError []
  nd : (A.DoorError :: A.l19).Nodup
section
variable {P : Program} {w : World} {K : Fg} {mg : Str → Option Value} {base : Heap} {A : Ad}
theorem Ck.std (M : Ck P w K mg base A) : ∀ C ∈ A.l19, ∃ x, Std K mg x C [.ref A.DoorError] := List.forall_mem_cons.mpr ⟨⟨_, M.s_InvalidNumber⟩, List.forall_mem_cons.mpr ⟨⟨_, M.s_InvalidRoom⟩, List.forall_mem_cons.mpr ⟨⟨_, M.s_InvalidLights⟩, List.forall_mem_cons.mpr ⟨⟨_, M.s_InvalidLevel⟩, List.forall_mem_cons.mpr ⟨⟨_, M.s_InvalidPresses⟩, List.forall_mem_cons.mpr ⟨⟨_, M.s_InvalidHistory⟩, List.forall_mem_cons.mpr ⟨⟨_, M.s_InvalidRuns⟩, List.forall_mem_cons.mpr ⟨⟨_, M.s_InvalidTable⟩, List.forall_mem_cons.mpr ⟨⟨_, M.s_InvalidLetters⟩, List.forall_mem_cons.mpr ⟨⟨_, M.s_InvalidHouse⟩, List.forall_mem_cons.mpr ⟨⟨_, M.s_InvalidWalk⟩, List.forall_mem_cons.mpr ⟨⟨_, M.s_InvalidWalks⟩, List.forall_mem_cons.mpr ⟨⟨_, M.s_InvalidLayers⟩, List.forall_mem_cons.mpr ⟨⟨_, M.s_InvalidText⟩, List.forall_mem_cons.mpr ⟨⟨_, M.s_InvalidDeed⟩, List.forall_mem_cons.mpr ⟨⟨_, M.s_Unlike⟩, List.forall_mem_cons.mpr ⟨⟨_, M.s_TooMany⟩, List.forall_mem_cons.mpr ⟨⟨_, M.s_NothingToUndo⟩, List.forall_mem_cons.mpr ⟨⟨_, M.s_NothingToRedo⟩, fun _ h => nomatch h⟩⟩⟩⟩⟩⟩⟩⟩⟩⟩⟩⟩⟩⟩⟩⟩⟩⟩⟩
theorem Ck.ne (M : Ck P w K mg base A) : ∀ C ∈ A.l19, C ≠ A.DoorError := fun C h e => (List.nodup_cons.mp M.nd).1 (e ▸ h)
theorem kd_all {x : Str} {C D : Addr} {r : List Value} (h : Std K mg x C r) (hr : ∀ d, d ≠ D → Value.ref d ∉ bmV r) : ∀ Ds : List Addr, (∀ d ∈ Ds, ∃ y, Std K mg y d [.ref D]) → (∀ d ∈ Ds, d ≠ D) → KdL K C Ds (Ds.map fun d => decide (C = d))
  | [], _, _ => .nil
  | d :: Ds, h1, h2 => by
    obtain ⟨y, hd⟩ := h1 d (List.mem_cons_self ..)
    exact .cons (h.kit hd (hr d (h2 d (List.mem_cons_self ..)))) (kd_all h hr Ds (fun e he => h1 e (List.mem_cons_of_mem _ he)) (fun e he => h2 e (List.mem_cons_of_mem _ he)))
theorem not_bm {d : Addr} {r : List Value} (h : Value.ref d ∉ r) : Value.ref d ∉ bmV r := fun z => by
  rcases List.mem_append.mp z with z | z
  · exact h z
  · simp at z
theorem Ck.kinds (M : Ck P w K mg base A) {i : Nat} {C : Addr} (h : A.l19[i]? = some C) : KdL K C A.l19 ((List.range 19).map fun j => decide (j = i)) := by
  obtain ⟨x, hx⟩ := M.std C (List.mem_of_getElem? h)
  have k := kd_all hx (D := A.DoorError) (fun d hd => not_bm (by simpa using hd)) A.l19 M.std M.ne
  have e := nd_map 0 (List.nodup_cons.mp M.nd).2 h
  have e2 : (List.range 19).map (fun j => decide (j = i)) = (List.range' 0 A.l19.length).map (fun j => decide (j = 0 + i)) := by
    rw [Nat.zero_add, List.range_eq_range']
    rfl
  rw [e2, ← e]
  exact k
end
def Vok (K : Fg) (H : Hp) (v : V) : Prop := (∃ d, Da K H v d ∧ Fine d) ∧ ∀ H', Ex H H' → ∀ Q : VK, Q (.bl true) H' → rEqW K v v H' Q
theorem Vok.ex {K : Fg} {H H' : Hp} {v : V} (e : Ex H H') (h : Vok K H v) : Vok K H' v := by
  obtain ⟨⟨d, h1, h2⟩, h3⟩ := h
  exact ⟨⟨d, h1.ex e, h2⟩, fun H2 e2 => h3 H2 (e.trans e2)⟩
section
variable {σ : L2.St} {H : Hp} {te : TE} {tz : TS} {D : Ends} {i : Nat} {Cs : List Addr} {v : V}
end
end TD
set_option maxHeartbeats 4000000
namespace TD
open PySem PySem.Spec PyProof.Rows L2
open Evl (Ex)
def exk (a C d : Addr) : HO := .ext fun h => ∃ (ob : Obj) (fl : Array Value), h.get? a = some ob ∧ ob.cls = .ref C ∧ ob.dict = some d ∧ ob.data = .fields fl
section
variable {X : Cx} {pins : List (Addr × Obj)} {σ : L2.St} {H : Hp} {s : Shared} {a : Addr} {o : HO}
end
section
variable {X : Cx} {x n : Str} {c : Value} {i : Nat} {body rest : List Stmt} {b0 : Stmt} {p1 p2 p3 : Pos} {tb : WX → TS} {ts : TS}
end
end TD
set_option maxHeartbeats 4000000
namespace TD
open PySem PySem.Spec PyProof.Rows L2
open Evl (Ex)
abbrev xdV (v : V) : HO := .xd [(("value" : Str), v)]
section
variable (P : Program) (w : World) (K : Fg) (mg : Str → Option Value) (base : Heap)
def Fx (x : Str) (ps : List Str) (k : Nat) (sp : Sp) : Prop :=
  ∃ (f : Addr) (fd : FuncData), mg x = some (.ref f) ∧ PySem.W.keepIn K (.ref f) = true ∧ Binds K fd ps [] ∧ FnG P w K mg base (L2.CX P w) k f fd ps sp
end
section
variable {K : Fg} {E : XK} {t u : TS} {ρ ρ1 : En} {C : Addr} {i j k : Nat} {ta : TA} {te : TE} {tt : TT} {d e : PyData} {ds : List PyData} {o : Out}
end
section
variable {P : Program} {w : World} {K : Fg} {mg : Str → Option Value} {base : Heap} {x : Str} {ps N : List Str} {k : Nat} {st : Stmt}
end
section
variable {X : Cx} {CX : CXT} {k : Nat} {f : Addr} {fd : FuncData} {ps : List Str} {sp : Sp} {x : Str} {p pos pos2 : Pos} {e : Expr} {es : List Expr} {t ta : TA} {E : L2.St → XK} {C : Addr} {W : WX}
theorem runGS {pins : List (Addr × Obj)} {σ : L2.St} {H : Hp} {s : Shared} {Q : VK} {us : List Value} {vs : List V} {Ex' : XK}
    (F : FnG X.prog X.w X.K X.mg X.base CX k f fd ps sp) (hg : X.A.guards = some []) (hr : Room k X.A)
    (hb : Binds X.K fd ps []) (hx : PassesAt CX X σ Ex') (I : Inv X pins σ H s) (r : Vals vs us) (h : sp vs H Q Ex') :
    wpAny (model X.prog X.w) X.A (call (.ref f) us) (EP X pins σ Q) X.xe s := by
  have b := hb s us I.kIn (by rw [List.append_nil, ← r.length]; exact F.ln _ _ _ _ h)
  rw [List.append_nil] at b
  refine wpAny_call (codeAny_mono (F.go X.A X.stack s H _ us vs Q Ex' hg hr I.env0 b r h) ?_)
  intro rs s2 hq
  match rs, hq with
  | .error e, hq => exact hx pins H s e s2 I hq
  | .ok (.ret u), hq => exact I.after hq
  | .ok .next, hq => exact hq.elim
  | .ok .brk, hq => exact hq.elim
  | .ok .cont, hq => exact hq.elim
theorem pe_fx (c : Fx X.prog X.w X.K X.mg X.base x ps k sp) (gu : X.A.guards = some []) (hr : Room k X.A) (hg : Gl X x) (hx : ∀ σ, PassesAt (L2.CX X.prog X.w) X σ (E σ)) (ha : PA X (e :: es) t)
    (d1 : (x == ("__debug__" : Str)) = false := by decide)
    (d2 : starEach (e :: es) X.env = (false, eval e X.env) :: starEach es X.env := by rfl)
    (d3 : (backTo pos (starEach es X.env)).any (·.1) = false := by rfl) :
    PE X (.Call (.Name x p) (e :: es) [] pos) (tCallS sp E t) := by
  obtain ⟨f, fd, hm, kp, hb, F⟩ := c
  refine ⟨fun pins s σ H Q I h => wpAny_Call_Name_kw (ld_glob I hg hm ?_ d1)⟩
  refine PySem.W.callWith_K (h₀ := X.base) I.ok.mod.kin kp (thn (ha.run pos pins s σ H _ I h) ?_) d2 d3
  intro us s1 ⟨vs, H1, I1, r, q⟩
  exact ⟨I1.kIn, runGS F gu hr hb (hx σ) I1 r q⟩
end
end TD
set_option maxHeartbeats 4000000
namespace TD
open PySem PySem.Spec PyProof.Rows L2
open Evl (Ex)
section
variable {X : Cx} {fn e : Expr} {es : List Expr} {pos : Pos} {tf : TE} {t : TA} {E : L2.St → XK}
end
section
variable {K : Fg} {ρ : En} {ta tb : TA} {te tf : TE} {E : XK} {i : Nat} {fs : List Addr} {f : Addr}
end
end TD
set_option maxHeartbeats 4000000
namespace TD
open PySem PySem.Spec PyProof.Rows L2
open Evl (Ex)
section
variable {K : Fg} {E : XK} {t u : TS} {ρ : En} {C f : Addr} {j i n : Nat} {as : List PyData} {tt : TT} {tf : TE} {ta : TA} {CP : Addr → Sp → Prop} {R : List PyData → PyData → Prop} {RX : List PyData → Addr → Nat → Prop}
theorem Fx.up {P : Program} {w : World} {K : Fg} {mg : Str → Option Value} {base : Heap} {x : Str} {ps : List Str} {k m : Nat} {sp : Sp} (c : Fx P w K mg base x ps k sp) (h : k ≤ m) : Fx P w K mg base x ps m sp := by
  obtain ⟨f, fd, hm, kp, hb, F⟩ := c
  exact ⟨f, fd, hm, kp, hb, F.up h⟩
theorem Fx.at {P : Program} {w : World} {mg : Str → Option Value} {base : Heap} {x : Str} {ps : List Str} {k : Nat} {sp : Sp} (c : Fx P w K mg base x ps k sp) : ∃ a, mg x = some (.ref a) := let ⟨f, _, hm, _⟩ := c; ⟨f, hm⟩
end
end TD
set_option maxHeartbeats 4000000
namespace TD
open PySem PySem.Spec PyProof.Rows L2
open Evl (Ex)
def Cau (H : Hp) (a C : Addr) (v : V) : Prop := ∃ x, H a = some (exk a C x) ∧ H x = some (xdV v)
theorem Cau.ex {H H' : Hp} {a C : Addr} {v : V} (e : Ex H H') (h : Cau H a C v) : Cau H' a C v := let ⟨x, h1, h2⟩ := h; ⟨x, e _ _ h1, e _ _ h2⟩
section
variable {X : Cx} {pins : List (Addr × Obj)} {σ : L2.St} {H : Hp} {s : Shared}
end
structure Stab (J : L2.St → Hp → Prop) : Prop where
  ex : ∀ σ H H', Ex H H' → J σ H → J σ H'
section
variable {K : Fg} {J : L2.St → Hp → Prop} {ta tr : TA} {te ta1 tb1 : TE} {tt tu : TT} {ρ : En} {d x y z : PyData} {ds : List PyData} {a b : Bool} {r : R2}
end
section
variable {K : Fg} {ρ : En} {i : Nat} {a C : Addr} {v : V} {d : PyData} {b : Bool} {c : V} {cv : Value}
end
section
variable {D : Ends} {σ : L2.St} {H : Hp} {t t1 t2 u : TS} {te : TE} {ta : TA} {tt : TT} {i j l : Nat}
end
section
variable {K : Fg} {s i0 i1 : Nat} {ta : TA} {tb : TS} {ds es : List PyData}
end
end TD
set_option maxHeartbeats 4000000
namespace TD
open PySem PySem.Spec PyProof.Rows L2
open Evl (Ex)
def DueAt (i n : Nat) (σ : L2.St) (B H : Hp) : Prop := ∃ p acc, σ[i]? = some (some (.ref p)) ∧ H p = some (.lst acc) ∧ B p = none ∧ acc.length ≤ n ∧ ∀ v ∈ acc, v = V.bl true
theorem DueAt.le {i n : Nat} {σ : L2.St} {B H B' H' : Hp} (h : DueAt i n σ B H) (l : Le B H B' H') : DueAt i n σ B' H' := by
  obtain ⟨p, acc, h1, h2, h3, h4⟩ := h
  exact ⟨p, acc, h1, l.ex _ _ h2, l.old p h3 (fun z => by rw [h2] at z; cases z), h4⟩
theorem DueAt.slot {i j n : Nat} {σ : L2.St} {B H : Hp} (h : DueAt i n σ B H) (hj : j ≠ i) (o : Option V) : DueAt i n (σ.set j o) B H := by
  obtain ⟨p, acc, h1, h2⟩ := h
  exact ⟨p, acc, by rw [List.getElem?_set_ne hj]; exact h1, h2⟩
section
variable {K : Fg} {i j n m k : Nat} {t u : TS} {te tl : TE} {ρ ρ' ρ1 : En} {d : PyData} {ds : List PyData}
end
end TD
set_option maxHeartbeats 4000000
namespace TD
open PySem PySem.Spec PyProof.Rows L2
open Evl (Ex)
section
variable {K : Fg} {ρ ρ' : En} {te ta tb : TE} {tu : TS} {g : TG} {o : Out} {s s2 : Str} {x y z d : PyData}
end
end TD
set_option maxHeartbeats 4000000
namespace TD
open PySem PySem.Spec PyProof.Rows L2
open Evl (Ex)
open LamX (CodeO Tabs TabB ExtN LamS lamCx)
section
variable {X : Cx} {pins : List (Addr × Obj)} {σ : L2.St} {H : Hp} {s : Shared}
end
end TD
set_option maxHeartbeats 4000000
namespace TD
open PySem PySem.Spec PyProof.Rows L2
open Evl (Ex)
open LamX (CodeO Tabs TabS TabB ExtN)
def noT (B : Hp) : Hp := fun b => match B b with
  | some (.tbl _) => none
  | o => o
def NT (B : Hp) : Prop := ∀ b ps, B b ≠ some (.tbl ps)
theorem noT_some {B : Hp} {b : Addr} {o : HO} (h : B b = some o) (n : ∀ ps, o ≠ .tbl ps) : noT B b = some o := by
  unfold noT
  rw [h]
  cases o with
  | tbl ps => exact (n ps rfl).elim
  | _ => rfl
theorem noT_of {B : Hp} {b : Addr} {o : HO} (h : noT B b = some o) : B b = some o := by
  unfold noT at h
  cases e : B b with
  | none => rw [e] at h; exact h
  | some u =>
    rw [e] at h
    cases u with
    | tbl ps => exact nomatch (show (none : Option HO) = some o from h)
    | _ => exact h
theorem noT_none {B : Hp} {b : Addr} (h : B b = none) : noT B b = none := by
  unfold noT
  rw [h]
theorem noT_nt (B : Hp) : NT (noT B) := fun b ps h => by
  have e := noT_of h
  unfold noT at h
  rw [e] at h
  exact nomatch (show (none : Option HO) = some (.tbl ps) from h)
theorem NT.to {B B1 : Hp} (h : NT B) (e : Ex B B1) : Ex B (noT B1) := fun b o z => noT_some (e b o z) fun ps w => h b ps (by rw [z, w])
mutual
theorem Da.noT {K : Fg} {B : Hp} : ∀ {v : V} {d : PyData}, Da K B v d → Da K (TD.noT B) v d
  | _, _, .non => .non
  | _, _, .bl b => .bl b
  | _, _, .int i => .int i
  | _, _, .str x => .str x
  | _, _, .lst h t => .lst (noT_some h fun _ z => nomatch z) (Das.noT t)
  | _, _, .tup h t => .tup (noT_some h fun _ z => nomatch z) (Das.noT t)
  | _, _, .dic h t => .dic (noT_some h fun _ z => nomatch z) (Das.noT t)
theorem Das.noT {K : Fg} {B : Hp} : ∀ {vs : List V} {ds : List PyData}, Das K B vs ds → Das K (TD.noT B) vs ds
  | _, _, .nil => .nil
  | _, _, .cons a t => .cons (Da.noT a) (Das.noT t)
end
theorem SD.noT {K : Fg} {B : Hp} {σ : L2.St} {ρ : En} (s : SD K B σ ρ) : SD K (TD.noT B) σ ρ := ⟨s.1, fun i d h => let ⟨v, a, b⟩ := s.2 i d h; ⟨v, a, b.noT⟩⟩
structure TQ (T : List (Addr × Str)) (i n : Nat) (σ : L2.St) (B H : Hp) : Prop where
  nt : NT B
  due : DueAt i n σ B H
  tab : Tabs T H
theorem TQ.le {T : List (Addr × Str)} {i n : Nat} {σ : L2.St} {B H B1 H1 : Hp} (a : TQ T i n σ B H) (l : Le B H B1 H1) : TQ T i n σ (noT B1) H1 := by
  refine ⟨noT_nt B1, ?_, a.tab.ext l.ex⟩
  obtain ⟨p, acc, h1, h2, h3, h4⟩ := a.due.le l
  exact ⟨p, acc, h1, h2, noT_none h3, h4⟩
theorem TQ.slot {T : List (Addr × Str)} {i j n : Nat} {σ : L2.St} {B H : Hp} (a : TQ T i n σ B H) (hj : j ≠ i) (o : Option V) : TQ T i n (σ.set j o) B H := ⟨a.nt, a.due.slot hj o, a.tab⟩
section
variable {K : Fg} {T : List (Addr × Str)} {J : L2.St → Prop} {i j n m k : Nat} {t u : TS} {te tl : TE} {ρ ρ' ρ1 : En} {d : PyData} {ds : List PyData} {q : Str} {ta : TA} {tb : XK → TE} {R : Str → PyData → Addr → Prop} {nm : Str} {fld : PyData} {C : Addr}
end
end TD
set_option maxHeartbeats 4000000
namespace TD
open PySem PySem.Spec PyProof.Rows L2
open LamX (TabB)
end TD
set_option maxHeartbeats 4000000
namespace TD
open PySem PySem.Spec PyProof.Rows L2
open Evl (Ex)
section
variable {K : Fg} {ρ : En} {te : TE} {tt : TT}
end
end TD
set_option maxHeartbeats 4000000
namespace TD
open PySem PySem.Spec PyProof.Rows L2
open Evl (Ex)
section
variable {K : Fg} {E : XK} {t u : TS} {ρ ρ1 : En} {C f : Addr} {i j k : Nat} {ta tr : TA} {te tf : TE} {tt : TT} {ds : List PyData} {CP : Addr → Sp → Prop} {R : List PyData → PyData → Prop} {RX : List PyData → Addr → Nat → Prop}
end
end TD
set_option maxHeartbeats 4000000
namespace TD
open PySem PySem.Spec PyProof.Rows L2
open Evl (Ex)
open LamX (CodeO Tabs TabS TabB ExtN)
section
variable {P : Program} {w : World} {K : PySem.W.Frag} {mg : Str → Option Value} {base : Heap}
end
section
variable {K : Fg} {T : List (Addr × Str)} {i j l n : Nat} {t u : TS} {ρ : En} {d d1 d2 : PyData} {ta : TA}
end
end TD
set_option maxHeartbeats 4000000
namespace TD
open PySem PySem.Spec PyProof.Rows L2
open Evl (Ex)
section
variable {X : Cx} {fn e : Expr} {es : List Expr} {pos : Pos} {tf : TE} {t : TA} {E : L2.St → XK} {k : Nat}
theorem pass_no {σ : L2.St} : PassesAt (L2.CX X.prog X.w) X σ (fun _ _ _ => False) := fun _ _ _ _ _ _ c => by
  obtain ⟨_, _, _, _, _, _, _, _, _, _, _, _, z⟩ := c
  exact z.elim
end
section
variable {K : Fg} {T : List (Addr × Str)} {i j l n : Nat} {u : TS} {ρ : En} {d1 d2 : PyData} {ta : TA}
end
section
variable {K : Fg} {ρ : En} {ta : TA} {ds : List PyData} {f : Addr} {j : Nat} {CP : Addr → Sp → Prop} {R : List PyData → PyData → Prop} {RX : List PyData → Addr → Nat → Prop}
end
end TD
set_option maxHeartbeats 4000000
namespace TD
open PySem PySem.Spec PyProof.Rows L2
open Evl (Ex)
open PpSet (eval_SetComp newSet_ok compLoopS_any codeAny_compStart_set)
section
variable {X : Cx}
end
end TD
set_option maxHeartbeats 4000000
namespace TD
open PySem PySem.Spec PyProof.Rows L2
section
variable {X : Cx} {CX : CXT} {k : Nat} {f C : Addr} {fd : FuncData} {ps : List Str} {sp : Sp} {E : XK} {x m : Str} {p pos apos : Pos} {e o : Expr} {es : List Expr} {ta : TE} {t : TA}
end
end TD
set_option maxHeartbeats 4000000
namespace TD
open PySem PySem.Spec PyProof.Rows L2
open Evl (Ex)
inductive ER where
  | st | v (d : PyData) (ρ : En) | o (d : PyData) (ρ : En) | x (c i : Nat)
inductive AR where
  | st | vs (ds : List PyData) (ρ : En) | x (c i : Nat)
inductive TR where
  | st | b (b : Bool) (ρ : En) | x (c i : Nat)
inductive SR where
  | st | nx (ρ : En) | ret (d : PyData) (ρ : En) | reto (d : PyData) (ρ : En) | br (ρ : En) | ct (ρ : En) | x (c i : Nat)
inductive FR where
  | st | v (d e : PyData) | o (d e : PyData) | x (c j : Nat)
abbrev OW := Nat → Addr → Prop
abbrev at1 (p : Addr) : Addr → Prop := fun a => a = p
abbrev WA (W : OW) (p : Addr) : Prop := ∃ i, W i p
def OW.put (W : OW) (i : Nat) (A : Addr → Prop) : OW := fun j p => (j = i ∧ A p) ∨ (j ≠ i ∧ W j p)
section
variable (K : Fg)
abbrev tD (kvs : List (PyData × PyData)) : PyData := .tuple [.dict kvs]
abbrev rD (rs : List (List PyData)) : PyData := .tuple [.list (rs.map PyData.list)]
def Rows (B H : Hp) (A : Addr → Prop) : List Addr → List (List PyData) → Prop
  | [], [] => True
  | q :: qs, r :: rs => (A q ∧ q ∉ qs ∧ ∃ vs, H q = some (.lst vs) ∧ Das K B vs r) ∧ Rows B H A qs rs
  | _, _ => False
def FldS (S : Addr → (Addr → Prop) → PyData → Prop) (B : Hp) (fs : List (Str × V)) : (Addr → Prop) → List (PyData × PyData) → Prop
  | _, [] => True
  | A, (.str n, .list [d]) :: r => (∃ v, fs.lookup n = some v ∧ Da K B v d) ∧ FldS S B fs A r
  | A, (.str n, .tuple [m]) :: r => (∃ (q : Addr) (A1 : Addr → Prop), fs.lookup n = some (.ref q) ∧ (∀ a, A1 a → A a) ∧ S q A1 m ∧ FldS S B fs (fun a => A a ∧ ¬ A1 a) r)
  | A, _ :: r => FldS S B fs A r
def FNam (fs : List (Str × V)) (kvs : List (PyData × PyData)) : Prop := fs.length ≤ kvs.length ∧ (kvs.map (·.1)).Nodup ∧ ∀ n, (∃ v, fs.lookup n = some v) ↔ ∃ d, (PyData.str n, d) ∈ kvs
def ObS (S : Hp → Hp → Addr → (Addr → Prop) → PyData → Prop) (B H : Hp) (p : Addr) (A : Addr → Prop) (c : Str) (kvs : List (PyData × PyData)) : Prop :=
  A p ∧ ∃ (C dx : Addr) (fs : List (Str × V)), PySem.W.nsIn K mainGlobals c = some (some (.ref C)) ∧ H p = some (.ins C dx fs) ∧ FNam fs kvs ∧ FldS K (S B H) B fs (fun a => A a ∧ a ≠ p) kvs
def OwnN (S : Hp → Hp → Addr → (Addr → Prop) → PyData → Prop) (B H : Hp) (p : Addr) (A : Addr → Prop) : PyData → Prop
  | .list ds => A p ∧ ∃ vs, H p = some (.lst vs) ∧ Das K B vs ds
  | .dict kvs => A p ∧ ∃ (ws : List (Key × V)) (ds : List PyData), H p = some (.dK ws) ∧ Das K B (ws.map (·.2)) ds ∧ kvs = (ws.map fun q => keyD q.1).zip ds
  | .tuple [.dict kvs] => A p ∧ ∃ (ws : List (List Key × V)) (ds : List PyData), H p = some (.dT ws) ∧ Das K B (ws.map (·.2)) ds ∧ kvs = (ws.map fun q => PyData.tuple (q.1.map keyD)).zip ds
  | .tuple [.str c, .dict kvs] => ObS K S B H p A c kvs
  | _ => False
def Own1 : Hp → Hp → Addr → (Addr → Prop) → PyData → Prop := OwnN K fun _ _ _ _ _ => False
def Own2 : Hp → Hp → Addr → (Addr → Prop) → PyData → Prop := OwnN K (Own1 K)
def Own3 : Hp → Hp → Addr → (Addr → Prop) → PyData → Prop := OwnN K (Own2 K)
mutual
def noL : PyData → Bool
  | .none => true
  | .bool _ => true
  | .int _ => true
  | .str _ => true
  | .tuple ds => noLs ds
  | _ => false
def noLs : List PyData → Bool
  | [] => true
  | d :: ds => noL d && noLs ds
end
mutual
inductive Tr (B H : Hp) : (Addr → Prop) → V → PyData → Prop
  | leaf {A : Addr → Prop} {v : V} {d : PyData} : noL d = true → Da K B v d → Tr B H A v d
  | lst {A A' : Addr → Prop} {p : Addr} {vs : List V} {ds : List PyData} : A p → H p = some (.lst vs) → ¬ A' p → (∀ a, A' a → A a) → Trs B H A' vs ds → Tr B H A (.ref p) (.list ds)
  | tup {A A' : Addr → Prop} {p : Addr} {vs : List V} {ds : List PyData} : noLs ds = false → A p → H p = some (.tup vs) → ¬ A' p → (∀ a, A' a → A a) → Trs B H A' vs ds → Tr B H A (.ref p) (.tuple ds)
inductive Trs (B H : Hp) : (Addr → Prop) → List V → List PyData → Prop
  | nil {A : Addr → Prop} : Trs B H A [] []
  | cons {A A1 A2 : Addr → Prop} {v : V} {vs : List V} {d : PyData} {ds : List PyData} : (∀ a, A1 a → A a) → (∀ a, A2 a → A a) → (∀ a, A1 a → A2 a → False) → Tr B H A1 v d → Trs B H A2 vs ds → Trs B H A (v :: vs) (d :: ds)
end
def Own (B H : Hp) (p : Addr) (A : Addr → Prop) : PyData → Prop
  | .list ds => A p ∧ ∃ vs, H p = some (.lst vs) ∧ Das K B vs ds
  | .dict kvs => A p ∧ ∃ (ws : List (Key × V)) (ds : List PyData), H p = some (.dK ws) ∧ Das K B (ws.map (·.2)) ds ∧ kvs = (ws.map fun q => keyD q.1).zip ds
  | .tuple [.dict kvs] => A p ∧ ∃ (ws : List (List Key × V)) (ds : List PyData), H p = some (.dT ws) ∧ Das K B (ws.map (·.2)) ds ∧ kvs = (ws.map fun q => PyData.tuple (q.1.map keyD)).zip ds
  | .tuple [.list ls] => A p ∧ ∃ (qs : List Addr) (rs : List (List PyData)), ls = rs.map PyData.list ∧ H p = some (.lst (qs.map V.ref)) ∧ p ∉ qs ∧ Rows K B H A qs rs
  | .tuple [.tuple [d]] => A p ∧ noL d = false ∧ Tr K B H A (.ref p) d
  | .tuple [.str c, .dict kvs] => ObS K (Own3 K) B H p A c kvs
  | _ => False
abbrev markD (ns : List Int) : PyData := .tuple [.dict [(.none, .list (ns.map PyData.int))]]
def DaS (B : Hp) (v : V) (d : PyData) : Prop := Da K B v d ∨ ∃ (sc : Addr) (ns : List Int), v = .ref sc ∧ d = markD ns ∧ SqL K B sc (ns.map V.int)
structure SDo (O : Nat → Bool) (σ : L2.St) (B H : Hp) (ρ : En) (W : OW) : Prop where
  len : σ.length = ρ.length
  dat : ∀ (i : Nat) (d : PyData), O i = false → ρ[i]? = some (some d) → ∃ v, σ[i]? = some (some v) ∧ DaS K B v d
  own : ∀ (i : Nat) (d : PyData), O i = true → ρ[i]? = some (some d) → ∃ p, σ[i]? = some (some (.ref p)) ∧ Own K B H p (W i) d
  bh : ∀ (i : Nat) (p : Addr), W i p → B p = none ∧ H p ≠ none
  dis : ∀ (i j : Nat) (p : Addr), W i p → W j p → i = j
end
structure LeO (A : Addr → Prop) (B H B' H' : Hp) : Prop where
  ex : ∀ b o, H b = some o → ¬ A b → H' b = some o
  dom : ∀ b, H b ≠ none → H' b ≠ none
  ek : Ex B B'
  sub : Ex B' H'
  old : ∀ a, B a = none → H a ≠ none → ¬ A a → B' a = none
structure Go (W : OW) (B H : Hp) (W' : OW) (B' H' : Hp) : Prop extends LeO (WA W) B H B' H' where
  own : ∀ p, WA W' p → WA W p ∨ H p = none
theorem LeO.rfl' {A : Addr → Prop} {B H : Hp} (s : Ex B H) : LeO A B H B H := ⟨fun _ _ h _ => h, fun _ h => h, Ex.refl B, s, fun _ h _ _ => h⟩
theorem Go.rfl' {W : OW} {B H : Hp} (s : Ex B H) : Go W B H W B H := ⟨LeO.rfl' s, fun _ z => .inl z⟩
theorem Le.lo {A : Addr → Prop} {B H B' H' : Hp} (l : Le B H B' H') : LeO A B H B' H' where
  ex := fun b o h _ => l.ex b o h
  dom := fun b h => by
    cases e : H b with
    | none => exact (h e).elim
    | some o =>
      rw [l.ex b o e]
      exact fun z => nomatch z
  ek := l.ek
  sub := l.sub
  old := fun a h1 h2 _ => l.old a h1 h2
theorem Le.o {W : OW} {B H B' H' : Hp} (l : Le B H B' H') : Go W B H W B' H' := ⟨l.lo, fun _ z => .inl z⟩
theorem LeO.tr {A A2 : Addr → Prop} {B H B1 H1 B2 H2 : Hp} (a : LeO A B H B1 H1) (b : LeO A2 B1 H1 B2 H2) (h : ∀ p, A2 p → A p ∨ H p = none) : LeO A B H B2 H2 where
  ex := fun x o e n => b.ex x o (a.ex x o e n) fun z => by
    rcases h x z with w | w
    · exact n w
    · rw [e] at w
      exact nomatch w
  dom := fun x e => b.dom x (a.dom x e)
  ek := a.ek.trans b.ek
  sub := b.sub
  old := fun x h1 h2 n => b.old x (a.old x h1 h2 n) (a.dom x h2) fun z => by
    rcases h x z with w | w
    · exact n w
    · exact h2 w
theorem LeO.to {A A2 : Addr → Prop} {B H B1 H1 : Hp} (a : LeO A2 B H B1 H1) (h : ∀ p, A2 p → A p ∨ H p = none) : LeO A B H B1 H1 where
  ex := fun x o e n => a.ex x o e fun z => by
    rcases h x z with w | w
    · exact n w
    · rw [e] at w
      exact nomatch w
  dom := a.dom
  ek := a.ek
  sub := a.sub
  old := fun x h1 h2 n => a.old x h1 h2 fun z => by
    rcases h x z with w | w
    · exact n w
    · exact h2 w
theorem LeO.back {A : Addr → Prop} {B H B1 H1 : Hp} (a : LeO A B H B1 H1) {p : Addr} (h : H1 p = none) : H p = none := Classical.byContradiction fun z => a.dom p z h
theorem Go.tr {W W1 W2 : OW} {B H B1 H1 B2 H2 : Hp} (a : Go W B H W1 B1 H1) (b : Go W1 B1 H1 W2 B2 H2) : Go W B H W2 B2 H2 := ⟨a.toLeO.tr b.toLeO a.own, fun p z => (b.own p z).elim (a.own p) fun h => .inr (a.toLeO.back h)⟩
section
variable {K : Fg} {O : Nat → Bool} {σ : L2.St} {ρ ρ1 ρ2 : En} {B H B1 H1 B2 H2 : Hp} {W W1 : OW} {A : Addr → Prop}
theorem sqL_ups {a : Addr} {xs : List V} (h : SqL K B a xs) (l : Ex B B1) : SqL K B1 a xs := Evl.ex_l l h
theorem DaS.ex {v : V} {d : PyData} (h : DaS K B v d) (l : Ex B B1) : DaS K B1 v d := by
  rcases h with h | ⟨sc, ns, h1, h2, h3⟩
  · exact .inl (h.ex l)
  · exact .inr ⟨sc, ns, h1, h2, sqL_ups h3 l⟩
theorem DaS.da {v : V} {d : PyData} (h : DaS K B v d) (n : ∀ x, d = .tuple [.dict [(.none, x)]] → False) : Da K B v d := by
  rcases h with h | ⟨sc, ns, h1, h2, h3⟩
  · exact h
  · exact (n _ h2).elim
theorem Rows.up {X : Addr → Prop} (l : LeO X B H B1 H1) (n : ∀ a, A a → ¬ X a) : ∀ {qs : List Addr} {rs : List (List PyData)}, Rows K B H A qs rs → Rows K B1 H1 A qs rs
  | [], [], _ => trivial
  | q :: qs, r :: rs, ⟨⟨h1, h2, vs, h3, h4⟩, t⟩ => ⟨⟨h1, h2, vs, l.ex _ _ h3 (n q h1), h4.ex l.ek⟩, Rows.up l n t⟩
structure SubOk (S : Hp → Hp → Addr → (Addr → Prop) → PyData → Prop) : Prop where
  up : ∀ {X A : Addr → Prop} {B H B1 H1 : Hp} {p : Addr} {d : PyData}, S B H p A d → LeO X B H B1 H1 → (∀ a, A a → ¬ X a) → S B1 H1 p A d
  ex : ∀ {A : Addr → Prop} {B H B1 : Hp} {p : Addr} {d : PyData}, S B H p A d → Ex B B1 → S B1 H p A d
  mono : ∀ {A A2 : Addr → Prop} {B H : Hp} {p : Addr} {d : PyData}, S B H p A d → (∀ a, A a → A2 a) → S B H p A2 d
theorem FldS.imp {S S2 : Addr → (Addr → Prop) → PyData → Prop} {fs : List (Str × V)} (hd : ∀ v d, Da K B v d → Da K B1 v d) : ∀ {A A2 : Addr → Prop} {kvs : List (PyData × PyData)}, (∀ q A1 m, (∀ a, A1 a → A a) → S q A1 m → S2 q A1 m) → (∀ a, A a → A2 a) → FldS K S B fs A kvs → FldS K S2 B1 fs A2 kvs := by
  intro A A2 kvs
  induction kvs generalizing A A2 with
  | nil => exact fun _ _ _ => by unfold FldS; trivial
  | cons kv r ih =>
    intro hS hA h
    have other : ∀ {kv : PyData × PyData}, (FldS K S B fs A (kv :: r) = FldS K S B fs A r) → (FldS K S2 B1 fs A2 (kv :: r) = FldS K S2 B1 fs A2 r) → FldS K S B fs A (kv :: r) → FldS K S2 B1 fs A2 (kv :: r) := fun e1 e2 z => by
      rw [e2]
      rw [e1] at z
      exact ih hS hA z
    have dat : ∀ {n : Str} {d : PyData}, FldS K S B fs A ((.str n, .list [d]) :: r) → FldS K S2 B1 fs A2 ((.str n, .list [d]) :: r) := fun {n d} z => by
      obtain ⟨⟨v, h1, h2⟩, h3⟩ := z
      exact ⟨⟨v, h1, hd _ _ h2⟩, ih hS hA h3⟩
    have own : ∀ {n : Str} {m : PyData}, FldS K S B fs A ((.str n, .tuple [m]) :: r) → FldS K S2 B1 fs A2 ((.str n, .tuple [m]) :: r) := fun {n m} z => by
      obtain ⟨q, A1, h1, h2, h3, h4⟩ := z
      exact ⟨q, A1, h1, fun a z => hA a (h2 a z), hS _ _ _ h2 h3, ih (fun q A3 m w => hS q A3 m fun a z => (w a z).1) (fun a z => ⟨hA a z.1, z.2⟩) h4⟩
    match kv, h with
    | (.str n, .list [d]), h => exact dat h
    | (.str n, .tuple [m]), h => exact own h
    | (.str n, .list []), h => exact other rfl rfl h
    | (.str n, .list (_ :: _ :: _)), h => exact other rfl rfl h
    | (.str n, .tuple []), h => exact other rfl rfl h
    | (.str n, .tuple (_ :: _ :: _)), h => exact other rfl rfl h
    | (.str n, .none), h => exact other rfl rfl h
    | (.str n, .bool _), h => exact other rfl rfl h
    | (.str n, .int _), h => exact other rfl rfl h
    | (.str n, .str _), h => exact other rfl rfl h
    | (.str n, .dict _), h => exact other rfl rfl h
    | (.none, _), h => exact other rfl rfl h
    | (.bool _, _), h => exact other rfl rfl h
    | (.int _, _), h => exact other rfl rfl h
    | (.list _, _), h => exact other rfl rfl h
    | (.tuple _, _), h => exact other rfl rfl h
    | (.dict _, _), h => exact other rfl rfl h
theorem ObS.up {S : Hp → Hp → Addr → (Addr → Prop) → PyData → Prop} (so : SubOk S) {X : Addr → Prop} {p : Addr} {c : Str} {kvs : List (PyData × PyData)} (o : ObS K S B H p A c kvs) (l : LeO X B H B1 H1) (n : ∀ a, A a → ¬ X a) : ObS K S B1 H1 p A c kvs := by
  obtain ⟨q, C, dx, fs, h1, h2, hk, h3⟩ := o
  exact ⟨q, C, dx, fs, h1, l.ex _ _ h2 (n p q), hk, FldS.imp (fun _ _ z => z.ex l.ek) (fun q A1 m w z => so.up z l fun a y => n a (w a y).1) (fun _ z => z) h3⟩
theorem ObS.ex {S : Hp → Hp → Addr → (Addr → Prop) → PyData → Prop} (so : SubOk S) {p : Addr} {c : Str} {kvs : List (PyData × PyData)} (o : ObS K S B H p A c kvs) (l : Ex B B1) : ObS K S B1 H p A c kvs := by
  obtain ⟨q, C, dx, fs, h1, h2, hk, h3⟩ := o
  exact ⟨q, C, dx, fs, h1, h2, hk, FldS.imp (fun _ _ z => z.ex l) (fun q A1 m w z => so.ex z l) (fun _ z => z) h3⟩
theorem ObS.mono {S : Hp → Hp → Addr → (Addr → Prop) → PyData → Prop} {A2 : Addr → Prop} {p : Addr} {c : Str} {kvs : List (PyData × PyData)} (o : ObS K S B H p A c kvs) (l : ∀ a, A a → A2 a) : ObS K S B H p A2 c kvs := by
  obtain ⟨q, C, dx, fs, h1, h2, hk, h3⟩ := o
  exact ⟨l p q, C, dx, fs, h1, h2, hk, FldS.imp (fun _ _ z => z) (fun q A1 m w z => z) (fun a z => ⟨l a z.1, z.2⟩) h3⟩
theorem subOk_N {S : Hp → Hp → Addr → (Addr → Prop) → PyData → Prop} (so : SubOk S) : SubOk (OwnN K S) where
  up := fun {X A B H B1 H1 p d} o l n => by
    unfold OwnN at o ⊢
    split at o
    · obtain ⟨q, vs, h, a⟩ := o
      exact ⟨q, vs, l.ex _ _ h (n p q), a.ex l.ek⟩
    · obtain ⟨q, ws, ds, h, a, e⟩ := o
      exact ⟨q, ws, ds, l.ex _ _ h (n p q), a.ex l.ek, e⟩
    · obtain ⟨q, ws, ds, h, a, e⟩ := o
      exact ⟨q, ws, ds, l.ex _ _ h (n p q), a.ex l.ek, e⟩
    · exact ObS.up so o l n
    · exact o.elim
  ex := fun {A B H B1 p d} o l => by
    unfold OwnN at o ⊢
    split at o
    · obtain ⟨q, vs, h, a⟩ := o
      exact ⟨q, vs, h, a.ex l⟩
    · obtain ⟨q, ws, ds, h, a, e⟩ := o
      exact ⟨q, ws, ds, h, a.ex l, e⟩
    · obtain ⟨q, ws, ds, h, a, e⟩ := o
      exact ⟨q, ws, ds, h, a.ex l, e⟩
    · exact ObS.ex so o l
    · exact o.elim
  mono := fun {A A2 B H p d} o l => by
    unfold OwnN at o ⊢
    split at o
    · exact ⟨l p o.1, o.2⟩
    · exact ⟨l p o.1, o.2⟩
    · exact ⟨l p o.1, o.2⟩
    · exact ObS.mono o l
    · exact o.elim
theorem subOk_0 : SubOk (fun (_ _ : Hp) (_ : Addr) (_ : Addr → Prop) (_ : PyData) => False) := ⟨fun o _ _ => o, fun o _ => o, fun o _ => o⟩
theorem subOk_1 : SubOk (Own1 K) := subOk_N subOk_0
theorem subOk_2 : SubOk (Own2 K) := subOk_N subOk_1
theorem subOk_3 : SubOk (Own3 K) := subOk_N subOk_2
mutual
theorem Tr.up {X : Addr → Prop} (l : LeO X B H B1 H1) : ∀ {A : Addr → Prop} {v : V} {d : PyData}, (∀ a, A a → ¬ X a) → Tr K B H A v d → Tr K B1 H1 A v d
  | _, _, _, _, .leaf h a => .leaf h (a.ex l.ek)
  | _, _, _, n, .lst h1 h2 h3 h4 t => .lst h1 (l.ex _ _ h2 (n _ h1)) h3 h4 (Trs.up l (fun a z => n a (h4 a z)) t)
  | _, _, _, n, .tup h0 h1 h2 h3 h4 t => .tup h0 h1 (l.ex _ _ h2 (n _ h1)) h3 h4 (Trs.up l (fun a z => n a (h4 a z)) t)
theorem Trs.up {X : Addr → Prop} (l : LeO X B H B1 H1) : ∀ {A : Addr → Prop} {vs : List V} {ds : List PyData}, (∀ a, A a → ¬ X a) → Trs K B H A vs ds → Trs K B1 H1 A vs ds
  | _, _, _, _, .nil => .nil
  | _, _, _, n, .cons h1 h2 h3 a t => .cons h1 h2 h3 (Tr.up l (fun x z => n x (h1 x z)) a) (Trs.up l (fun x z => n x (h2 x z)) t)
end
mutual
theorem Tr.ex (l : Ex B B1) : ∀ {A : Addr → Prop} {v : V} {d : PyData}, Tr K B H A v d → Tr K B1 H A v d
  | _, _, _, .leaf h a => .leaf h (a.ex l)
  | _, _, _, .lst h1 h2 h3 h4 t => .lst h1 h2 h3 h4 (Trs.ex l t)
  | _, _, _, .tup h0 h1 h2 h3 h4 t => .tup h0 h1 h2 h3 h4 (Trs.ex l t)
theorem Trs.ex (l : Ex B B1) : ∀ {A : Addr → Prop} {vs : List V} {ds : List PyData}, Trs K B H A vs ds → Trs K B1 H A vs ds
  | _, _, _, .nil => .nil
  | _, _, _, .cons h1 h2 h3 a t => .cons h1 h2 h3 (Tr.ex l a) (Trs.ex l t)
end
theorem Tr.mono {A A2 : Addr → Prop} {v : V} {d : PyData} (l : ∀ a, A a → A2 a) : Tr K B H A v d → Tr K B H A2 v d
  | .leaf h a => .leaf h a
  | .lst h1 h2 h3 h4 t => .lst (l _ h1) h2 h3 (fun a z => l a (h4 a z)) t
  | .tup h0 h1 h2 h3 h4 t => .tup h0 (l _ h1) h2 h3 (fun a z => l a (h4 a z)) t
theorem Own.up {p : Addr} {X : Addr → Prop} {d : PyData} (o : Own K B H p A d) (l : LeO X B H B1 H1) (n : ∀ a, A a → ¬ X a) : Own K B1 H1 p A d := match d, o with
  | .list _, ⟨q, vs, h, a⟩ => ⟨q, vs, l.ex _ _ h (n p q), a.ex l.ek⟩
  | .dict _, ⟨q, ws, ds, h, a, e⟩ => ⟨q, ws, ds, l.ex _ _ h (n p q), a.ex l.ek, e⟩
  | .tuple [.dict _], ⟨q, ws, ds, h, a, e⟩ => ⟨q, ws, ds, l.ex _ _ h (n p q), a.ex l.ek, e⟩
  | .tuple [.list _], ⟨q, qs, rs, e, h, m, a⟩ => ⟨q, qs, rs, e, l.ex _ _ h (n p q), m, a.up l n⟩
  | .tuple [.tuple [_]], ⟨q, z, t⟩ => ⟨q, z, t.up l n⟩
  | .tuple [.str _, .dict _], o => ObS.up subOk_3 o l n
theorem Own.some {p : Addr} {d : PyData} (o : Own K B H p A d) : H p ≠ none := match d, o with
  | .list _, ⟨q, vs, h, a⟩ => by
    rw [h]
    exact fun z => nomatch z
  | .dict _, ⟨q, ws, ds, h, a, e⟩ => by
    rw [h]
    exact fun z => nomatch z
  | .tuple [.dict _], ⟨q, ws, ds, h, a, e⟩ => by
    rw [h]
    exact fun z => nomatch z
  | .tuple [.list _], ⟨q, qs, rs, e, h, m, a⟩ => by
    rw [h]
    exact fun z => nomatch z
  | .tuple [.tuple [_]], ⟨q, z, t⟩ => by
    cases t with
    | leaf h a =>
      rw [h] at z
      exact nomatch z
    | lst h1 h2 h3 h4 t =>
      rw [h2]
      exact fun z => nomatch z
    | tup h0 h1 h2 h3 h4 t =>
      rw [h2]
      exact fun z => nomatch z
  | .tuple [.str _, .dict _], ⟨q, C, dx, fs, h1, h2, h3⟩ => by
    rw [h2]
    exact fun z => nomatch z
theorem Own.at {p : Addr} {d : PyData} (o : Own K B H p A d) : A p := match d, o with
  | .list _, ⟨q, _⟩ => q
  | .dict _, ⟨q, _⟩ => q
  | .tuple [.dict _], ⟨q, _⟩ => q
  | .tuple [.list _], ⟨q, _⟩ => q
  | .tuple [.tuple [_]], ⟨q, _⟩ => q
  | .tuple [.str _, .dict _], ⟨q, _⟩ => q
theorem Rows.ex (l : Ex B B1) : ∀ {qs : List Addr} {rs : List (List PyData)}, Rows K B H A qs rs → Rows K B1 H A qs rs
  | [], [], _ => trivial
  | q :: qs, r :: rs, ⟨⟨h1, h2, vs, h3, h4⟩, t⟩ => ⟨⟨h1, h2, vs, h3, h4.ex l⟩, Rows.ex l t⟩
theorem Own.ex {p : Addr} {d : PyData} (o : Own K B H p A d) (l : Ex B B1) : Own K B1 H p A d := match d, o with
  | .list _, ⟨q, vs, h, a⟩ => ⟨q, vs, h, a.ex l⟩
  | .dict _, ⟨q, ws, ds, h, a, e⟩ => ⟨q, ws, ds, h, a.ex l, e⟩
  | .tuple [.dict _], ⟨q, ws, ds, h, a, e⟩ => ⟨q, ws, ds, h, a.ex l, e⟩
  | .tuple [.list _], ⟨q, qs, rs, e, h, m, a⟩ => ⟨q, qs, rs, e, h, m, a.ex l⟩
  | .tuple [.tuple [_]], ⟨q, z, t⟩ => ⟨q, z, t.ex l⟩
  | .tuple [.str _, .dict _], o => ObS.ex subOk_3 o l
theorem Rows.mono {A2 : Addr → Prop} (l : ∀ a, A a → A2 a) : ∀ {qs : List Addr} {rs : List (List PyData)}, Rows K B H A qs rs → Rows K B H A2 qs rs
  | [], [], _ => trivial
  | q :: qs, r :: rs, ⟨⟨h1, h2, vs, h3, h4⟩, t⟩ => ⟨⟨l q h1, h2, vs, h3, h4⟩, Rows.mono l t⟩
theorem Own.mono {A2 : Addr → Prop} {p : Addr} {d : PyData} (o : Own K B H p A d) (l : ∀ a, A a → A2 a) : Own K B H p A2 d := match d, o with
  | .list _, ⟨q, r⟩ => ⟨l p q, r⟩
  | .dict _, ⟨q, r⟩ => ⟨l p q, r⟩
  | .tuple [.dict _], ⟨q, r⟩ => ⟨l p q, r⟩
  | .tuple [.list _], ⟨q, qs, rs, e, h, m, a⟩ => ⟨l p q, qs, rs, e, h, m, a.mono l⟩
  | .tuple [.tuple [_]], ⟨q, z, t⟩ => ⟨l p q, z, t.mono l⟩
  | .tuple [.str _, .dict _], o => ObS.mono o l
theorem SDo.up (s : SDo K O σ B H ρ W) {X : Addr → Prop} (l : LeO X B H B1 H1) (n : ∀ p, X p → ¬ WA W p) : SDo K O σ B1 H1 ρ W where
  len := s.len
  dat := fun i d h1 h2 => let ⟨v, a, b⟩ := s.dat i d h1 h2; ⟨v, a, b.ex l.ek⟩
  own := fun i d h1 h2 => let ⟨p, a, c⟩ := s.own i d h1 h2; ⟨p, a, c.up l fun a h z => n a z ⟨i, h⟩⟩
  bh := fun i p h => let ⟨h1, h2⟩ := s.bh i p h; ⟨l.old p h1 h2 fun z => n p z ⟨i, h⟩, l.dom p h2⟩
  dis := s.dis
theorem SDo.le (s : SDo K O σ B H ρ W) (l : Le B H B1 H1) : SDo K O σ B1 H1 ρ W := s.up (X := fun _ => False) l.lo fun _ z => z.elim
theorem SDo.put {v : V} {d : PyData} (s : SDo K O σ B H ρ W) (i : Nat) (hi : O i = false) (h : Da K B v d) : SDo K O (σ.set i (some v)) B H (ρ.set i (some d)) W := by
  have g : ∀ {j : Nat}, j ≠ i → (σ.set i (some v))[j]? = σ[j]? := fun hj => List.getElem?_set_ne (Ne.symm hj)
  have g2 : ∀ {j : Nat}, j ≠ i → (ρ.set i (some d))[j]? = ρ[j]? := fun hj => List.getElem?_set_ne (Ne.symm hj)
  have ne : ∀ {j : Nat}, O j = true → j ≠ i := fun hj e => by
    rw [e, hi] at hj
    exact nomatch hj
  refine ⟨by rw [List.length_set, List.length_set]; exact s.len, fun j e h1 hj => ?_, fun j e h1 hj => ?_, s.bh, s.dis⟩
  · by_cases q : j = i
    · subst q
      by_cases l : j < ρ.length
      · rw [List.getElem?_set_self l] at hj
        cases hj
        exact ⟨v, List.getElem?_set_self (by rw [s.len]; exact l), .inl h⟩
      · rw [List.getElem?_eq_none (by rw [List.length_set]; omega)] at hj
        cases hj
    · rw [g2 q] at hj
      rw [g q]
      exact s.dat j e h1 hj
  · rw [g2 (ne h1)] at hj
    rw [g (ne h1)]
    exact s.own j e h1 hj
theorem SDo.lessW (s : SDo K O σ B H ρ W) (hl : ρ1.length = ρ.length) (h : ∀ (i : Nat) (d : PyData), ρ1[i]? = some (some d) → ρ[i]? = some (some d)) (hw : ∀ i p, W1 i p → W i p) (hk : ∀ (i : Nat) (d : PyData), O i = true → ρ1[i]? = some (some d) → ∀ p, W i p → W1 i p) : SDo K O σ B H ρ1 W1 :=
  ⟨s.len.trans hl.symm, fun i d h1 h2 => s.dat i d h1 (h i d h2), fun i d h1 h2 => let ⟨p, a, b⟩ := s.own i d h1 (h i d h2); ⟨p, a, b.mono (hk i d h1 h2)⟩, fun i p z => s.bh i p (hw i p z), fun i j p z w => s.dis i j p (hw i p z) (hw j p w)⟩
theorem put_wa {i : Nat} {p : Addr} (h : WA (W.put i A) p) : A p ∨ WA W p := by
  obtain ⟨j, h | h⟩ := h
  · exact .inl h.2
  · exact .inr ⟨j, h.2⟩
theorem SDo.putO {p : Addr} {d : PyData} (s : SDo K O σ B H ρ W) (i : Nat) (hi : O i = true) (o : Own K B H p A d) (n : ∀ a, A a → B a = none ∧ H a ≠ none ∧ ¬ WA W a) : SDo K O (σ.set i (some (.ref p))) B H (ρ.set i (some d)) (W.put i A) := by
  have g : ∀ {j : Nat}, j ≠ i → (σ.set i (some (.ref p)))[j]? = σ[j]? := fun hj => List.getElem?_set_ne (Ne.symm hj)
  have g2 : ∀ {j : Nat}, j ≠ i → (ρ.set i (some d))[j]? = ρ[j]? := fun hj => List.getElem?_set_ne (Ne.symm hj)
  refine ⟨by rw [List.length_set, List.length_set]; exact s.len, fun j e h1 hj => ?_, fun j e h1 hj => ?_, fun j a h => ?_, fun j k a hj hk => ?_⟩
  · have ne : j ≠ i := fun z => by
      rw [z, hi] at h1
      exact nomatch h1
    rw [g2 ne] at hj
    rw [g ne]
    exact s.dat j e h1 hj
  · by_cases q : j = i
    · subst q
      by_cases l : j < ρ.length
      · rw [List.getElem?_set_self l] at hj
        cases hj
        exact ⟨p, List.getElem?_set_self (by rw [s.len]; exact l), o.mono fun a h => .inl ⟨rfl, h⟩⟩
      · rw [List.getElem?_eq_none (by rw [List.length_set]; omega)] at hj
        cases hj
    · rw [g2 q] at hj
      rw [g q]
      obtain ⟨p2, e1, e2⟩ := s.own j e h1 hj
      exact ⟨p2, e1, e2.mono fun a h => .inr ⟨q, h⟩⟩
  · rcases h with ⟨_, h⟩ | ⟨_, h⟩
    · exact ⟨(n a h).1, (n a h).2.1⟩
    · exact s.bh j a h
  · rcases hj with ⟨e1, h1⟩ | ⟨e1, h1⟩ <;> rcases hk with ⟨e2, h2⟩ | ⟨e2, h2⟩
    · rw [e1, e2]
    · exact ((n a h1).2.2 ⟨k, h2⟩).elim
    · exact ((n a h2).2.2 ⟨j, h1⟩).elim
    · exact s.dis j k a h1 h2
theorem SDo.chgG {p : Addr} {d d' : PyData} (s : SDo K O σ B H ρ W) (i : Nat) (hi : O i = true) (h : ρ[i]? = some (some d)) (hs : σ[i]? = some (some (.ref p))) (l : LeO (W i) B H B1 H1) (hb : ∀ a, A a → B1 a = none ∧ H1 a ≠ none ∧ (W i a ∨ H a = none)) (ho : Own K B1 H1 p A d') : SDo K O σ B1 H1 (ρ.set i (some d')) (W.put i A) ∧ Go W B H (W.put i A) B1 H1 := by
  have g2 : ∀ {j : Nat}, j ≠ i → (ρ.set i (some d'))[j]? = ρ[j]? := fun hj => List.getElem?_set_ne (Ne.symm hj)
  have il : i < ρ.length := (List.getElem?_eq_some_iff.mp h).1
  refine ⟨⟨by rw [List.length_set]; exact s.len, fun j e h1 hj => ?_, fun j e h1 hj => ?_, fun j a h => ?_, fun j k a hj hk => ?_⟩, l.to fun a z => .inl ⟨i, z⟩, fun a z => ?_⟩
  · have ne : j ≠ i := fun z => by
      rw [z, hi] at h1
      exact nomatch h1
    rw [g2 ne] at hj
    obtain ⟨v, a, b⟩ := s.dat j e h1 hj
    exact ⟨v, a, b.ex l.ek⟩
  · by_cases q : j = i
    · subst q
      rw [List.getElem?_set_self il] at hj
      cases hj
      exact ⟨p, hs, ho.mono fun a h => .inl ⟨rfl, h⟩⟩
    · rw [g2 q] at hj
      obtain ⟨p2, f1, f3⟩ := s.own j e h1 hj
      exact ⟨p2, f1, (f3.up l fun a z w => q (s.dis j i a z w)).mono fun a h => .inr ⟨q, h⟩⟩
  · rcases h with ⟨_, h⟩ | ⟨q, h⟩
    · exact ⟨(hb a h).1, (hb a h).2.1⟩
    · obtain ⟨h1, h2⟩ := s.bh j a h
      exact ⟨l.old a h1 h2 fun w => q (s.dis j i a h w), l.dom a h2⟩
  · rcases hj with ⟨e1, h1⟩ | ⟨e1, h1⟩ <;> rcases hk with ⟨e2, h2⟩ | ⟨e2, h2⟩
    · rw [e1, e2]
    · rcases (hb a h1).2.2 with z | z
      · exact (e2 (s.dis k i a h2 z)).elim
      · exact ((s.bh k a h2).2 z).elim
    · rcases (hb a h2).2.2 with z | z
      · exact (e1 (s.dis j i a h1 z)).elim
      · exact ((s.bh j a h1).2 z).elim
    · exact s.dis j k a h1 h2
  · rcases put_wa z with w | w
    · exact (hb a w).2.2.imp (fun z => ⟨i, z⟩) id
    · exact .inl w
theorem SDo.chg {p : Addr} {d d' : PyData} {o : HO} (s : SDo K O σ B H ρ W) (sx : Ex B H) (i : Nat) (hi : O i = true) (h : ρ[i]? = some (some d)) (hs : σ[i]? = some (some (.ref p))) (ho : Own K B (upd H p o) p (W i) d') : SDo K O σ B (upd H p o) (ρ.set i (some d')) W ∧ Go W B H W B (upd H p o) := by
  obtain ⟨p', e1, e3⟩ := s.own i d hi h
  rw [hs] at e1
  cases e1
  have wp := e3.at
  obtain ⟨bp, hp⟩ := s.bh i p wp
  have l : LeO (W i) B H B (upd H p o) := by
    refine ⟨fun b u hb n => by rw [upd_ne (fun z => n (by rw [z]; exact wp))]; exact hb, fun b hb => ?_, Ex.refl B, fun b u hb => ?_, fun a h1 _ _ => h1⟩
    · by_cases q : b = p
      · rw [q, upd_same]
        exact fun z => nomatch z
      · rw [upd_ne q]
        exact hb
    · rw [upd_ne (ne_of_none hb bp)]
      exact sx b u hb
  obtain ⟨a, b⟩ := s.chgG i hi h hs l (A := W i) (fun a z => ⟨(s.bh i a z).1, l.dom a (s.bh i a z).2, .inl z⟩) ho
  have e : W.put i (W i) = W := by
    funext j a
    apply propext
    constructor
    · rintro (⟨rfl, z⟩ | ⟨_, z⟩) <;> exact z
    · intro z
      by_cases q : j = i
      · subst q
        exact .inl ⟨rfl, z⟩
      · exact .inr ⟨q, z⟩
  rw [e] at a b
  exact ⟨a, b⟩
end
end TD
set_option maxHeartbeats 4000000
namespace TD
open PySem PySem.Spec PyProof.Rows L2
open Evl (Ex)
def Mo (_ : Nat → Bool) (_ _ : En) : Prop := True
theorem Mo.rfl' {O : Nat → Bool} {ρ : En} : Mo O ρ ρ := trivial
theorem Mo.tr {O : Nat → Bool} {ρ ρ1 ρ2 : En} (_ : Mo O ρ ρ1) (_ : Mo O ρ1 ρ2) : Mo O ρ ρ2 := trivial
theorem Go.mo {O : Nat → Bool} {ρ ρ1 : En} {W W1 W2 : OW} {B H B1 H1 B2 H2 : Hp} (a : Go W B H W1 B1 H1) (b : Go W1 B1 H1 W2 B2 H2) (_ : Mo O ρ ρ1) : Go W B H W2 B2 H2 := a.tr b
def FrA (W : OW) (H : Hp) (W' : OW) (B' H' : Hp) (A : Addr → Prop) : Prop := ∀ a, A a → B' a = none ∧ H' a ≠ none ∧ ¬ WA W' a ∧ (WA W a ∨ H a = none)
theorem FrA.behind {W W1 W2 : OW} {B H B1 H1 B2 H2 : Hp} {A : Addr → Prop} (n : FrA W1 H1 W2 B2 H2 A) (l : Go W B H W1 B1 H1) : FrA W H W2 B2 H2 A := fun a h =>
  let ⟨h1, h2, h3, h4⟩ := n a h
  ⟨h1, h2, h3, h4.elim (l.own a) fun z => .inr (l.toLeO.back z)⟩
def PX (E : XK) (_ : Nat → Bool) (_ : L2.St) (B H : Hp) (_ : En) (W : OW) (C : Addr) (v : V) : Prop := ∀ x B' H', LeO (WA W) B H B' H' → H' x = some (xdV v) → E (.ref C) (some x) H'
section
variable (K : Fg) (cl : Nat → Addr) (E : XK) (m : Nat) (O : Nat → Bool)
def PV (σ : L2.St) (B H : Hp) (ρ : En) (W : OW) (d : PyData) (ρ' : En) (Q : VK) : Prop := ∀ v B' H' W', Go W B H W' B' H' → SDo K O σ B' H' ρ' W' → Da K B' v d → Q v H'
def PO (σ : L2.St) (B H : Hp) (ρ : En) (W : OW) (d : PyData) (ρ' : En) (Q : VK) : Prop := ∀ p A B' H' W', Go W B H W' B' H' → SDo K O σ B' H' ρ' W' → Own K B' H' p A d → FrA W H W' B' H' A → Q (.ref p) H'
def EOy (te : TE) (ρ : En) : ER → Prop
  | .st => True
  | .v d ρ' => Mo O ρ ρ' ∧ ∀ σ B H W, Ex B H → SDo K O σ B H ρ W → ∀ Q, PV K O σ B H ρ W d ρ' Q → te σ H Q
  | .o d ρ' => Mo O ρ ρ' ∧ ∀ σ B H W, Ex B H → SDo K O σ B H ρ W → ∀ Q, PO K O σ B H ρ W d ρ' Q → te σ H Q
  | .x c i => i < m ∧ ∀ σ B H W, Ex B H → SDo K O σ B H ρ W → ∀ v, σ[i]? = some (some v) → PX E O σ B H ρ W (cl c) v → ∀ Q, te σ H Q
inductive AK where
  | d | s (i : Nat) | o (i : Nat)
def ArgOk (O : Nat → Bool) (σ : L2.St) (B : Hp) : List AK → List PyData → List V → Prop
  | [], [], [] => True
  | .d :: ks, d :: ds, v :: vs => Da K B v d ∧ ArgOk O σ B ks ds vs
  | .s i :: ks, d :: ds, v :: vs => Da K B v d ∧ σ[i]? = some (some v) ∧ ArgOk O σ B ks ds vs
  | .o i :: ks, _ :: ds, v :: vs => σ[i]? = some (some v) ∧ ArgOk O σ B ks ds vs
  | _, _, _ => False
def PA_ (σ : L2.St) (B H : Hp) (ρ : En) (W : OW) (ks : List AK) (ds : List PyData) (ρ' : En) (Q : List V → Hp → Prop) : Prop := ∀ vs B' H' W', Go W B H W' B' H' → SDo K O σ B' H' ρ' W' → ArgOk K O σ B' ks ds vs → Q vs H'
def AOy (ta : TA) (ks : List AK) (ρ : En) : AR → Prop
  | .st => True
  | .vs ds ρ' => Mo O ρ ρ' ∧ ∀ σ B H W, Ex B H → SDo K O σ B H ρ W → ∀ Q, PA_ K O σ B H ρ W ks ds ρ' Q → ta σ H Q
  | .x c i => i < m ∧ ∀ σ B H W, Ex B H → SDo K O σ B H ρ W → ∀ v, σ[i]? = some (some v) → PX E O σ B H ρ W (cl c) v → ∀ Q, ta σ H Q
def TOy (tt : TT) (ρ : En) : TR → Prop
  | .st => True
  | .b b ρ' => Mo O ρ ρ' ∧ ∀ σ B H W, Ex B H → SDo K O σ B H ρ W → ∀ Q : Bool → Hp → Prop, (∀ B' H' W', Go W B H W' B' H' → SDo K O σ B' H' ρ' W' → Q b H') → tt σ H Q
  | .x c i => i < m ∧ ∀ σ B H W, Ex B H → SDo K O σ B H ρ W → ∀ v, σ[i]? = some (some v) → PX E O σ B H ρ W (cl c) v → ∀ Q, tt σ H Q
def YE (te : TE) (f : En → ER) : Prop := ∀ ρ, EOy K cl E m O te ρ (f ρ)
def YA (ta : TA) (ks : List AK) (f : En → AR) : Prop := ∀ ρ, AOy K cl E m O ta ks ρ (f ρ)
def YT (tt : TT) (f : En → TR) : Prop := ∀ ρ, TOy K cl E m O tt ρ (f ρ)
def Op2 (r : R2) (g : PyData → PyData → Option PyData) : Prop := ∀ x y z, g x y = some z → R2D K r x y z
def Op1 (r : V → Hp → VK → Prop) (g : PyData → Option PyData) : Prop := ∀ x z, g x = some z → R1D K r x z
def OpC (r : List V → Hp → VK → Prop) (g : List PyData → Option PyData) : Prop := ∀ xs z, g xs = some z → RcD K r xs z
end
def eVar (i : Nat) (ρ : En) : ER := match ρ[i]? with
  | some (some (.tuple [.dict [(.none, _)]])) => .st
  | some (some d) => .v d ρ
  | _ => .st
def eMove (i : Nat) (ρ : En) : ER := match ρ[i]? with
  | some (some d) => .o d (ρ.set i none)
  | _ => .st
def eC (d : PyData) (ρ : En) : ER := .v d ρ
def eThen (r : ER) (k : PyData → En → ER) : ER := match r with
  | .v d ρ => k d ρ
  | .x c i => .x c i
  | _ => .st
def eo (o : Option PyData) (ρ : En) : ER := match o with
  | some d => .v d ρ
  | none => .st
def eFz (f : En → ER) (ρ : En) : ER := match f ρ with
  | .o (.list ds) ρ' => .v (.list ds) ρ'
  | .o (.dict ds) ρ' => .v (.dict ds) ρ'
  | .o (.tuple [.list ls]) ρ' => .v (.list ls) ρ'
  | .v d ρ' => .v d ρ'
  | .x c i => .x c i
  | _ => .st
def eOp (g : PyData → PyData → Option PyData) (fa fb : En → ER) (ρ : En) : ER := eThen (fa ρ) fun x ρ1 => eThen (fb ρ1) fun y ρ2 => eo (g x y) ρ2
def eUn (g : PyData → Option PyData) (fa : En → ER) (ρ : En) : ER := eThen (fa ρ) fun x ρ1 => eo (g x) ρ1
def eBool (r : ER) : ER := match r with
  | .v (.bool b) ρ => .v (.bool b) ρ
  | .x c i => .x c i
  | _ => .st
def eAnd (fa fb : En → ER) (ρ : En) : ER := eThen (fa ρ) fun x ρ1 => match x with
  | .bool true => eBool (fb ρ1)
  | .bool false => .v (.bool false) ρ1
  | _ => .st
def eOr (fa fb : En → ER) (ρ : En) : ER := eThen (fa ρ) fun x ρ1 => match x with
  | .bool false => eBool (fb ρ1)
  | .bool true => .v (.bool true) ρ1
  | _ => .st
def tThen (r : TR) (k : Bool → En → ER) : ER := match r with
  | .b b ρ => k b ρ
  | .x c i => .x c i
  | .st => .st
def eIf (ft : En → TR) (fa fb : En → ER) (ρ : En) : ER := tThen (ft ρ) fun b ρ1 => match b with
  | true => fa ρ1
  | false => fb ρ1
def eChain (g g' : PyData → PyData → Option PyData) (fa fb fc : En → ER) (ρ : En) : ER := eThen (fa ρ) fun x ρ1 => eThen (fb ρ1) fun y ρ2 => match g x y with
  | some (.bool true) => eThen (fc ρ2) fun z ρ3 => match g' y z with
    | some (.bool b) => .v (.bool b) ρ3
    | _ => .st
  | some (.bool false) => .v (.bool false) ρ2
  | _ => .st
def aNil (ρ : En) : AR := .vs [] ρ
def aThen (r : AR) (k : List PyData → En → AR) : AR := match r with
  | .vs ds ρ => k ds ρ
  | .x c i => .x c i
  | .st => .st
def aCons (fa : En → ER) (fr : En → AR) (ρ : En) : AR := match fa ρ with
  | .v d ρ1 => aThen (fr ρ1) fun ds ρ2 => .vs (d :: ds) ρ2
  | .x c i => .x c i
  | _ => .st
def aOwn (fr : En → AR) (ρ : En) : AR := aThen (fr ρ) fun ds ρ2 => .vs (.none :: ds) ρ2
def aE (r : AR) (k : List PyData → En → ER) : ER := match r with
  | .vs ds ρ => k ds ρ
  | .x c i => .x c i
  | .st => .st
def eCB (g : List PyData → Option PyData) (fa : En → AR) (ρ : En) : ER := aE (fa ρ) fun xs ρ1 => eo (g xs) ρ1
def eTup (fa : En → AR) (ρ : En) : ER := aE (fa ρ) fun ds ρ1 => match decide (ds.length ≤ 100000) with
  | true => .v (.tuple ds) ρ1
  | false => .st
def eLst (fa : En → AR) (ρ : En) : ER := aE (fa ρ) fun ds ρ1 => match decide (ds.length ≤ 100000) with
  | true => .o (.list ds) ρ1
  | false => .st
def tVal' (fa : En → ER) (ρ : En) : TR := match fa ρ with
  | .v (.bool b) ρ1 => .b b ρ1
  | .x c i => .x c i
  | _ => .st
def tAndZ (fa fb : En → TR) (ρ : En) : TR := match fa ρ with
  | .b true ρ1 => fb ρ1
  | r => r
def tOrZ (fa fb : En → TR) (ρ : En) : TR := match fa ρ with
  | .b false ρ1 => fb ρ1
  | r => r
def tNotZ (fa : En → TR) (ρ : En) : TR := match fa ρ with
  | .b b ρ1 => .b (!b) ρ1
  | r => r
def tYesZ (ρ : En) : TR := .b true ρ
section
variable {K : Fg} {cl : Nat → Addr} {E : XK} {m : Nat} {O : Nat → Bool} {ta tb tc te : TE} {fa fb fc fe : En → ER} {tt tu : TT} {ft fu : En → TR} {al : TA} {fl : En → AR} {ks : List AK} {r r' : R2} {ρ ρ' ρ1 : En} {C : Addr} {i c : Nat} {W W1 : OW}
theorem PX.behind {σ : L2.St} {B H B1 H1 : Hp} {v : V} (w : PX E O σ B H ρ W C v) (l : Go W B H W1 B1 H1) (h : Mo O ρ ρ1) : PX E O σ B1 H1 ρ1 W1 C v := fun x B' H' l' => w x B' H' (l.toLeO.tr l' l.own)
theorem ey_then {te : TE} {x : ER} {k : PyData → En → ER} (h : EOy K cl E m O ta ρ x) (hx : ∀ σ H Q, (∀ Q', ta σ H Q') → te σ H Q)
    (hk : ∀ d ρ1, Mo O ρ ρ1 → (∀ σ B H W, Ex B H → SDo K O σ B H ρ W → ∀ Q, PV K O σ B H ρ W d ρ1 Q → ta σ H Q) → EOy K cl E m O te ρ (k d ρ1)) : EOy K cl E m O te ρ (eThen x k) := by
  cases x with
  | st => trivial
  | v d ρ1 => exact hk d ρ1 h.1 h.2
  | o d ρ1 => trivial
  | x c i => exact ⟨h.1, fun σ B H W s sd v hv w Q => hx σ H Q (h.2 σ B H W s sd v hv w)⟩
theorem EOy.behind {te tb : TE} {x : ER} (h : EOy K cl E m O tb ρ1 x) (mo : Mo O ρ ρ1) (hx : ∀ σ B H W, Ex B H → SDo K O σ B H ρ W → ∀ Q, (∀ B1 H1 W1, Go W B H W1 B1 H1 → SDo K O σ B1 H1 ρ1 W1 → tb σ H1 Q) → te σ H Q) : EOy K cl E m O te ρ x := by
  cases x with
  | st => trivial
  | v d ρ2 => exact ⟨mo.tr h.1, fun σ B H W s sd Q q => hx σ B H W s sd Q fun B1 H1 W1 l1 s1 => h.2 σ B1 H1 W1 l1.sub s1 Q fun v B2 H2 W2 l2 s2 d2 => q v B2 H2 _ (l1.mo l2 mo) s2 d2⟩
  | o d ρ2 => exact ⟨mo.tr h.1, fun σ B H W s sd Q q => hx σ B H W s sd Q fun B1 H1 W1 l1 s1 => h.2 σ B1 H1 W1 l1.sub s1 Q fun p A2 B2 H2 W2 l2 s2 o n => q p A2 B2 H2 _ (l1.mo l2 mo) s2 o (n.behind l1)⟩
  | x c i => exact ⟨h.1, fun σ B H W s sd v hv w Q => hx σ B H W s sd Q fun B1 H1 W1 l1 s1 => h.2 σ B1 H1 W1 l1.sub s1 v hv (w.behind l1 mo) Q⟩
theorem ey_of {o : Option PyData} (mo : Mo O ρ ρ1) (h : ∀ d, o = some d → ∀ σ B H W, Ex B H → SDo K O σ B H ρ W → ∀ Q, PV K O σ B H ρ W d ρ1 Q → te σ H Q) : EOy K cl E m O te ρ (eo o ρ1) := by
  cases o with
  | none => trivial
  | some d => exact ⟨mo, h d rfl⟩
theorem ye_var {i : Nat} (hO : O i = false := by rfl) : YE K cl E m O (tVar i) (eVar i) := fun ρ => by
  unfold eVar
  split
  · trivial
  · next d n h =>
    refine ⟨Mo.rfl', fun σ B H W s sd Q q => ?_⟩
    obtain ⟨v, e, hd⟩ := sd.dat i d hO h
    exact ⟨v, e, q v B H W (Go.rfl' s) sd (hd.da n)⟩
  · trivial
def OW.no (W : OW) (i : Nat) : OW := fun j p => j ≠ i ∧ W j p
theorem ye_move {i : Nat} (hO : O i = true := by rfl) : YE K cl E m O (tVar i) (eMove i) := fun ρ => by
  unfold eMove
  split
  · next d h =>
    have le : ∀ (j : Nat) (e : PyData), (ρ.set i none)[j]? = some (some e) → ρ[j]? = some (some e) ∧ j ≠ i := fun j e he => by
      by_cases q : j = i
      · subst q
        rw [List.getElem?_set_self (List.getElem?_eq_some_iff.mp h).1] at he
        cases he
      · rw [List.getElem?_set_ne (Ne.symm q)] at he
        exact ⟨he, q⟩
    refine ⟨trivial, fun σ B H W s sd Q q => ?_⟩
    obtain ⟨p, e, o⟩ := sd.own i d hO h
    refine ⟨.ref p, e, q p (W i) B H (W.no i) ⟨LeO.rfl' s, fun a ⟨j, _, z⟩ => .inl ⟨j, z⟩⟩ (sd.lessW (List.length_set ..) (fun j e he => (le j e he).1) (fun _ _ z => z.2) fun j e _ he a z => ⟨(le j e he).2, z⟩) o fun a z => ⟨(sd.bh i a z).1, (sd.bh i a z).2, fun ⟨j, n, w⟩ => n (sd.dis j i a w z), .inl ⟨i, z⟩⟩⟩
  · trivial
theorem ye_c {u : V} {d : PyData} (h : ∀ B : Hp, Da K B u d) : YE K cl E m O (tC u) (eC d) := fun ρ => ⟨Mo.rfl', fun σ B H W s sd Q q => q u B H W (Go.rfl' s) sd (h B)⟩
theorem ye_int {i : Int} : YE K cl E m O (tC (.int i)) (eC (.int i)) := ye_c fun _ => .int i
theorem ye_non : YE K cl E m O (tC .non) (eC .none) := ye_c fun _ => .non
theorem ye_bl {b : Bool} : YE K cl E m O (tC (.bl b)) (eC (.bool b)) := ye_c fun _ => .bl b
theorem ye_str {s : Str} : YE K cl E m O (tC (.str s)) (eC (.str s)) := ye_c fun _ => .str s
theorem po_freeze {σ : L2.St} {B H B1 H1 : Hp} {p : Addr} {A : Addr → Prop} {d : PyData} {Q : VK} (u : HO) (l1 : Go W B H W1 B1 H1) (s1 : SDo K O σ B1 H1 ρ1 W1) (pA : A p) (n : FrA W H W1 B1 H1 A) (hp : H1 p = some u) (hd : ∀ k : Ex B1 (upd B1 p u), Da K (upd B1 p u) (.ref p) d) (q : PV K O σ B H ρ W d ρ1 Q) : Q (.ref p) H1 := by
  obtain ⟨n1, _, n3, n4⟩ := n p pA
  have k : Ex B1 (upd B1 p u) := fun b v hb => by
    rw [upd_ne (ne_of_none hb n1)]
    exact hb
  have sb : Ex (upd B1 p u) H1 := fun b v hb => by
    by_cases z : b = p
    · rw [z, upd_same] at hb
      cases hb
      rw [z]
      exact hp
    · rw [upd_ne z] at hb
      exact l1.sub b v hb
  refine q (.ref p) (upd B1 p u) H1 W1 ⟨⟨l1.ex, l1.dom, l1.ek.trans k, sb, fun b h1 h2 h3 => ?_⟩, l1.own⟩ ⟨s1.len, fun i d h1 h2 => ?_, fun i d h1 h2 => ?_, fun i b h => ?_, s1.dis⟩ (hd k)
  · rw [upd_ne (fun z => by
      subst z
      rcases n4 with w | w
      · exact h3 w
      · exact h2 w)]
    exact l1.old b h1 h2 h3
  · obtain ⟨v, e1, e2⟩ := s1.dat i d h1 h2
    exact ⟨v, e1, e2.ex k⟩
  · obtain ⟨p2, e1, e3⟩ := s1.own i d h1 h2
    exact ⟨p2, e1, e3.ex k⟩
  · rw [upd_ne (fun z => n3 (by rw [← z]; exact ⟨i, h⟩))]
    exact s1.bh i b h
theorem po_freezeS {σ : L2.St} {B H B1 H1 : Hp} {v : V} {A : Addr → Prop} {d : PyData} {Q : VK} (S : List Addr) (l1 : Go W B H W1 B1 H1) (s1 : SDo K O σ B1 H1 ρ1 W1) (sA : ∀ a ∈ S, A a) (n : FrA W H W1 B1 H1 A) (hd : ∀ B2, Ex B1 B2 → (∀ a ∈ S, B2 a = H1 a) → Da K B2 v d) (q : PV K O σ B H ρ W d ρ1 Q) : Q v H1 := by
  have k : Ex B1 (fun b => if b ∈ S then H1 b else B1 b) := fun b o hb => by
    show (if b ∈ S then H1 b else B1 b) = some o
    rw [if_neg (fun z => by rw [(n b (sA b z)).1] at hb; exact nomatch hb)]
    exact hb
  have sb : Ex (fun b => if b ∈ S then H1 b else B1 b) H1 := fun b o hb => by
    have hb : (if b ∈ S then H1 b else B1 b) = some o := hb
    split at hb
    · exact hb
    · exact l1.sub b o hb
  refine q v _ H1 W1 ⟨⟨l1.ex, l1.dom, l1.ek.trans k, sb, fun b h1 h2 h3 => ?_⟩, l1.own⟩ ⟨s1.len, fun i d h1 h2 => ?_, fun i d h1 h2 => ?_, fun i b h => ?_, s1.dis⟩ (hd _ k fun a ha => if_pos ha)
  · show (if b ∈ S then H1 b else B1 b) = none
    rw [if_neg (fun z => (n b (sA b z)).2.2.2.elim h3 h2)]
    exact l1.old b h1 h2 h3
  · obtain ⟨v, e1, e2⟩ := s1.dat i d h1 h2
    exact ⟨v, e1, e2.ex k⟩
  · obtain ⟨p2, e1, e3⟩ := s1.own i d h1 h2
    exact ⟨p2, e1, e3.ex k⟩
  · show (if b ∈ S then H1 b else B1 b) = none ∧ _
    rw [if_neg (fun z => (n b (sA b z)).2.2.1 ⟨i, h⟩)]
    exact s1.bh i b h
theorem Rows.all {B H : Hp} {A : Addr → Prop} : ∀ {qs : List Addr} {rs : List (List PyData)}, Rows K B H A qs rs → ∀ q ∈ qs, A q
  | q :: qs, r :: rs, ⟨⟨h, _⟩, t⟩, x, hx => (List.mem_cons.mp hx).elim (fun e => e ▸ h) fun m => Rows.all t x m
theorem Rows.das {B B2 H : Hp} {A : Addr → Prop} (k : Ex B B2) : ∀ {qs : List Addr} {rs : List (List PyData)}, Rows K B H A qs rs → (∀ q ∈ qs, B2 q = H q) → Das K B2 (qs.map V.ref) (rs.map PyData.list)
  | [], [], _, _ => .nil
  | q :: qs, r :: rs, ⟨⟨_, _, vs, h, d⟩, t⟩, e => .cons (.lst ((e q List.mem_cons_self).trans h) (d.ex k)) (Rows.das k t fun x m => e x (List.mem_cons_of_mem _ m))
theorem ye_fz (h : YE K cl E m O te fe) : YE K cl E m O te (eFz fe) := fun ρ => by
  have a := h ρ
  unfold eFz
  cases e : fe ρ with
  | st => trivial
  | v d ρ1 => rw [e] at a; exact a
  | x c i => rw [e] at a; exact a
  | o d ρ1 =>
    rw [e] at a
    cases d with
    | list ds => exact ⟨a.1, fun σ B H W s sd Q q => a.2 σ B H W s sd Q fun p A1 B1 H1 W1 l1 s1 o n => let ⟨pA, vs, hp, hv⟩ := o; po_freeze (.lst vs) l1 s1 pA n hp (fun k => .lst upd_same (hv.ex k)) q⟩
    | tuple ts =>
      match ts, a with
      | [.list ls], a => exact ⟨a.1, fun σ B H W s sd Q q => a.2 σ B H W s sd Q fun p A1 B1 H1 W1 l1 s1 o n => by
          obtain ⟨pA, qs, rs, rfl, hp, _, r⟩ := o
          refine po_freezeS (p :: qs) l1 s1 (fun a h => (List.mem_cons.mp h).elim (fun e => e ▸ pA) (r.all a)) n (fun B2 k e => ?_) q
          exact .lst ((e p List.mem_cons_self).trans hp) (r.das k fun x m => e x (List.mem_cons_of_mem _ m))⟩
      | [], _ => trivial
      | [.none], _ => trivial
      | [.bool _], _ => trivial
      | [.int _], _ => trivial
      | [.str _], _ => trivial
      | [.tuple _], _ => trivial
      | [.dict _], _ => trivial
      | h :: g :: _, _ => cases h <;> first | trivial | (cases g <;> trivial)
    | dict ds => exact ⟨a.1, fun σ B H W s sd Q q => a.2 σ B H W s sd Q fun p A1 B1 H1 W1 l1 s1 o n => let ⟨pA, ws, es, hp, hv, e⟩ := o; po_freeze (.dK ws) l1 s1 pA n hp (fun k => by rw [e]; exact .dic upd_same (hv.ex k)) q⟩
    | _ => trivial
theorem ye_op {g : PyData → PyData → Option PyData} (hr : Op2 K r g) (ha : YE K cl E m O ta fa) (hb : YE K cl E m O tb fb) : YE K cl E m O (tOp r ta tb) (eOp g fa fb) := fun ρ =>
  ey_then (ha ρ) (fun σ H Q z => z _) fun x ρ1 m1 hx => by
    have b := hb ρ1
    unfold eThen
    cases e : fb ρ1 with
    | st => trivial
    | o d ρ2 => trivial
    | x c i =>
      rw [e] at b
      exact ⟨b.1, fun σ B H W s sd v hv w Q => hx σ B H W s sd _ fun u B1 H1 W1 l1 s1 _ => b.2 σ B1 H1 W1 l1.sub s1 v hv (w.behind l1 m1) _⟩
    | v y ρ2 =>
      rw [e] at b
      refine ey_of (m1.tr b.1) fun d hd σ B H W s sd Q q => hx σ B H W s sd _ fun u B1 H1 W1 l1 s1 d1 => b.2 σ B1 H1 W1 l1.sub s1 _ fun w B2 H2 W2 l2 s2 d2 => hr x y d hd u w B2 H2 l2.sub (d1.ex l2.ek) d2 Q fun z B3 H3 l3 d3 => ?_
      exact q z B3 H3 _ ((l1.mo l2 m1).mo l3.o (m1.tr b.1)) (s2.le l3) d3
theorem ye_un {q : V → Hp → VK → Prop} {g : PyData → Option PyData} (hr : Op1 K q g) (ha : YE K cl E m O ta fa) : YE K cl E m O (tUn q ta) (eUn g fa) := fun ρ =>
  ey_then (ha ρ) (fun σ H Q z => z _) fun x ρ1 m1 hx => ey_of m1 fun d hd σ B H W s sd Q q => hx σ B H W s sd _ fun u B1 H1 W1 l1 s1 d1 => hr x d hd u B1 H1 l1.sub d1 Q fun z B3 H3 l3 d3 => q z B3 H3 _ (l1.mo l3.o m1) (s1.le l3) d3
theorem ey_bool {x : ER} (h : EOy K cl E m O te ρ x) : EOy K cl E m O te ρ (eBool x) := by
  unfold eBool
  split
  · exact h
  · exact h
  · trivial
theorem ye_and (ha : YE K cl E m O ta fa) (hb : YE K cl E m O tb fb) : YE K cl E m O (tAndV ta tb) (eAnd fa fb) := fun ρ =>
  ey_then (ha ρ) (fun σ H Q z => z _) fun x ρ1 m1 hx => by
    cases x with
    | bool b =>
      cases b with
      | false =>
        refine ⟨m1, fun σ B H W s sd Q q => hx σ B H W s sd _ fun u B1 H1 W1 l1 s1 d1 => ?_⟩
        cases d1
        exact ⟨false, rfl, q _ B1 H1 W1 l1 s1 (.bl _)⟩
      | true =>
        refine (ey_bool (hb ρ1)).behind m1 fun σ B H W s sd Q q => hx σ B H W s sd _ fun u B1 H1 W1 l1 s1 d1 => ?_
        cases d1
        exact ⟨true, rfl, q B1 H1 W1 l1 s1⟩
    | _ => trivial
theorem yt_of {T : TE → TT} (hT : ∀ te σ H (Q : Bool → Hp → Prop), te σ H (fun x H1 => ∃ k, x = .bl k ∧ Q k H1) → T te σ H Q) (hX : ∀ te σ H Q, (∀ Q', te σ H Q') → T te σ H Q) (ha : YE K cl E m O ta fa) : YT K cl E m O (T ta) (tVal' fa) := fun ρ => by
  have a := ha ρ
  unfold tVal'
  cases h : fa ρ with
  | st => trivial
  | o d ρ1 => trivial
  | x c i =>
    rw [h] at a
    exact ⟨a.1, fun σ B H W s sd v hv w Q => hX _ _ _ _ (a.2 σ B H W s sd v hv w)⟩
  | v d ρ1 =>
    rw [h] at a
    cases d with
    | bool b =>
      refine ⟨a.1, fun σ B H W s sd Q q => hT _ _ _ _ (a.2 σ B H W s sd _ fun u B1 H1 W1 l1 s1 d1 => ?_)⟩
      cases d1
      exact ⟨b, rfl, q B1 H1 W1 l1 s1⟩
    | _ => trivial
theorem yt_val (ha : YE K cl E m O ta fa) : YT K cl E m O (tTest ta) (tVal' fa) := yt_of (T := tTest) (fun _ _ _ _ h => h) (fun _ _ _ _ h => h _) ha
theorem yt_B (ha : YE K cl E m O ta fa) : YT K cl E m O (tB ta) (tVal' fa) := yt_of (T := tB) (fun _ _ _ _ h => h) (fun _ _ _ _ h => h _) ha
theorem yt_yes : YT K cl E m O tYes tYesZ := fun ρ => ⟨Mo.rfl', fun σ B H W s sd Q q => q B H W (Go.rfl' s) sd⟩
theorem yt_not (h : YT K cl E m O tt ft) : YT K cl E m O (tNot tt) (tNotZ ft) := fun ρ => by
  have a := h ρ
  unfold tNotZ
  cases h : ft ρ with
  | st => trivial
  | x c i =>
    rw [h] at a
    exact ⟨a.1, fun σ B H W s sd v hv w Q => a.2 σ B H W s sd v hv w _⟩
  | b b ρ1 =>
    rw [h] at a
    exact ⟨a.1, fun σ B H W s sd Q q => a.2 σ B H W s sd _ fun B1 H1 W1 l1 s1 => q B1 H1 W1 l1 s1⟩
theorem TOy.behind {tt tu : TT} {x : TR} (h : TOy K cl E m O tu ρ1 x) (mo : Mo O ρ ρ1) (hx : ∀ σ B H W, Ex B H → SDo K O σ B H ρ W → ∀ Q, (∀ B1 H1 W1, Go W B H W1 B1 H1 → SDo K O σ B1 H1 ρ1 W1 → tu σ H1 Q) → tt σ H Q) : TOy K cl E m O tt ρ x := by
  cases x with
  | st => trivial
  | b b ρ2 => exact ⟨mo.tr h.1, fun σ B H W s sd Q q => hx σ B H W s sd Q fun B1 H1 W1 l1 s1 => h.2 σ B1 H1 W1 l1.sub s1 Q fun B2 H2 W2 l2 s2 => q B2 H2 _ (l1.mo l2 mo) s2⟩
  | x c i => exact ⟨h.1, fun σ B H W s sd v hv w Q => hx σ B H W s sd Q fun B1 H1 W1 l1 s1 => h.2 σ B1 H1 W1 l1.sub s1 v hv (w.behind l1 mo) Q⟩
theorem yt_and (h1 : YT K cl E m O tt ft) (h2 : YT K cl E m O tu fu) : YT K cl E m O (tAnd tt tu) (tAndZ ft fu) := fun ρ => by
  have a := h1 ρ
  unfold tAndZ
  cases h : ft ρ with
  | st => trivial
  | x c i =>
    rw [h] at a
    exact ⟨a.1, fun σ B H W s sd v hv w Q => a.2 σ B H W s sd v hv w _⟩
  | b b1 ρ1 =>
    rw [h] at a
    cases b1 with
    | false => exact ⟨a.1, fun σ B H W s sd Q q => a.2 σ B H W s sd _ fun B1 H1 W1 l1 s1 => q B1 H1 W1 l1 s1⟩
    | true => exact (h2 ρ1).behind a.1 fun σ B H W s sd Q q => a.2 σ B H W s sd _ fun B1 H1 W1 l1 s1 => q B1 H1 W1 l1 s1
theorem yt_or (h1 : YT K cl E m O tt ft) (h2 : YT K cl E m O tu fu) : YT K cl E m O (tOr tt tu) (tOrZ ft fu) := fun ρ => by
  have a := h1 ρ
  unfold tOrZ
  cases h : ft ρ with
  | st => trivial
  | x c i =>
    rw [h] at a
    exact ⟨a.1, fun σ B H W s sd v hv w Q => a.2 σ B H W s sd v hv w _⟩
  | b b1 ρ1 =>
    rw [h] at a
    cases b1 with
    | true => exact ⟨a.1, fun σ B H W s sd Q q => a.2 σ B H W s sd _ fun B1 H1 W1 l1 s1 => q B1 H1 W1 l1 s1⟩
    | false => exact (h2 ρ1).behind a.1 fun σ B H W s sd Q q => a.2 σ B H W s sd _ fun B1 H1 W1 l1 s1 => q B1 H1 W1 l1 s1
theorem ye_chain {g g' : PyData → PyData → Option PyData} (hr : Op2 K r g) (hr' : Op2 K r' g') (ha : YE K cl E m O ta fa) (hb : YE K cl E m O tb fb) (hc : YE K cl E m O tc fc) : YE K cl E m O (tChain r r' ta tb tc) (eChain g g' fa fb fc) := fun ρ =>
  ey_then (ha ρ) (fun σ H Q z => z _) fun x ρ1 m1 hx => by
    have b := hb ρ1
    unfold eThen
    cases e : fb ρ1 with
    | st => trivial
    | o d ρ2 => trivial
    | x c i =>
      rw [e] at b
      exact ⟨b.1, fun σ B H W s sd v hv w Q => hx σ B H W s sd _ fun u B1 H1 W1 l1 s1 _ => b.2 σ B1 H1 W1 l1.sub s1 v hv (w.behind l1 m1) _⟩
    | v y ρ2 =>
      rw [e] at b
      show EOy K cl E m O _ ρ (match g x y with | some (.bool true) => (match fc ρ2 with | .v z ρ3 => (match g' y z with | some (.bool b) => .v (.bool b) ρ3 | _ => .st) | .x c i => .x c i | _ => .st) | some (.bool false) => .v (.bool false) ρ2 | _ => .st)
      cases h : g x y with
      | none => trivial
      | some d =>
        cases d with
        | bool k =>
          cases k with
          | false =>
            refine ⟨m1.tr b.1, fun σ B H W s sd Q q => hx σ B H W s sd _ fun u B1 H1 W1 l1 s1 d1 => b.2 σ B1 H1 W1 l1.sub s1 _ fun w B2 H2 W2 l2 s2 d2 => hr x y _ h u w B2 H2 l2.sub (d1.ex l2.ek) d2 _ fun z B3 H3 l3 d3 => ?_⟩
            cases d3
            exact ⟨false, rfl, q _ B3 H3 _ ((l1.mo l2 m1).mo l3.o (m1.tr b.1)) (s2.le l3) (.bl _)⟩
          | true =>
            have c := hc ρ2
            show EOy K cl E m O _ ρ (match fc ρ2 with | .v z ρ3 => (match g' y z with | some (.bool b) => .v (.bool b) ρ3 | _ => .st) | .x c i => .x c i | _ => .st)
            cases h3 : fc ρ2 with
            | st => trivial
            | o d ρ3 => trivial
            | x c' i =>
              rw [h3] at c
              refine ⟨c.1, fun σ B H W s sd v hv w Q => hx σ B H W s sd _ fun u B1 H1 W1 l1 s1 d1 => b.2 σ B1 H1 W1 l1.sub s1 _ fun w' B2 H2 W2 l2 s2 d2 => hr x y _ h u w' B2 H2 l2.sub (d1.ex l2.ek) d2 _ fun z B3 H3 l3 d3 => ?_⟩
              cases d3
              exact ⟨true, rfl, c.2 σ B3 H3 _ l3.sub (s2.le l3) v hv (w.behind ((l1.mo l2 m1).mo l3.o (m1.tr b.1)) (m1.tr b.1)) _⟩
            | v z ρ3 =>
              rw [h3] at c
              show EOy K cl E m O _ ρ (match g' y z with | some (.bool b) => .v (.bool b) ρ3 | _ => .st)
              cases h4 : g' y z with
              | none => trivial
              | some d =>
                cases d with
                | bool k2 =>
                  refine ⟨(m1.tr b.1).tr c.1, fun σ B H W s sd Q q => hx σ B H W s sd _ fun u B1 H1 W1 l1 s1 d1 => b.2 σ B1 H1 W1 l1.sub s1 _ fun w' B2 H2 W2 l2 s2 d2 => hr x y _ h u w' B2 H2 l2.sub (d1.ex l2.ek) d2 _ fun z' B3 H3 l3 d3 => ?_⟩
                  cases d3
                  have l13 := (l1.mo l2 m1).mo l3.o (m1.tr b.1)
                  refine ⟨true, rfl, c.2 σ B3 H3 _ l3.sub (s2.le l3) _ fun w4 B4 H4 W4 l4 s4 d4 => hr' y z _ h4 w' w4 B4 H4 l4.sub ((d2.ex l3.ek).ex l4.ek) d4 Q fun w5 B5 H5 l5 d5 => ?_⟩
                  exact q w5 B5 H5 _ ((l13.mo l4 (m1.tr b.1)).mo l5.o ((m1.tr b.1).tr c.1)) (s4.le l5) d5
                | _ => trivial
        | _ => trivial
theorem ya_nil : YA K cl E m O tNil [] aNil := fun ρ => ⟨Mo.rfl', fun σ B H W s sd Q q => q [] B H W (Go.rfl' s) sd trivial⟩
theorem ArgOk.ex {B B' : Hp} {σ : L2.St} (k : Ex B B') : ∀ {ks : List AK} {ds : List PyData} {vs : List V}, ArgOk K O σ B ks ds vs → ArgOk K O σ B' ks ds vs
  | [], [], [], _ => trivial
  | .d :: _, _ :: _, _ :: _, h => ⟨h.1.ex k, ArgOk.ex k h.2⟩
  | .s _ :: _, _ :: _, _ :: _, h => ⟨h.1.ex k, h.2.1, ArgOk.ex k h.2.2⟩
  | .o _ :: _, _ :: _, _ :: _, h => ⟨h.1, ArgOk.ex k h.2⟩
theorem ay_cons {x : AR} {k1 : AK} {d : PyData} (mo : Mo O ρ ρ1) (h : AOy K cl E m O al ks ρ1 x) (hx : ∀ σ B H W, Ex B H → SDo K O σ B H ρ W → ∀ Q : V → Hp → Prop, (∀ u B1 H1 W1, Go W B H W1 B1 H1 → SDo K O σ B1 H1 ρ1 W1 → (∀ B2, Ex B1 B2 → ∀ vs ds, ArgOk K O σ B2 ks ds vs → ArgOk K O σ B2 (k1 :: ks) (d :: ds) (u :: vs)) → Q u H1) → ta σ H Q) : AOy K cl E m O (tCons ta al) (k1 :: ks) ρ (aThen x fun ds ρ2 => .vs (d :: ds) ρ2) := by
  cases x with
  | st => trivial
  | x c i => exact ⟨h.1, fun σ B H W s sd v hv w Q => hx σ B H W s sd _ fun u B1 H1 W1 l1 s1 _ => h.2 σ B1 H1 W1 l1.sub s1 v hv (w.behind l1 mo) _⟩
  | vs ds ρ2 => exact ⟨mo.tr h.1, fun σ B H W s sd Q q => hx σ B H W s sd _ fun u B1 H1 W1 l1 s1 hA => h.2 σ B1 H1 W1 l1.sub s1 _ fun vs B2 H2 W2 l2 s2 a2 => q (u :: vs) B2 H2 _ (l1.mo l2 mo) s2 (hA B2 l2.ek vs ds a2)⟩
theorem ya_cons (ha : YE K cl E m O ta fa) (hr : YA K cl E m O al ks fl) : YA K cl E m O (tCons ta al) (.d :: ks) (aCons fa fl) := fun ρ => by
  have a := ha ρ
  unfold aCons
  cases h : fa ρ with
  | st => trivial
  | o d ρ1 => trivial
  | x c i =>
    rw [h] at a
    exact ⟨a.1, fun σ B H W s sd v hv w Q => a.2 σ B H W s sd v hv w _⟩
  | v d ρ1 =>
    rw [h] at a
    exact ay_cons a.1 (hr ρ1) fun σ B H W s sd Q q => a.2 σ B H W s sd _ fun u B1 H1 W1 l1 s1 d1 => q u B1 H1 W1 l1 s1 fun B2 k vs ds hA => ⟨d1.ex k, hA⟩
theorem ya_var {i : Nat} (hr : YA K cl E m O al ks fl) (hO : O i = false := by rfl) : YA K cl E m O (tCons (tVar i) al) (.s i :: ks) (aCons (eVar i) fl) := fun ρ => by
  unfold aCons eVar
  split
  · next d ρ1 h =>
    split at h
    · exact nomatch h
    · next d' n h' =>
      cases h
      exact ay_cons Mo.rfl' (hr ρ) fun σ B H W s sd Q q => by
        obtain ⟨v, e, dv⟩ := sd.dat i d hO h'
        exact ⟨v, e, q v B H W (Go.rfl' s) sd fun B2 k vs ds hA => ⟨(dv.da n).ex k, e, hA⟩⟩
    · exact nomatch h
  · next c i h =>
    split at h <;> exact nomatch h
  · trivial
theorem ya_own {i : Nat} (hr : YA K cl E m O al ks fl) (hO : O i = true := by rfl) : YA K cl E m O (tCons (tVar i) al) (.o i :: ks) (fun ρ => match ρ[i]? with
    | some (some _) => aOwn fl ρ
    | _ => .st) := fun ρ => by
  show AOy K cl E m O _ _ ρ (match ρ[i]? with | some (some _) => aOwn fl ρ | _ => .st)
  split
  · next d h =>
    exact ay_cons (d := .none) Mo.rfl' (hr ρ) fun σ B H W s sd Q q => by
      obtain ⟨p, e, o⟩ := sd.own i d hO h
      exact ⟨.ref p, e, q (.ref p) B H W (Go.rfl' s) sd fun B2 k vs ds hA => ⟨e, hA⟩⟩
  · trivial
def dats (ks : List AK) : Bool := ks.all fun k => match k with
  | .o _ => false
  | _ => true
theorem ArgOk.das {B : Hp} {σ : L2.St} : ∀ {ks : List AK} {ds : List PyData} {vs : List V}, dats ks = true → ArgOk K O σ B ks ds vs → Das K B vs ds
  | [], [], [], _, _ => .nil
  | .d :: ks, _ :: _, _ :: _, e, h => .cons h.1 (ArgOk.das (ks := ks) e h.2)
  | .s _ :: ks, _ :: _, _ :: _, e, h => .cons h.1 (ArgOk.das (ks := ks) e h.2.2)
  | .o _ :: _, _ :: _, _ :: _, e, _ => nomatch e
theorem ay_E {x : AR} {k : List PyData → En → ER} (h : AOy K cl E m O al ks ρ x) (hx : ∀ σ H Q, (∀ Q', al σ H Q') → te σ H Q)
    (hk : ∀ ds ρ1, Mo O ρ ρ1 → (∀ σ B H W, Ex B H → SDo K O σ B H ρ W → ∀ Q, PA_ K O σ B H ρ W ks ds ρ1 Q → al σ H Q) → EOy K cl E m O te ρ (k ds ρ1)) : EOy K cl E m O te ρ (aE x k) := by
  cases x with
  | st => trivial
  | vs ds ρ1 => exact hk ds ρ1 h.1 h.2
  | x c i => exact ⟨h.1, fun σ B H W s sd v hv w Q => hx σ H Q (h.2 σ B H W s sd v hv w)⟩
theorem ye_cb {q : List V → Hp → VK → Prop} {g : List PyData → Option PyData} (hq : OpC K q g) (h : YA K cl E m O al ks fl) (hd : dats ks = true := by rfl) : YE K cl E m O (tCB q al) (eCB g fl) := fun ρ =>
  ay_E (h ρ) (fun σ H Q z => z _) fun ds ρ1 m1 hx => ey_of m1 fun d hd2 σ B H W s sd Q q => hx σ B H W s sd _ fun vs B1 H1 W1 l1 s1 a1 => hq ds d hd2 vs B1 H1 l1.sub (a1.das hd) Q fun z B3 H3 l3 d3 => q z B3 H3 _ (l1.mo l3.o m1) (s1.le l3) d3
theorem ye_tup (h : YA K cl E m O al ks fl) (hd : dats ks = true := by rfl) : YE K cl E m O (tTup al) (eTup fl) := fun ρ =>
  ay_E (h ρ) (fun σ H Q z => z _) fun ds ρ1 m1 hx => by
    cases h : decide (ds.length ≤ 100000) with
    | false => trivial
    | true =>
      refine ⟨m1, fun σ B H W s sd Q q => hx σ B H W s sd _ fun vs B1 H1 W1 l1 s1 a1 => ⟨das_big (a1.das hd) (of_decide_eq_true h), fun p hp => ?_⟩⟩
      have l2 := Le.new (o := .tup vs) l1.sub hp
      exact q _ _ _ _ (l1.mo l2.o m1) (s1.le l2) (.tup upd_same ((a1.das hd).ex l2.ek))
theorem po_new {σ : L2.St} {B H B1 H1 : Hp} {ds : List PyData} {vs : List V} {p : Addr} {Q : VK} (m1 : Mo O ρ ρ1) (l1 : Go W B H W1 B1 H1) (s1 : SDo K O σ B1 H1 ρ1 W1) (a : Das K B1 vs ds) (hp : H1 p = none) (q : PO K O σ B H ρ W (.list ds) ρ1 Q) : Q (.ref p) (upd H1 p (.lst vs)) := by
  have l2 : Le B1 H1 B1 (upd H1 p (.lst vs)) := ⟨Ex.new hp, Ex.refl B1, l1.sub.trans (Ex.new hp), fun _ h _ => h⟩
  refine q p (fun a => a = p) B1 _ W1 (l1.tr l2.o) (s1.le l2) ⟨rfl, vs, upd_same, a⟩ fun b hb => ?_
  subst hb
  exact ⟨Evl.fresh_back l1.sub hp, (by rw [upd_same]; exact fun z => nomatch z), fun ⟨i, z⟩ => (s1.bh i b z).2 hp, .inr (l1.toLeO.back hp)⟩
theorem ye_lst (h : YA K cl E m O al ks fl) (hd : dats ks = true := by rfl) : YE K cl E m O (tLst al) (eLst fl) := fun ρ =>
  ay_E (h ρ) (fun σ H Q z => z _) fun ds ρ1 m1 hx => by
    cases h : decide (ds.length ≤ 100000) with
    | false => trivial
    | true => exact ⟨m1, fun σ B H W s sd Q q => hx σ B H W s sd _ fun vs B1 H1 W1 l1 s1 a1 => ⟨das_big (a1.das hd) (of_decide_eq_true h), fun p hp => po_new m1 l1 s1 (a1.das hd) hp q⟩⟩
end
end TD
set_option maxHeartbeats 4000000
namespace TD
open PySem PySem.Spec PyProof.Rows L2
open Evl (Ex)
inductive IRz where
  | st | vs (ds : List PyData) (ρ : En) | x (c i : Nat)
section
variable (K : Fg) (cl : Nat → Addr) (E : XK) (m : Nat) (O : Nat → Bool)
def PN (σ : L2.St) (B H : Hp) (W : OW) (ρ' : En) (Q : L2.St → Hp → Prop) : Prop := ∀ σ' B' H' W', Go W B H W' B' H' → SDo K O σ' B' H' ρ' W' → (∀ i, i < m → σ'[i]? = σ[i]?) → Q σ' H'
def WZ (D : Ends) (σ : L2.St) (B H : Hp) (W : OW) : SR → Prop
  | .st => False
  | .nx ρ' => PN K m O σ B H W ρ' D.nx
  | .br ρ' => PN K m O σ B H W ρ' D.bk
  | .ct ρ' => PN K m O σ B H W ρ' D.ct
  | .ret d ρ' => ∀ v σ' B' H' W', Go W B H W' B' H' → SDo K O σ' B' H' ρ' W' → (∀ i, i < m → σ'[i]? = σ[i]?) → Da K B' v d → D.rt v H'
  | .reto d ρ' => ∀ p A σ' B' H' W', Go W B H W' B' H' → SDo K O σ' B' H' ρ' W' → (∀ i, i < m → σ'[i]? = σ[i]?) → Own K B' H' p A d → FrA W H W' B' H' A → D.rt (.ref p) H'
  | .x c i => ∃ v, σ[i]? = some (some v) ∧ PX E O σ B H [] W (cl c) v
def SOy (t : TS) (ρ : En) (r : SR) : Prop := (∀ c i, r = .x c i → i < m) ∧ ∀ σ B H W (D : Ends), Ex B H → SDo K O σ B H ρ W → WZ K cl E m O D σ B H W r → t D σ H
def YS (t : TS) (f : En → SR) : Prop := ∀ ρ, SOy K cl E m O t ρ (f ρ)
def Walks (J : It) (B : Hp) (ds : List PyData) : Prop := ∀ i B' H, Ex B B' → Ex B' H → (ds[i]? = none → J.stop i H) ∧ ∀ d, ds[i]? = some d → J.go i H ∧ ∀ x H', J.yld i H x H' → ∃ B'', Le B' H B'' H' ∧ Da K B'' x d
def IOy (ti : TI) (ρ : En) : IRz → Prop
  | .st => True
  | .vs ds ρ' => Mo O ρ ρ' ∧ ∀ σ B H W, Ex B H → SDo K O σ B H ρ W → ∀ R : It → Hp → Prop, (∀ J B' H' W', Go W B H W' B' H' → SDo K O σ B' H' ρ' W' → Walks K J B' ds → R J H') → ti σ H R
  | .x c i => i < m ∧ ∀ σ B H W, Ex B H → SDo K O σ B H ρ W → ∀ v, σ[i]? = some (some v) → PX E O σ B H ρ W (cl c) v → ∀ R, ti σ H R
def YI (ti : TI) (f : En → IRz) : Prop := ∀ ρ, IOy K cl E m O ti ρ (f ρ)
def ZG (g : TG) (gz : PyData → En → Option En) : Prop := ∀ d ρ ρ', gz d ρ = some ρ' → ∀ σ v B H W, Ex B H → SDo K O σ B H ρ W → Da K B v d → ∀ Q : L2.St → Hp → Prop, (∀ σ', SDo K O σ' B H ρ' W → (∀ i, i < m → σ'[i]? = σ[i]?) → Q σ' H) → g v σ H Q
end
def sNext (ρ : En) : SR := .nx ρ
def sNo (_ : En) : SR := .st
def sSeq (f g : En → SR) (ρ : En) : SR := match f ρ with
  | .nx ρ' => g ρ'
  | r => r
def sIf (ft : En → TR) (f g : En → SR) (ρ : En) : SR := match ft ρ with
  | .b true ρ1 => f ρ1
  | .b false ρ1 => g ρ1
  | .x c i => .x c i
  | .st => .st
def sE (r : ER) (k : PyData → En → SR) : SR := match r with
  | .v d ρ => k d ρ
  | .x c i => .x c i
  | _ => .st
def sRet (fa : En → ER) (ρ : En) : SR := match fa ρ with
  | .v d ρ => .ret d ρ
  | .o d ρ => .reto d ρ
  | .x c i => .x c i
  | .st => .st
def sDrop (fa : En → ER) (ρ : En) : SR := match fa ρ with
  | .v _ ρ => .nx ρ
  | .o _ ρ => .nx ρ
  | .x c i => .x c i
  | .st => .st
def sBr (ρ : En) : SR := .br ρ
def sCt (ρ : En) : SR := .ct ρ
def sAsg (fa : En → ER) (g : PyData → En → Option En) (ρ : En) : SR := sE (fa ρ) fun d ρ1 => match g d ρ1 with
  | some ρ' => .nx ρ'
  | none => .st
def sAsgO (i : Nat) (fa : En → ER) (ρ : En) : SR := match fa ρ with
  | .o d ρ1 => .nx (ρ1.set i (some d))
  | .x c i => .x c i
  | _ => .st
def gN (i : Nat) (d : PyData) (ρ : En) : Option En := some (ρ.set i (some d))
def gTs : List (PyData → En → Option En) → List PyData → En → Option En
  | [], [], ρ => some ρ
  | g :: gs, d :: ds, ρ => match g d ρ with
    | some ρ' => gTs gs ds ρ'
    | none => none
  | _, _, _ => none
def gT (gs : List (PyData → En → Option En)) (d : PyData) (ρ : En) : Option En := match d with
  | .tuple ds => gTs gs ds ρ
  | _ => none
def sPar (i j : Nat) (fa : En → AR) (ρ : En) : SR := match fa ρ with
  | .vs [x, y] ρ1 => .nx ((ρ1.set i (some x)).set j (some y))
  | .x c i => .x c i
  | _ => .st
def sPar3 (i j l : Nat) (fa : En → AR) (ρ : En) : SR := match fa ρ with
  | .vs [x, y, z] ρ1 => .nx (((ρ1.set i (some x)).set j (some y)).set l (some z))
  | .x c i => .x c i
  | _ => .st
def sAug (i : Nat) (g : PyData → PyData → Option PyData) (fa : En → ER) (ρ : En) : SR := match ρ[i]? with
  | some (some (.tuple [.dict [(.none, _)]])) => .st
  | some (some x) => sE (fa ρ) fun y ρ1 => match g x y with
    | some z => .nx (ρ1.set i (some z))
    | none => .st
  | _ => .st
def sTurns (g : PyData → En → Option En) (f : En → SR) : List PyData → En → SR
  | [], ρ => .nx ρ
  | d :: ds, ρ => match g d ρ with
    | none => .st
    | some ρ1 => match f ρ1 with
      | .nx ρ2 => sTurns g f ds ρ2
      | .ct ρ2 => sTurns g f ds ρ2
      | .br ρ2 => .nx ρ2
      | r => r
def sFor (fi : En → IRz) (g : PyData → En → Option En) (f : En → SR) (ρ : En) : SR := match fi ρ with
  | .vs ds ρ1 => sTurns g f ds ρ1
  | .x c i => .x c i
  | .st => .st
def sWhile (ft : En → TR) (f : En → SR) : Nat → En → SR
  | 0, _ => .st
  | n + 1, ρ => match ft ρ with
    | .b false ρ1 => .nx ρ1
    | .b true ρ1 => match f ρ1 with
      | .nx ρ2 => sWhile ft f n ρ2
      | .ct ρ2 => sWhile ft f n ρ2
      | .br ρ2 => .nx ρ2
      | r => r
    | .x c i => .x c i
    | .st => .st
section
variable {K : Fg} {cl : Nat → Addr} {E : XK} {m : Nat} {O : Nat → Bool} {ta tb tc te : TE} {fa fb fc fe : En → ER} {tt tu : TT} {ft fu : En → TR} {al : TA} {fl : En → AR} {ks : List AK} {ρ ρ' ρ1 : En} {t u : TS} {f g : En → SR} {tg : TG} {gz : PyData → En → Option En} {W W1 : OW}
theorem PN.behind {σ σ1 : L2.St} {B H B1 H1 : Hp} {ρ2 : En} {Q : L2.St → Hp → Prop} (q : PN K m O σ B H W ρ2 Q) (l : Go W B H W1 B1 H1) (k : ∀ i, i < m → σ1[i]? = σ[i]?) : PN K m O σ1 B1 H1 W1 ρ2 Q := fun σ' B' H' W' l' s' k' =>
  q σ' B' H' W' (l.tr l') s' fun i hi => (k' i hi).trans (k i hi)
theorem WZ.behind {D : Ends} {σ σ1 : L2.St} {B H B1 H1 : Hp} (l : Go W B H W1 B1 H1) (k : ∀ i, i < m → σ1[i]? = σ[i]?) : ∀ {r : SR}, (∀ c i, r = .x c i → i < m) → WZ K cl E m O D σ B H W r → WZ K cl E m O D σ1 B1 H1 W1 r
  | .st, _, q => q.elim
  | .nx _, _, q => PN.behind q l k
  | .br _, _, q => PN.behind q l k
  | .ct _, _, q => PN.behind q l k
  | .ret _ _, _, q => fun v σ' B' H' W' l' s' k' => q v σ' B' H' W' (l.tr l') s' fun i hi => (k' i hi).trans (k i hi)
  | .reto _ _, _, q => fun p A σ' B' H' W' l' s' k' ow n => q p A σ' B' H' W' (l.tr l') s' (fun i hi => (k' i hi).trans (k i hi)) ow (n.behind l)
  | .x c i, hm, ⟨v, e, w⟩ => ⟨v, (k i (hm c i rfl)).trans e, fun x B' H' l' => w x B' H' (l.toLeO.tr l' l.own)⟩
theorem WZ.mo {D : Ends} {σ : L2.St} {B H B1 H1 : Hp} (l : Go W B H W1 B1 H1) (_ : Mo O ρ ρ1) {r : SR} (hm : ∀ c i, r = .x c i → i < m) (q : WZ K cl E m O D σ B H W r) : WZ K cl E m O D σ B1 H1 W1 r := q.behind l (fun _ _ => rfl) hm
theorem SOy.mono {t u : TS} {r : SR} (h : SOy K cl E m O t ρ1 r) (hx : ∀ σ B H W (D : Ends), Ex B H → SDo K O σ B H ρ W → (∀ σ1 B1 H1 W1, Go W B H W1 B1 H1 → SDo K O σ1 B1 H1 ρ1 W1 → (∀ i, i < m → σ1[i]? = σ[i]?) → t D σ1 H1) → u D σ H) : SOy K cl E m O u ρ r :=
  ⟨h.1, fun σ B H W D s sd q => hx σ B H W D s sd fun σ1 B1 H1 W1 l1 s1 k1 => h.2 σ1 B1 H1 W1 D l1.sub s1 (q.behind l1 k1 h.1)⟩
theorem SOy.stuck {t : TS} : SOy K cl E m O t ρ .st := ⟨fun _ _ h => (nomatch h), fun _ _ _ _ _ _ _ q => q.elim⟩
theorem SOy.raise {t : TS} {c i : Nat} (hi : i < m) (h : ∀ σ B H W D, Ex B H → SDo K O σ B H ρ W → ∀ v, σ[i]? = some (some v) → PX E O σ B H ρ W (cl c) v → t D σ H) : SOy K cl E m O t ρ (.x c i) := ⟨fun _ _ e => by cases e; exact hi, fun σ B H W D s sd ⟨v, e, w⟩ => h σ B H W D s sd v e w⟩
theorem ys_next : YS K cl E m O tNext sNext := fun ρ => ⟨fun _ _ h => (nomatch h), fun σ B H W D s sd q => q σ B H W (Go.rfl' s) sd fun _ _ => rfl⟩
theorem ys_no : YS K cl E m O t sNo := fun _ => .stuck
theorem ys_seq (h1 : YS K cl E m O t f) (h2 : YS K cl E m O u g) : YS K cl E m O (tSeq t u) (sSeq f g) := fun ρ => by
  have a := h1 ρ
  unfold sSeq
  cases h : f ρ with
  | st => exact .stuck
  | nx ρ' =>
    rw [h] at a
    exact (h2 ρ').mono fun σ B H W D s sd q => a.2 σ B H W _ s sd q
  | ret d ρ' =>
    rw [h] at a
    exact ⟨a.1, fun σ B H W D s sd q => a.2 σ B H W _ s sd q⟩
  | reto d ρ' =>
    rw [h] at a
    exact ⟨a.1, fun σ B H W D s sd q => a.2 σ B H W _ s sd q⟩
  | br ρ' =>
    rw [h] at a
    exact ⟨a.1, fun σ B H W D s sd q => a.2 σ B H W _ s sd q⟩
  | ct ρ' =>
    rw [h] at a
    exact ⟨a.1, fun σ B H W D s sd q => a.2 σ B H W _ s sd q⟩
  | x c i =>
    rw [h] at a
    exact ⟨a.1, fun σ B H W D s sd q => a.2 σ B H W _ s sd q⟩
theorem ys_if (ht : YT K cl E m O tt ft) (h1 : YS K cl E m O t f) (h2 : YS K cl E m O u g) : YS K cl E m O (tIfS tt t u) (sIf ft f g) := fun ρ => by
  have a := ht ρ
  unfold sIf
  cases h : ft ρ with
  | st => exact .stuck
  | x c i =>
    rw [h] at a
    exact .raise a.1 fun σ B H W D s sd v hv w => a.2 σ B H W s sd v hv w _
  | b b ρ1 =>
    rw [h] at a
    cases b with
    | true => exact (h1 ρ1).mono fun σ B H W D s sd q => a.2 σ B H W s sd _ fun B1 H1 W1 l1 s1 => q σ B1 H1 W1 l1 s1 fun _ _ => rfl
    | false => exact (h2 ρ1).mono fun σ B H W D s sd q => a.2 σ B H W s sd _ fun B1 H1 W1 l1 s1 => q σ B1 H1 W1 l1 s1 fun _ _ => rfl
theorem ys_ret (ha : YE K cl E m O ta fa) : YS K cl E m O (tRet ta) (sRet fa) := fun ρ => by
  have a := ha ρ
  unfold sRet
  cases h : fa ρ with
  | st => exact .stuck
  | x c i =>
    rw [h] at a
    exact .raise a.1 fun σ B H W D s sd v hv w => a.2 σ B H W s sd v hv w _
  | v d ρ1 =>
    rw [h] at a
    exact ⟨fun _ _ h => (nomatch h), fun σ B H W D s sd q => a.2 σ B H W s sd _ fun v B1 H1 W1 l1 s1 d1 => q v σ B1 H1 W1 l1 s1 (fun _ _ => rfl) d1⟩
  | o d ρ1 =>
    rw [h] at a
    exact ⟨fun _ _ h => (nomatch h), fun σ B H W D s sd q => a.2 σ B H W s sd _ fun p A1 B1 H1 W1 l1 s1 o n => q p A1 σ B1 H1 W1 l1 s1 (fun _ _ => rfl) o n⟩
theorem ys_drop (ha : YE K cl E m O ta fa) : YS K cl E m O (tDrop ta) (sDrop fa) := fun ρ => by
  have a := ha ρ
  unfold sDrop
  cases h : fa ρ with
  | st => exact .stuck
  | x c i =>
    rw [h] at a
    exact .raise a.1 fun σ B H W D s sd v hv w => a.2 σ B H W s sd v hv w _
  | v d ρ1 =>
    rw [h] at a
    exact ⟨fun _ _ h => (nomatch h), fun σ B H W D s sd q => a.2 σ B H W s sd _ fun v B1 H1 W1 l1 s1 d1 => q σ B1 H1 W1 l1 s1 fun _ _ => rfl⟩
  | o d ρ1 =>
    rw [h] at a
    exact ⟨fun _ _ h => (nomatch h), fun σ B H W D s sd q => a.2 σ B H W s sd _ fun p A1 B1 H1 W1 l1 s1 o n => q σ B1 H1 W1 l1 s1 fun _ _ => rfl⟩
theorem sy_E {k : PyData → En → SR} {t : TS} (ha : YE K cl E m O ta fa) (hx : ∀ σ B H W D, SDo K O σ B H ρ W → (∀ Q, ta σ H Q) → t D σ H) (hk : ∀ d ρ1, Mo O ρ ρ1 → (∀ σ B H W, Ex B H → SDo K O σ B H ρ W → ∀ Q, PV K O σ B H ρ W d ρ1 Q → ta σ H Q) → SOy K cl E m O t ρ (k d ρ1)) : SOy K cl E m O t ρ (sE (fa ρ) k) := by
  have a := ha ρ
  unfold sE
  cases h : fa ρ with
  | st => exact .stuck
  | o d ρ1 => exact .stuck
  | v d ρ1 =>
    rw [h] at a
    exact hk d ρ1 a.1 a.2
  | x c i =>
    rw [h] at a
    exact .raise a.1 fun σ B H W D s sd v hv w => hx σ B H W D sd (a.2 σ B H W s sd v hv w)
theorem zg_name {j : Nat} (hj : m ≤ j := by first | exact Nat.le_of_ble_eq_true rfl | omega) (hO : O j = false := by rfl) : ZG K m O (gName j) (gN j) := fun d ρ ρ' h σ v B H W s sd hd Q q => by
  cases h
  exact q _ (sd.put j hO hd) fun i hi => List.getElem?_set_ne (by omega)
def ZGs (K : Fg) (m : Nat) (O : Nat → Bool) (g : TGs) (gz : List (PyData → En → Option En)) : Prop := ∀ ds ρ ρ', gTs gz ds ρ = some ρ' → ∀ σ vs B H W, Ex B H → SDo K O σ B H ρ W → Das K B vs ds → ∀ Q : L2.St → Hp → Prop, (∀ σ', SDo K O σ' B H ρ' W → (∀ i, i < m → σ'[i]? = σ[i]?) → Q σ' H) → g vs σ H Q
theorem zgs_nil : ZGs K m O gNil [] := fun ds ρ ρ' h σ vs B H W s sd hd Q q => by
  cases ds with
  | nil =>
    cases h
    cases hd
    exact ⟨rfl, q σ sd fun _ _ => rfl⟩
  | cons _ _ => exact nomatch h
theorem gTs_cons {z : PyData → En → Option En} {zs : List (PyData → En → Option En)} {d : PyData} {ds : List PyData} (h : gTs (z :: zs) (d :: ds) ρ = some ρ') : ∃ ρ1, z d ρ = some ρ1 ∧ gTs zs ds ρ1 = some ρ' := by
  have h' : (match z d ρ with | some ρ' => gTs zs ds ρ' | none => none) = some ρ' := h
  cases e : z d ρ with
  | none =>
    rw [e] at h'
    exact nomatch h'
  | some ρ1 =>
    rw [e] at h'
    exact ⟨ρ1, rfl, h'⟩
theorem gTs_len : ∀ {zs : List (PyData → En → Option En)} {ds : List PyData} {ρ ρ' : En}, gTs zs ds ρ = some ρ' → ds.length = zs.length
  | [], [], _, _, _ => rfl
  | [], _ :: _, _, _, h => nomatch h
  | _ :: _, [], _, _, h => nomatch h
  | z :: zs, d :: ds, ρ, ρ', h => by
    obtain ⟨ρ1, _, h2⟩ := gTs_cons h
    rw [List.length_cons, List.length_cons, gTs_len h2]
theorem zgs_cons {g1 : TG} {gs : TGs} {z1 : PyData → En → Option En} {zs : List (PyData → En → Option En)} (h1 : ZG K m O g1 z1) (h2 : ZGs K m O gs zs) : ZGs K m O (gCons g1 gs) (z1 :: zs) := fun ds ρ ρ' h σ vs B H W s sd hd Q q => by
  cases ds with
  | nil => exact nomatch h
  | cons d ds =>
    obtain ⟨v, r, rfl, a, t⟩ := hd.inv1
    obtain ⟨ρ1, e, h'⟩ := gTs_cons h
    exact ⟨v, r, rfl, h1 d ρ ρ1 e σ v B H W s sd a _ fun σ' s' k1 => h2 ds ρ1 ρ' h' σ' r B H W s s' t Q fun σ2 s2 k2 => q σ2 s2 fun i hi => (k2 i hi).trans (k1 i hi)⟩
theorem zg_tup {gs : TGs} {zs : List (PyData → En → Option En)} {n : Nat} (h : ZGs K m O gs zs) (hn : zs.length = n := by rfl) : ZG K m O (gTup K n gs) (gT zs) := fun d ρ ρ' e σ v B H W s sd hd Q q => by
  cases d with
  | tuple ds =>
    cases hd with
    | tup ha hs =>
      have e' : gTs zs ds ρ = some ρ' := e
      exact ⟨_, _, rfl, SqT.of (s _ _ ha), hs.len.trans ((gTs_len e').trans hn), h ds ρ ρ' e' σ _ B H W s sd hs Q q⟩
  | _ => exact nomatch e
theorem ys_asg (ha : YE K cl E m O ta fa) (hg : ZG K m O tg gz) : YS K cl E m O (tAsg ta tg) (sAsg fa gz) := fun ρ => sy_E ha (fun σ B H W D _ z => z _) fun d ρ1 m1 hx => by
  cases h : gz d ρ1 with
  | none => exact .stuck
  | some ρ' => exact ⟨fun _ _ h => (nomatch h), fun σ B H W D s sd q => hx σ B H W s sd _ fun v B1 H1 W1 l1 s1 d1 => hg d ρ1 ρ' h σ v B1 H1 W1 l1.sub s1 d1 _ fun σ' s' k => q σ' B1 H1 W1 l1 s' k⟩
theorem Go.give {W W1 : OW} {B H B1 H1 : Hp} {A : Addr → Prop} {i : Nat} (l : Go W B H W1 B1 H1) (n : FrA W H W1 B1 H1 A) : Go W B H (W1.put i A) B1 H1 := ⟨l.toLeO, fun a z => (put_wa z).elim (fun z => (n a z).2.2.2) (l.own a)⟩
theorem FrA.fr {W W1 : OW} {H B1 H1 : Hp} {A : Addr → Prop} (n : FrA W H W1 B1 H1 A) : ∀ a, A a → B1 a = none ∧ H1 a ≠ none ∧ ¬ WA W1 a := fun a z => ⟨(n a z).1, (n a z).2.1, (n a z).2.2.1⟩
theorem FrA.le {W W1 : OW} {H B1 H1 B2 H2 : Hp} {A : Addr → Prop} (n : FrA W H W1 B1 H1 A) (l : Le B1 H1 B2 H2) : FrA W H W1 B2 H2 A := fun a z =>
  let ⟨n1, n2, n3, n4⟩ := n a z
  ⟨l.old a n1 n2, (l.lo (A := fun _ => False)).dom a n2, n3, n4⟩
theorem ys_asgO {i : Nat} (ha : YE K cl E m O ta fa) (hi : m ≤ i := by first | exact Nat.le_of_ble_eq_true rfl | omega) (hO : O i = true := by rfl) : YS K cl E m O (tAsg ta (gName i)) (sAsgO i fa) := fun ρ => by
  have a := ha ρ
  unfold sAsgO
  cases h : fa ρ with
  | st => exact .stuck
  | v d ρ1 => exact .stuck
  | x c i =>
    rw [h] at a
    exact .raise a.1 fun σ B H W D s sd v hv w => a.2 σ B H W s sd v hv w _
  | o d ρ1 =>
    rw [h] at a
    refine ⟨fun _ _ h => (nomatch h), fun σ B H W D s sd q => a.2 σ B H W s sd _ fun p A1 B1 H1 W1 l1 s1 o n => ?_⟩
    exact q _ B1 H1 (W1.put i A1) (l1.give n) (s1.putO i hO o n.fr) fun k hk => List.getElem?_set_ne (by omega)
theorem ys_par {i j : Nat} (h : YA K cl E m O al ks fl) (hd : dats ks = true := by rfl) (hi : m ≤ i := by exact Nat.le_of_ble_eq_true rfl) (hj : m ≤ j := by exact Nat.le_of_ble_eq_true rfl) (oi : O i = false := by rfl) (oj : O j = false := by rfl) : YS K cl E m O (tPar i j al) (sPar i j fl) := fun ρ => by
  have a := h ρ
  unfold sPar
  split
  · next x y ρ1 e =>
    rw [e] at a
    refine ⟨fun _ _ h => (nomatch h), fun σ B H W D s sd q => a.2 σ B H W s sd _ fun vs B1 H1 W1 l1 s1 a1 => ?_⟩
    obtain ⟨v, r, rfl, b1, t⟩ := (a1.das hd).inv1
    obtain ⟨u, r2, rfl, a2, t2⟩ := t.inv1
    cases t2
    exact ⟨v, u, rfl, q _ B1 H1 W1 l1 ((s1.put i oi b1).put j oj a2) fun k hk => by rw [List.getElem?_set_ne (by omega), List.getElem?_set_ne (by omega)]⟩
  · next c i e =>
    rw [e] at a
    exact .raise a.1 fun σ B H W D s sd v hv w => a.2 σ B H W s sd v hv w _
  · exact .stuck
theorem turns_lt (hb : YS K cl E m O t f) : ∀ {ds : List PyData} {ρ : En} {c i : Nat}, sTurns gz f ds ρ = .x c i → i < m
  | [], _, _, _, h => nomatch h
  | d :: ds, ρ, c, i, h => by
    unfold sTurns at h
    split at h
    · exact nomatch h
    · next ρ1 _ =>
      have b := (hb ρ1).1
      split at h
      · exact turns_lt hb h
      · exact turns_lt hb h
      · exact nomatch h
      · exact b c i h
def TIy (K : Fg) (m : Nat) (O : Nat → Bool) (gz : PyData → En → Option En) (f : En → SR) (σ : L2.St) (W : OW) (B H : Hp) (ds : List PyData) (r : SR) (i : Nat) (σ' : L2.St) (H' : Hp) : Prop :=
  ∃ B' ρ' W', sTurns gz f (ds.drop i) ρ' = r ∧ Go W B H W' B' H' ∧ SDo K O σ' B' H' ρ' W' ∧ ∀ i, i < m → σ'[i]? = σ[i]?
theorem ty_turn (hg : ZG K m O tg gz) (hb : YS K cl E m O t f) {D : Ends} {σ σ' : L2.St} {B H B' H' : Hp} {W' : OW} {r : SR} {ds : List PyData} {i : Nat} (q : WZ K cl E m O D σ B H W r) {d : PyData} (hd0 : ds[i]? = some d) (h : sTurns gz f (ds.drop i) ρ' = r) (l : Go W B H W' B' H') (sd : SDo K O σ' B' H' ρ' W') (k : ∀ i, i < m → σ'[i]? = σ[i]?) {v : V} (hd : Da K B' v d) :
    tg v σ' H' fun σ2 H2 => t { D with nx := TIy K m O gz f σ W B H ds r (i + 1), ct := TIy K m O gz f σ W B H ds r (i + 1), bk := D.nx } σ2 H2 := by
  rw [drop_cons hd0] at h
  have h0 : (match gz d ρ' with
    | none => SR.st
    | some ρ1 => match f ρ1 with
      | .nx ρ2 => sTurns gz f (ds.drop (i + 1)) ρ2
      | .ct ρ2 => sTurns gz f (ds.drop (i + 1)) ρ2
      | .br ρ2 => .nx ρ2
      | r => r) = r := h
  cases e : gz d ρ' with
  | none =>
    rw [e] at h0
    have h0 : SR.st = r := h0
    rw [← h0] at q
    exact q.elim
  | some ρ1 =>
    rw [e] at h0
    have h0 : (match f ρ1 with
      | .nx ρ2 => sTurns gz f (ds.drop (i + 1)) ρ2
      | .ct ρ2 => sTurns gz f (ds.drop (i + 1)) ρ2
      | .br ρ2 => .nx ρ2
      | r => r) = r := h0
    refine hg d ρ' ρ1 e σ' v B' H' W' l.sub sd hd _ fun σ2 s2 k2 => (hb ρ1).2 σ2 B' H' W' _ l.sub s2 ?_
    have kk : ∀ i, i < m → σ2[i]? = σ[i]? := fun i hi => (k2 i hi).trans (k i hi)
    have bm := (hb ρ1).1
    have go : ∀ ρ2, sTurns gz f (ds.drop (i + 1)) ρ2 = r → PN K m O σ2 B' H' W' ρ2 (TIy K m O gz f σ W B H ds r (i + 1)) := fun ρ2 er σ3 B3 H3 W3 l3 s3 k3 =>
      ⟨B3, ρ2, W3, er, l.tr l3, s3, fun i hi => (k3 i hi).trans (kk i hi)⟩
    cases e2 : f ρ1 with
    | nx ρ2 =>
      rw [e2] at h0
      exact go ρ2 h0
    | ct ρ2 =>
      rw [e2] at h0
      exact go ρ2 h0
    | br ρ2 =>
      rw [e2] at h0
      have h0 : SR.nx ρ2 = r := h0
      rw [← h0] at q
      exact PN.behind q l kk
    | st =>
      rw [e2] at h0
      have h0 : SR.st = r := h0
      rw [← h0] at q
      exact q.elim
    | ret d2 ρ2 =>
      rw [e2] at h0
      have h0 : SR.ret d2 ρ2 = r := h0
      rw [← h0] at q
      exact WZ.behind (D := D) (r := .ret d2 ρ2) l kk (fun _ _ h => nomatch h) q
    | reto d2 ρ2 =>
      rw [e2] at h0
      have h0 : SR.reto d2 ρ2 = r := h0
      rw [← h0] at q
      exact WZ.behind (D := D) (r := .reto d2 ρ2) l kk (fun _ _ h => nomatch h) q
    | x c i =>
      rw [e2] at h0 bm
      have h0 : SR.x c i = r := h0
      rw [← h0] at q
      exact WZ.behind (D := D) l kk bm q
theorem ys_for {ti : TI} {fi : En → IRz} (hi : YI K cl E m O ti fi) (hg : ZG K m O tg gz) (hb : YS K cl E m O t f) : YS K cl E m O (tFor ti tg t) (sFor fi gz f) := fun ρ => by
  have a := hi ρ
  unfold sFor
  cases h : fi ρ with
  | st => exact .stuck
  | x c i =>
    rw [h] at a
    exact .raise a.1 fun σ B H W D s sd v hv w => a.2 σ B H W s sd v hv w _
  | vs ds ρ1 =>
    rw [h] at a
    refine ⟨fun c i e => turns_lt hb e, fun σ B H W D s sd q => a.2 σ B H W s sd _ fun J B1 H1 W1 l1 s1 hw => ?_⟩
    have q1 : WZ K cl E m O D σ B1 H1 W1 (sTurns gz f ds ρ1) := q.mo l1 a.1 (fun c i e => turns_lt hb e)
    refine ⟨fun i n σ' H' => n = ds.length - i ∧ TIy K m O gz f σ W1 B1 H1 ds (sTurns gz f ds ρ1) i σ' H', ⟨ds.length, rfl, B1, ρ1, W1, by rw [List.drop_zero], Go.rfl' l1.sub, s1, fun _ _ => rfl⟩, ?_⟩
    rintro i n σ' H' ⟨rfl, B', ρ', W', e', l', s', k'⟩
    obtain ⟨w1, w2⟩ := hw i B' H' l'.ek l'.sub
    cases hd : ds[i]? with
    | none =>
      refine .inl ⟨w1 hd, ?_⟩
      rw [drop_all (List.getElem?_eq_none_iff.mp hd)] at e'
      rw [← e'] at q1
      exact q1 σ' B' H' W' l' s' k'
    | some d =>
      obtain ⟨w3, w4⟩ := w2 d hd
      have il : i < ds.length := (List.getElem?_eq_some_iff.mp hd).1
      refine .inr ⟨w3, TIy K m O gz f σ W1 B1 H1 ds (sTurns gz f ds ρ1) (i + 1), fun σ2 H2 z => ⟨ds.length - (i + 1), by omega, rfl, z⟩, fun x H2 hy => ?_⟩
      obtain ⟨B2, l2, d2⟩ := w4 x H2 hy
      exact ty_turn hg hb q1 hd e' (l'.tr l2.o) (s'.le l2) k' d2
end
end TD
set_option maxHeartbeats 4000000
namespace TD
open PySem PySem.Spec PyProof.Rows L2
open Evl (Ex)
def iL (fa : En → ER) (ρ : En) : IRz := match fa ρ with
  | .v (.list ds) ρ1 => .vs ds ρ1
  | .x c i => .x c i
  | _ => .st
def iT (fa : En → ER) (ρ : En) : IRz := match fa ρ with
  | .v (.tuple ds) ρ1 => .vs ds ρ1
  | .x c i => .x c i
  | _ => .st
def iR1 (fa : En → AR) (ρ : En) : IRz := match fa ρ with
  | .vs [.int n] ρ1 => match decide (-40000 ≤ n) && decide (n ≤ 40000) with
    | true => .vs (rgD 0 n.toNat) ρ1
    | false => .st
  | .x c i => .x c i
  | _ => .st
def iR2 (fa : En → AR) (ρ : En) : IRz := match fa ρ with
  | .vs [.int lo, .int n] ρ1 => match decide (-40000 ≤ n) && decide (n ≤ 40000) && decide (0 ≤ lo) && decide (lo ≤ 40000) with
    | true => .vs (rgD lo (n - lo).toNat) ρ1
    | false => .st
  | .x c i => .x c i
  | _ => .st
def numD : Int → List PyData → List PyData
  | _, [] => []
  | lo, d :: ds => .tuple [.int lo, d] :: numD (lo + 1) ds
def iEn (fa : En → AR) (ρ : En) : IRz := match fa ρ with
  | .vs [.list ds] ρ1 => .vs (numD 0 ds) ρ1
  | .x c i => .x c i
  | _ => .st
def zipD : List PyData → List PyData → List PyData
  | d :: ds, e :: es => .tuple [d, e] :: zipD ds es
  | _, _ => []
def iZ (fa : En → AR) (ρ : En) : IRz := match fa ρ with
  | .vs [.list ds, .list es] ρ1 => .vs (zipD ds es) ρ1
  | .x c i => .x c i
  | _ => .st
def lcOne (ft : En → TR) (fe : En → ER) (ρ1 : En) : Option (Option PyData × En) := match ft ρ1 with
  | .b true ρ2 => match fe ρ2 with
    | .v y ρ3 => some (some y, ρ3)
    | _ => none
  | .b false ρ2 => some (none, ρ2)
  | _ => none
def lcItems (vs : List Nat) (g : PyData → En → Option En) (ft : En → TR) (fe : En → ER) : List PyData → En → Option (List PyData × En)
  | [], ρ => some ([], ρ)
  | d :: ds, ρ => match g d ρ with
    | none => none
    | some ρ1 => match lcOne ft fe ρ1 with
      | none => none
      | some (o, ρ2) => match lcItems vs g ft fe ds (wipeD ρ2 vs) with
        | none => none
        | some (ys, ρ3) => some (match o with
          | some y => y :: ys
          | none => ys, ρ3)
def eLc (fi : En → IRz) (vs : List Nat) (g : PyData → En → Option En) (ft : En → TR) (fe : En → ER) (ρ : En) : ER := match fi ρ with
  | .vs ds ρ1 => match decide (ds.length ≤ 40000) with
    | true => match lcItems vs g ft fe ds (wipeD ρ1 vs) with
      | some (ys, ρ2) => .o (.list ys) ρ2
      | none => .st
    | false => .st
  | .x c i => .x c i
  | .st => .st
section
variable {K : Fg} {cl : Nat → Addr} {E E' : XK} {m m' : Nat} {O : Nat → Bool} {ta tb tc te : TE} {fa fb fc fe : En → ER} {tt tu : TT} {ft fu : En → TR} {al : TA} {fl : En → AR} {ks : List AK} {ρ ρ' ρ1 : En} {t u : TS} {f g : En → SR} {tg : TG} {gz : PyData → En → Option En} {W W1 : OW}
theorem wk_list {B : Hp} {p : Addr} {xs : List V} {ds : List PyData} (h : B p = some (.lst xs)) (a : Das K B xs ds) : Walks K (Itl K p) B ds := fun i B' H k s => by
  have q : SqL K H p xs := SqL.of (s _ _ (k _ _ h))
  refine ⟨fun e => ⟨xs, q, by rw [a.len]; exact List.getElem?_eq_none_iff.mp e⟩, fun d e => ?_⟩
  obtain ⟨v, hv, hd⟩ := a.getD e
  exact ⟨⟨xs, v, q, hv⟩, fun x H' hy => by
    obtain ⟨rfl, f⟩ := hy
    have e2 := f xs q
    rw [hv] at e2
    cases e2
    exact ⟨B', Le.rfl' s, hd.ex k⟩⟩
theorem wk_rng {B : Hp} {lo : Int} {n : Nat} : Walks K (Itr lo n) B (rgD lo n) := fun i B' H k s => by
  refine ⟨fun e => ?_, fun d e => ?_⟩
  · have := List.getElem?_eq_none_iff.mp e
    rw [rgD_len] at this
    exact this
  · have il : i < n := by
      have := (List.getElem?_eq_some_iff.mp e).1
      rw [rgD_len] at this
      exact this
    rw [rgD_get il] at e
    cases e
    exact ⟨il, fun x H' hy => by
      obtain ⟨rfl, rfl⟩ := hy
      exact ⟨B', Le.rfl' s, .int _⟩⟩
theorem numD_get : ∀ {ds : List PyData} {lo : Int} {i : Nat} {e : PyData}, (numD lo ds)[i]? = some e → ∃ d, ds[i]? = some d ∧ e = .tuple [.int (lo + (i : Int)), d]
  | [], _, _, _, h => nomatch h
  | d :: ds, lo, 0, e, h => by
    cases h
    exact ⟨d, rfl, by rw [Int.natCast_zero, Int.add_zero]⟩
  | d :: ds, lo, i + 1, e, h => by
    obtain ⟨d', h1, h2⟩ := numD_get (ds := ds) (lo := lo + 1) (i := i) h
    refine ⟨d', h1, ?_⟩
    rw [h2]
    have : lo + 1 + (i : Int) = lo + ((i + 1 : Nat) : Int) := by omega
    rw [this]
theorem numD_len : ∀ {ds : List PyData} {lo : Int}, (numD lo ds).length = ds.length
  | [], _ => rfl
  | d :: ds, lo => by
    show (numD (lo + 1) ds).length + 1 = ds.length + 1
    rw [numD_len]
theorem wk_enum {B : Hp} {p : Addr} {xs : List V} {ds : List PyData} (h : B p = some (.lst xs)) (a : Das K B xs ds) : Walks K (Ite K p) B (numD 0 ds) := fun i B' H k s => by
  have q : SqL K H p xs := SqL.of (s _ _ (k _ _ h))
  refine ⟨fun e => ⟨xs, q, by rw [a.len]; have := List.getElem?_eq_none_iff.mp e; rw [numD_len] at this; exact this⟩, fun d e => ?_⟩
  obtain ⟨d', hd', rfl⟩ := numD_get e
  obtain ⟨v, hv, hd⟩ := a.getD hd'
  refine ⟨⟨xs, v, q, hv⟩, fun x H' hy => ?_⟩
  obtain ⟨T, x', rfl, hT, rfl, f⟩ := hy
  have e2 := f xs q
  rw [hv] at e2
  cases e2
  have l := Le.new (o := .tup [.int ((i : Nat) : Int), v]) s hT
  refine ⟨_, l, .tup upd_same (.cons ?_ (.cons ((hd.ex k).ex l.ek) .nil))⟩
  rw [Int.zero_add]
  exact .int _
theorem yi_L (ha : YE K cl E m O ta fa) : YI K cl E m O (iList K ta) (iL fa) := fun ρ => by
  have a := ha ρ
  unfold iL
  cases h : fa ρ with
  | st => trivial
  | o d ρ1 => trivial
  | x c i =>
    rw [h] at a
    exact ⟨a.1, fun σ B H W s sd v hv w Q => a.2 σ B H W s sd v hv w _⟩
  | v d ρ1 =>
    rw [h] at a
    cases d with
    | list ds =>
      refine ⟨a.1, fun σ B H W s sd R q => a.2 σ B H W s sd _ fun v B1 H1 W1 l1 s1 d1 => ?_⟩
      cases d1 with
      | lst hp hx => exact ⟨_, rfl, ⟨_, SqL.of (l1.sub _ _ hp)⟩, q _ B1 H1 W1 l1 s1 (wk_list hp hx)⟩
    | _ => trivial
theorem yi_R1 (ha : YA K cl E m O al ks fl) (hd : dats ks = true := by rfl) : YI K cl E m O (iRng1 al) (iR1 fl) := fun ρ => by
  have a := ha ρ
  unfold iR1
  split
  · next n ρ1 h =>
    rw [h] at a
    split
    · next h3 =>
      simp only [Bool.and_eq_true, decide_eq_true_eq] at h3
      refine ⟨a.1, fun σ B H W s sd R q => a.2 σ B H W s sd _ fun vs B1 H1 W1 l1 s1 a1 => ?_⟩
      obtain ⟨v, r, rfl, b1, t⟩ := (a1.das hd).inv1
      cases b1
      cases t
      exact ⟨n, rfl, by omega, by omega, q _ B1 H1 W1 l1 s1 wk_rng⟩
    · trivial
  · next c i h =>
    rw [h] at a
    exact ⟨a.1, fun σ B H W s sd v hv w Q => a.2 σ B H W s sd v hv w _⟩
  · trivial
theorem yi_R2 (ha : YA K cl E m O al ks fl) (hd : dats ks = true := by rfl) : YI K cl E m O (iRng2 al) (iR2 fl) := fun ρ => by
  have a := ha ρ
  unfold iR2
  split
  · next lo n ρ1 h =>
    rw [h] at a
    split
    · next h3 =>
      simp only [Bool.and_eq_true, decide_eq_true_eq] at h3
      refine ⟨a.1, fun σ B H W s sd R q => a.2 σ B H W s sd _ fun vs B1 H1 W1 l1 s1 a1 => ?_⟩
      obtain ⟨v, r, rfl, b1, t⟩ := (a1.das hd).inv1
      obtain ⟨v2, r2, rfl, b2, t2⟩ := t.inv1
      cases b1
      cases b2
      cases t2
      exact ⟨lo, n, rfl, ⟨by omega, by omega, by omega, by omega⟩, q _ B1 H1 W1 l1 s1 wk_rng⟩
    · trivial
  · next c i h =>
    rw [h] at a
    exact ⟨a.1, fun σ B H W s sd v hv w Q => a.2 σ B H W s sd v hv w _⟩
  · trivial
theorem yi_En (ha : YA K cl E m O al ks fl) (hd : dats ks = true := by rfl) : YI K cl E m O (iEnum K al) (iEn fl) := fun ρ => by
  have a := ha ρ
  unfold iEn
  split
  · next ds ρ1 h =>
    rw [h] at a
    refine ⟨a.1, fun σ B H W s sd R q => a.2 σ B H W s sd _ fun vs B1 H1 W1 l1 s1 a1 => ?_⟩
    obtain ⟨v, r, rfl, b1, t⟩ := (a1.das hd).inv1
    cases t
    cases b1 with
    | lst hp hx => exact ⟨_, _, rfl, SqL.of (l1.sub _ _ hp), q _ B1 H1 W1 l1 s1 (wk_enum hp hx)⟩
  · next c i h =>
    rw [h] at a
    exact ⟨a.1, fun σ B H W s sd v hv w Q => a.2 σ B H W s sd v hv w _⟩
  · trivial
theorem wipe_at {σ : L2.St} : ∀ {vs : List Nat} {j : Nat} {o : Option V}, j ∈ vs → L2.wipe (σ.set j o) vs = L2.wipe σ vs
  | v :: vs, j, o, h => by
    have c : ∀ (us : List Nat) (l : L2.St) (i : Nat) (q : Option V), i ∉ us → L2.wipe (l.set i q) us = (L2.wipe l us).set i q := by
      intro us
      induction us with
      | nil => exact fun _ _ _ _ => rfl
      | cons u us ih =>
        intro l i q hn
        rw [List.mem_cons, not_or] at hn
        show (L2.wipe (l.set i q) us).set u none = ((L2.wipe l us).set u none).set i q
        rw [ih _ _ _ hn.2, List.set_comm _ _ hn.1]
    show (L2.wipe (σ.set j o) vs).set v none = (L2.wipe σ vs).set v none
    by_cases e : j ∈ vs
    · rw [wipe_at e]
    · rcases List.mem_cons.mp h with e2 | e2
      · rw [e2]
        rw [e2] at e
        rw [c _ _ _ _ e, List.set_set]
      · exact (e e2).elim
theorem wipe_out {σ : L2.St} : ∀ {vs : List Nat} {i : Nat}, i ∉ vs → (L2.wipe σ vs)[i]? = σ[i]?
  | [], _, _ => rfl
  | v :: vs, i, h => by
    rw [List.mem_cons, not_or] at h
    show ((L2.wipe σ vs).set v none)[i]? = _
    rw [List.getElem?_set_ne (Ne.symm h.1), wipe_out h.2]
theorem wipeD_out {ρ : En} : ∀ {vs : List Nat} {i : Nat}, i ∉ vs → (wipeD ρ vs)[i]? = ρ[i]?
  | [], _, _ => rfl
  | v :: vs, i, h => by
    rw [List.mem_cons, not_or] at h
    show ((wipeD ρ vs).set v none)[i]? = _
    rw [List.getElem?_set_ne (Ne.symm h.1), wipeD_out h.2]
theorem wipeD_in {ρ : En} {d : PyData} : ∀ {vs : List Nat} {i : Nat}, i ∈ vs → (wipeD ρ vs)[i]? ≠ some (some d)
  | v :: vs, i, h => by
    show ((wipeD ρ vs).set v none)[i]? ≠ _
    by_cases e : i = v
    · subst e
      by_cases l : i < (wipeD ρ vs).length
      · rw [List.getElem?_set_self l]
        exact fun z => nomatch z
      · rw [List.getElem?_eq_none (by rw [List.length_set]; omega)]
        exact fun z => nomatch z
    · rw [List.getElem?_set_ne (Ne.symm e)]
      exact wipeD_in ((List.mem_cons.mp h).resolve_left e)
theorem wipe_length {σ : L2.St} : ∀ {vs : List Nat}, (L2.wipe σ vs).length = σ.length
  | [] => rfl
  | v :: vs => by
    show ((L2.wipe σ vs).set v none).length = _
    rw [List.length_set, wipe_length]
theorem wipeD_len' {ρ : En} : ∀ {vs : List Nat}, (wipeD ρ vs).length = ρ.length
  | [] => rfl
  | v :: vs => by
    show ((wipeD ρ vs).set v none).length = _
    rw [List.length_set, wipeD_len']
theorem wipeD_two {ρ : En} {vs : List Nat} : wipeD (wipeD ρ vs) vs = wipeD ρ vs := by
  refine List.ext_getElem? fun i => ?_
  by_cases hi : i ∈ vs
  · have k : ∀ {ρ : En}, i < ρ.length → (wipeD ρ vs)[i]? = some none := fun {ρ} hl => by
      have hl' : i < (wipeD ρ vs).length := by rw [wipeD_len']; exact hl
      rw [List.getElem?_eq_getElem hl']
      cases e : (wipeD ρ vs)[i] with
      | none => rfl
      | some d => exact (wipeD_in (ρ := ρ) (d := d) hi (by rw [List.getElem?_eq_getElem hl', e])).elim
    by_cases hl : i < ρ.length
    · rw [k hl, k (by rw [wipeD_len']; exact hl)]
    · rw [List.getElem?_eq_none (by rw [wipeD_len', wipeD_len']; omega), List.getElem?_eq_none (by rw [wipeD_len']; omega)]
  · rw [wipeD_out hi]
def Blk (O : Nat → Bool) (vs : List Nat) : Bool := vs.all fun i => !O i
theorem SDo.wiped {σ σ' : L2.St} {B H : Hp} {vs : List Nat} (s : SDo K O σ B H ρ W) (h : L2.wipe σ' vs = L2.wipe σ vs) : SDo K O σ' B H (wipeD ρ vs) W := by
  have at_ : ∀ {i : Nat}, i ∉ vs → σ'[i]? = σ[i]? := fun hi => by rw [← wipe_out (σ := σ') hi, h, wipe_out hi]
  have go : ∀ {i : Nat} {d : PyData}, (wipeD ρ vs)[i]? = some (some d) → i ∉ vs ∧ ρ[i]? = some (some d) := fun {i d} e => by
    by_cases hi : i ∈ vs
    · exact (wipeD_in hi e).elim
    · rw [wipeD_out hi] at e
      exact ⟨hi, e⟩
  refine ⟨?_, fun i d h1 h2 => ?_, fun i d h1 h2 => ?_, s.bh, s.dis⟩
  · rw [wipeD_len', ← s.len, ← wipe_length (σ := σ') (vs := vs), h, wipe_length]
  · obtain ⟨g1, g2⟩ := go h2
    rw [at_ g1]
    exact s.dat i d h1 g2
  · obtain ⟨g1, g2⟩ := go h2
    rw [at_ g1]
    exact s.own i d h1 g2
def ZGw (K : Fg) (O : Nat → Bool) (vs : List Nat) (g : TG) (gz : PyData → En → Option En) : Prop := ∀ d ρ ρ', gz d ρ = some ρ' → ∀ σ v B H W, Ex B H → SDo K O σ B H ρ W → Da K B v d → ∀ Q : L2.St → Hp → Prop, (∀ σ', SDo K O σ' B H ρ' W → L2.wipe σ' vs = L2.wipe σ vs → Q σ' H) → g v σ H Q
def ZGsw (K : Fg) (O : Nat → Bool) (vs : List Nat) (g : TGs) (gz : List (PyData → En → Option En)) : Prop := ∀ ds ρ ρ', gTs gz ds ρ = some ρ' → ∀ σ xs B H W, Ex B H → SDo K O σ B H ρ W → Das K B xs ds → ∀ Q : L2.St → Hp → Prop, (∀ σ', SDo K O σ' B H ρ' W → L2.wipe σ' vs = L2.wipe σ vs → Q σ' H) → g xs σ H Q
theorem zgw_name {vs : List Nat} {j : Nat} (hj : j ∈ vs := by decide) (hO : O j = false := by rfl) : ZGw K O vs (gName j) (gN j) := fun d ρ ρ' h σ v B H W s sd hd Q q => by
  cases h
  exact q _ (sd.put j hO hd) (wipe_at hj)
theorem zgsw_nil {vs : List Nat} : ZGsw K O vs gNil [] := fun ds ρ ρ' h σ xs B H W s sd hd Q q => by
  cases ds with
  | nil =>
    cases h
    cases hd
    exact ⟨rfl, q σ sd rfl⟩
  | cons _ _ => exact nomatch h
theorem zgsw_cons {vs : List Nat} {g1 : TG} {gs : TGs} {z1 : PyData → En → Option En} {zs : List (PyData → En → Option En)} (h1 : ZGw K O vs g1 z1) (h2 : ZGsw K O vs gs zs) : ZGsw K O vs (gCons g1 gs) (z1 :: zs) := fun ds ρ ρ' h σ xs B H W s sd hd Q q => by
  cases ds with
  | nil => exact nomatch h
  | cons d ds =>
    obtain ⟨ρ1, e, h'⟩ := gTs_cons h
    obtain ⟨v, r, rfl, a, t⟩ := hd.inv1
    exact ⟨v, r, rfl, h1 d ρ ρ1 e σ v B H W s sd a _ fun σ' s' k1 => h2 ds ρ1 ρ' h' σ' r B H W s s' t Q fun σ2 s2 k2 => q σ2 s2 (k2.trans k1)⟩
theorem zgw_tup {vs : List Nat} {gs : TGs} {zs : List (PyData → En → Option En)} {n : Nat} (h : ZGsw K O vs gs zs) (hn : zs.length = n := by rfl) : ZGw K O vs (gTup K n gs) (gT zs) := fun d ρ ρ' e σ v B H W s sd hd Q q => by
  cases d with
  | tuple ds =>
    have e' : gTs zs ds ρ = some ρ' := e
    cases hd with
    | tup ha hs => exact ⟨_, _, rfl, SqT.of (s _ _ ha), hs.len.trans ((gTs_len e').trans hn), h ds ρ ρ' e' σ _ B H W s sd hs Q q⟩
  | _ => exact nomatch e
theorem lcItems_cons {vs : List Nat} {d : PyData} {ds : List PyData} {out : List PyData × En} (h : lcItems vs gz ft fe (d :: ds) ρ = some out) : ∃ ρ1 o ρ2 rs ρ3, gz d ρ = some ρ1 ∧ lcOne ft fe ρ1 = some (o, ρ2) ∧ lcItems vs gz ft fe ds (wipeD ρ2 vs) = some (rs, ρ3) ∧ out = (match (generalizing := false) o with | some y => y :: rs | none => rs, ρ3) := by
  unfold lcItems at h
  split at h
  · exact nomatch h
  · next ρ1 e1 =>
    split at h
    · exact nomatch h
    · next o ρ2 e2 =>
      split at h
      · exact nomatch h
      · next rs ρ3 e3 => exact ⟨ρ1, o, ρ2, rs, ρ3, e1, e2, e3, (Option.some.inj h).symm⟩
theorem lcOne_no {ρ1 ρ2 : En} (h : lcOne ft fe ρ1 = some (none, ρ2)) : ft ρ1 = .b false ρ2 := by
  unfold lcOne at h
  split at h
  · split at h
    · exact nomatch (congrArg Prod.fst (Option.some.inj h))
    · exact nomatch h
  · next e =>
    cases h
    exact e
  · exact nomatch h
theorem lcOne_yes {ρ1 ρ3 : En} {y : PyData} (h : lcOne ft fe ρ1 = some (some y, ρ3)) : ∃ ρ2, ft ρ1 = .b true ρ2 ∧ fe ρ2 = .v y ρ3 := by
  unfold lcOne at h
  split at h
  · next ρ2 e =>
    split at h
    · next y' ρ3' e2 =>
      cases h
      exact ⟨ρ2, e, e2⟩
    · exact nomatch h
  · exact nomatch (congrArg Prod.fst (Option.some.inj h))
  · exact nomatch h
def LIy (K : Fg) (O : Nat → Bool) (σ : L2.St) (B H : Hp) (W : OW) (D : Addr) (vs : List Nat) (gz : PyData → En → Option En) (ft : En → TR) (fe : En → ER) (ds ys : List PyData) (ρe : En) (i : Nat) (H' : Hp) : Prop :=
  ∃ B' ρ' W' acc out rest, Go W B H W' B' H' ∧ SDo K O (L2.wipe σ vs) B' H' ρ' W' ∧ ¬ WA W' D ∧ B' D = none ∧ H' D = some (.lst acc) ∧ Das K B' acc out ∧ lcItems vs gz ft fe (ds.drop i) ρ' = some (rest, ρe) ∧ out ++ rest = ys ∧ out.length ≤ i ∧ wipeD ρ' vs = ρ'
theorem Go.keep {W W1 : OW} {B H B1 H1 : Hp} (l : Go W B H W1 B1 H1) {D : Addr} {o : HO} (h : H D = some o) (n : ¬ WA W D) (b : B D = none) : H1 D = some o ∧ ¬ WA W1 D ∧ B1 D = none :=
  ⟨l.ex D o h n, fun z => (l.own D z).elim n (fun z => by rw [h] at z; cases z), l.old D b (fun z => by rw [h] at z; cases z) n⟩
theorem ly_turn {vs : List Nat} (hg : ZGw K O vs tg gz) (ht : YT K cl E' 0 O tt ft) (he : YE K cl E' 0 O te fe) {σ : L2.St} {B H H' : Hp} {D : Addr} {ds ys : List PyData} {ρe : En} {i : Nat} (hD : H D = none) (hz : ds.length ≤ 40000) (w : LIy K O σ B H W D vs gz ft fe ds ys ρe i H') {d : PyData} (hi : ds[i]? = some d) {v : V} {H'' : Hp} (hd : ∀ B', Ex B B' → Ex B' H' → ∃ B'', Le B' H' B'' H'' ∧ Da K B'' v d) :
    tg v (L2.wipe σ vs) H'' fun σ2 H2 => L2.wipe σ2 vs = L2.wipe σ vs ∧ tt σ2 H2 fun b H3 =>
      if b = true then te σ2 H3 fun y H4 => ∃ acc, H4 D = some (.lst acc) ∧ acc.length < sizeLine ∧ LIy K O σ B H W D vs gz ft fe ds ys ρe (i + 1) (upd H4 D (.lst (acc ++ [y]))) else LIy K O σ B H W D vs gz ft fe ds ys ρe (i + 1) H3 := by
  obtain ⟨B', ρ', W', acc, out, rest, l, s, o, nD, eD, a, hr, ho, hl, hwp⟩ := w
  have il : i < ds.length := (List.getElem?_eq_some_iff.mp hi).1
  rw [drop_cons hi] at hr
  obtain ⟨ρ1, o1, ρ2, rs, ρ3, e1, e2, e4, er⟩ := lcItems_cons hr
  obtain ⟨B1, l1, d1⟩ := hd B' l.ek l.sub
  have s1 := s.le l1
  obtain ⟨eD1, o1', nD1⟩ := (l1.o (W := W')).keep eD o nD
  refine hg d ρ' ρ1 e1 (L2.wipe σ vs) v B1 H'' W' l1.sub s1 d1 _ fun σ2 s2 k2 => ⟨k2.trans (wipe_none vs), ?_⟩
  have kk : L2.wipe σ2 vs = L2.wipe σ vs := k2.trans (wipe_none vs)
  have lA : Go W B H W' B1 H'' := l.tr l1.o
  have at1 := ht ρ1
  have back : L2.wipe (L2.wipe σ vs) vs = L2.wipe σ2 vs := by rw [wipe_none, kk]
  cases o1 with
  | none =>
    rw [lcOne_no e2] at at1
    refine at1.2 σ2 B1 H'' W' l1.sub s2 _ fun B3 H3 W3 l3 s3 => ?_
    obtain ⟨e3, o3, n3⟩ := l3.keep eD1 o1' nD1
    have er : (rest, ρe) = (rs, ρ3) := er
    cases er
    exact ⟨B3, wipeD ρ2 vs, W3, acc, out, rest, lA.tr l3, s3.wiped back, o3, n3, e3, a.ex (l1.ek.trans l3.ek), e4, ho, by omega, wipeD_two⟩
  | some y =>
    obtain ⟨ρt, q1, q2⟩ := lcOne_yes e2
    have b1 := he ρt
    rw [q1] at at1
    rw [q2] at b1
    have er : (rest, ρe) = (y :: rs, ρ3) := er
    cases er
    refine at1.2 σ2 B1 H'' W' l1.sub s2 _ fun B3 H3 W3 l3 s3 => ?_
    show te σ2 H3 _
    obtain ⟨e3, o3, n3⟩ := l3.keep eD1 o1' nD1
    refine b1.2 σ2 B3 H3 W3 l3.sub s3 _ fun u B4 H4 W4 l4 s4 d4 => ?_
    obtain ⟨e4', o4, n4⟩ := l4.keep e3 o3 n3
    have l14 : Go W B H W4 B4 H4 := (lA.tr l3).tr l4
    have lD : Go W B H W4 B4 (upd H4 D (.lst (acc ++ [u]))) := by
      refine ⟨⟨fun b x hb nb => ?_, fun b hb => ?_, l14.ek, fun b x hb => ?_, l14.old⟩, l14.own⟩
      · rw [upd_ne (fun z => by rw [z, hD] at hb; cases hb)]
        exact l14.ex b x hb nb
      · by_cases z : b = D
        · rw [z, upd_same]
          exact fun z => nomatch z
        · rw [upd_ne z]
          exact l14.dom b hb
      · rw [upd_ne (ne_of_none hb n4)]
        exact l14.sub b x hb
    have sD : SDo K O σ2 B4 (upd H4 D (.lst (acc ++ [u]))) ρ2 W4 := s4.up (X := fun p => p = D) ⟨fun b x hb nb => by rw [upd_ne nb]; exact hb, fun b hb => by
        by_cases z : b = D
        · rw [z, upd_same]
          exact fun z => nomatch z
        · rw [upd_ne z]
          exact hb, Ex.refl B4, fun b x hb => by rw [upd_ne (ne_of_none hb n4)]; exact l4.sub b x hb, fun b h1 _ _ => h1⟩ fun p z => by
        rw [z]
        exact o4
    exact ⟨acc, e4', Evl.sz_lt (by rw [a.len]; omega), B4, wipeD ρ2 vs, W4, acc ++ [u], out ++ [y], rs, lD, sD.wiped back, o4, n4, upd_same, (a.ex ((l1.ek.trans l3.ek).trans l4.ek)).app (.cons d4 .nil), e4, by rw [← ho, List.append_assoc]; rfl, by rw [List.length_append, List.length_singleton]; omega, wipeD_two⟩
theorem ye_lc {ti : TI} {fi : En → IRz} {vs : List Nat} (hi : YI K cl E m O ti fi) (hg : ZGw K O vs tg gz) (ht : YT K cl E' 0 O tt ft) (he : YE K cl E' 0 O te fe) (hb : Blk O vs = true := by rfl) : YE K cl E m O (tLc ti tg tt te vs) (eLc fi vs gz ft fe) := fun ρ => by
  have a := hi ρ
  unfold eLc
  cases h : fi ρ with
  | st => trivial
  | x c i =>
    rw [h] at a
    exact ⟨a.1, fun σ B H W s sd v hv w Q => a.2 σ B H W s sd v hv w _⟩
  | vs ds ρ1 =>
    rw [h] at a
    show EOy K cl E m O _ ρ (match decide (ds.length ≤ 40000) with | true => (match lcItems vs gz ft fe ds (wipeD ρ1 vs) with | some (ys, ρ2) => .o (.list ys) ρ2 | none => .st) | false => .st)
    cases h2 : decide (ds.length ≤ 40000) with
    | false => trivial
    | true =>
      have hz := of_decide_eq_true h2
      show EOy K cl E m O _ ρ (match lcItems vs gz ft fe ds (wipeD ρ1 vs) with | some (ys, ρ2) => .o (.list ys) ρ2 | none => .st)
      cases h3 : lcItems vs gz ft fe ds (wipeD ρ1 vs) with
      | none => trivial
      | some out =>
        obtain ⟨ys, ρe⟩ := out
        refine ⟨trivial, fun σ B H W s sd Q q => a.2 σ B H W s sd _ fun J B1 H1 W1 l1 s1 hw D hD => ?_⟩
        have hoD : ¬ WA W1 D := fun ⟨i, z⟩ => (s1.bh i D z).2 hD
        refine ⟨fun i n H' => n = ds.length - i ∧ LIy K O σ B1 H1 W1 D vs gz ft fe ds ys ρe i H', ⟨ds.length, rfl, B1, wipeD ρ1 vs, W1, [], [], ys, ⟨⟨fun b x hb _ => Ex.new hD b x hb, fun b hb => ?_, Ex.refl B1, l1.sub.trans (Ex.new hD), fun _ h _ _ => h⟩, fun _ z => .inl z⟩, ?_, hoD, Evl.fresh_back l1.sub hD, upd_same, .nil, by rw [List.drop_zero]; exact h3, rfl, Nat.le_refl _, wipeD_two⟩, ?_⟩
        · by_cases z : b = D
          · rw [z, upd_same]
            exact fun z => nomatch z
          · rw [upd_ne z]
            exact hb
        · exact (s1.le ⟨Ex.new hD, Ex.refl B1, l1.sub.trans (Ex.new hD), fun _ h _ => h⟩).wiped (wipe_none vs)
        rintro i n H' ⟨rfl, w⟩
        obtain ⟨B', ρ', W', acc, out, rest, l, s', o, nD, eD, a', hr, ho, hl, hwp⟩ := id w
        obtain ⟨w1, w2⟩ := hw i B' H' l.ek l.sub
        cases hd : ds[i]? with
        | none =>
          refine .inl ⟨w1 hd, ?_⟩
          rw [drop_all (List.getElem?_eq_none_iff.mp hd)] at hr
          have hr : ([], ρ') = (rest, ρe) := Option.some.inj hr
          cases hr
          rw [List.append_nil] at ho
          subst ho
          refine q D (fun a => a = D) B' H' W' (l1.tr l) ?_ ⟨rfl, acc, eD, a'⟩ fun b hb => ?_
          · have w9 := s'.wiped (σ' := σ) (vs := vs) (wipe_none vs).symm
            rwa [hwp] at w9
          · subst hb
            exact ⟨nD, (by rw [eD]; exact fun z => nomatch z), o, .inr (l1.toLeO.back hD)⟩
        | some d =>
          obtain ⟨w3, w4⟩ := w2 d hd
          have il : i < ds.length := (List.getElem?_eq_some_iff.mp hd).1
          refine .inr ⟨w3, LIy K O σ B1 H1 W1 D vs gz ft fe ds ys ρe (i + 1), fun H2 z => ⟨ds.length - (i + 1), by omega, rfl, z⟩, fun x H2 hy => ?_⟩
          exact ly_turn hg ht he hD hz w hd fun B2 k2 s2 => by
            obtain ⟨_, w5⟩ := (hw i B2 H' k2 s2).2 d hd
            exact w5 x H2 hy
end
end TD
set_option maxHeartbeats 4000000
namespace TD
open PySem PySem.Spec PyProof.Rows L2
open Evl (Ex)
section
variable {K : Fg} {cl : Nat → Addr} {E E' : XK} {m m' : Nat} {O : Nat → Bool} {ta tb tc te : TE} {fa fb fc fe : En → ER} {tt tu : TT} {ft fu : En → TR} {al : TA} {fl : En → AR} {ks : List AK} {ρ ρ' ρ1 : En} {t u : TS} {f g : En → SR} {r : R2} {W W1 : OW}
theorem while_lt (ht : YT K cl E m O tt ft) (hb : YS K cl E m O t f) : ∀ {n : Nat} {ρ : En} {c i : Nat}, sWhile ft f n ρ = .x c i → i < m
  | 0, _, _, _, h => nomatch h
  | n + 1, ρ, c, i, h => by
    have a := ht ρ
    unfold sWhile at h
    split at h
    · exact nomatch h
    · next ρ1 e =>
      have b := (hb ρ1).1
      split at h
      · exact while_lt ht hb h
      · exact while_lt ht hb h
      · exact nomatch h
      · exact b c i h
    · next c' i' e =>
      rw [e] at a
      cases h
      exact a.1
    · exact nomatch h
def WIy (K : Fg) (m : Nat) (O : Nat → Bool) (ft : En → TR) (f : En → SR) (σ : L2.St) (W : OW) (B H : Hp) (r : SR) (n : Nat) (σ' : L2.St) (H' : Hp) : Prop :=
  ∃ B' ρ' W', sWhile ft f n ρ' = r ∧ Go W B H W' B' H' ∧ SDo K O σ' B' H' ρ' W' ∧ ∀ i, i < m → σ'[i]? = σ[i]?
theorem ys_while (ht : YT K cl E m O tt ft) (hb : YS K cl E m O t f) (n : Nat) : YS K cl E m O (tWhile tt t) (sWhile ft f n) := fun ρ => by
  refine ⟨fun c i e => while_lt ht hb e, fun σ B H W D s sd q => ?_⟩
  refine ⟨WIy K m O ft f σ W B H (sWhile ft f n ρ), ⟨n, B, ρ, W, rfl, Go.rfl' s, sd, fun _ _ => rfl⟩, ?_⟩
  rintro k σ' H' ⟨B', ρ', W', e', l', s', k'⟩
  cases k with
  | zero =>
    have e0 : SR.st = sWhile ft f n ρ := e'
    rw [← e0] at q
    exact q.elim
  | succ k =>
    have e0 : (match ft ρ' with
      | .b false ρ1 => SR.nx ρ1
      | .b true ρ1 => match f ρ1 with
        | .nx ρ2 => sWhile ft f k ρ2
        | .ct ρ2 => sWhile ft f k ρ2
        | .br ρ2 => .nx ρ2
        | r => r
      | .x c i => .x c i
      | .st => .st) = sWhile ft f n ρ := e'
    have a := ht ρ'
    cases e1 : ft ρ' with
    | st =>
      rw [e1] at e0
      have e0 : SR.st = sWhile ft f n ρ := e0
      rw [← e0] at q
      exact q.elim
    | x c i =>
      rw [e1] at e0 a
      have e0 : SR.x c i = sWhile ft f n ρ := e0
      rw [← e0] at q
      obtain ⟨v, hv, w⟩ := q
      exact a.2 σ' B' H' W' l'.sub s' v ((k' i a.1).trans hv) (fun x B2 H2 l2 => w x B2 H2 (l'.toLeO.tr l2 l'.own)) _
    | b b ρ1 =>
      rw [e1] at e0 a
      refine a.2 σ' B' H' W' l'.sub s' _ fun B1 H1 W1 l1 s1 => ?_
      have l01 : Go W B H W1 B1 H1 := l'.tr l1
      cases b with
      | false =>
        have e0 : SR.nx ρ1 = sWhile ft f n ρ := e0
        rw [← e0] at q
        show D.nx σ' H1
        exact q σ' B1 H1 W1 l01 s1 k'
      | true =>
        have e0 : (match f ρ1 with
          | .nx ρ2 => sWhile ft f k ρ2
          | .ct ρ2 => sWhile ft f k ρ2
          | .br ρ2 => .nx ρ2
          | r => r) = sWhile ft f n ρ := e0
        refine ⟨WIy K m O ft f σ W B H (sWhile ft f n ρ) k, fun σ2 H2 z => ⟨k, Nat.lt_succ_self k, z⟩, (hb ρ1).2 σ' B1 H1 W1 _ l1.sub s1 ?_⟩
        have bm := (hb ρ1).1
        have go : ∀ ρ2, sWhile ft f k ρ2 = sWhile ft f n ρ → PN K m O σ' B1 H1 W1 ρ2 (WIy K m O ft f σ W B H (sWhile ft f n ρ) k) := fun ρ2 er σ3 B3 H3 W3 l3 s3 k3 =>
          ⟨B3, ρ2, W3, er, l01.tr l3, s3, fun i hi => (k3 i hi).trans (k' i hi)⟩
        cases e2 : f ρ1 with
        | nx ρ2 =>
          rw [e2] at e0
          exact go ρ2 e0
        | ct ρ2 =>
          rw [e2] at e0
          exact go ρ2 e0
        | br ρ2 =>
          rw [e2] at e0
          have e0 : SR.nx ρ2 = sWhile ft f n ρ := e0
          rw [← e0] at q
          exact PN.behind q l01 k'
        | st =>
          rw [e2] at e0
          have e0 : SR.st = sWhile ft f n ρ := e0
          rw [← e0] at q
          exact q.elim
        | ret d2 ρ2 =>
          rw [e2] at e0
          have e0 : SR.ret d2 ρ2 = sWhile ft f n ρ := e0
          rw [← e0] at q
          exact WZ.behind (D := D) (r := .ret d2 ρ2) l01 k' (fun _ _ h => nomatch h) q
        | reto d2 ρ2 =>
          rw [e2] at e0
          have e0 : SR.reto d2 ρ2 = sWhile ft f n ρ := e0
          rw [← e0] at q
          exact WZ.behind (D := D) (r := .reto d2 ρ2) l01 k' (fun _ _ h => nomatch h) q
        | x c i =>
          rw [e2] at e0 bm
          have e0 : SR.x c i = sWhile ft f n ρ := e0
          rw [← e0] at q
          exact WZ.behind (D := D) (r := .x c i) l01 k' bm q
theorem ys_aug {g : PyData → PyData → Option PyData} {i : Nat} (hr : Op2 K r g) (ha : YE K cl E m O ta fa) (hi : m ≤ i := by first | exact Nat.le_of_ble_eq_true rfl | omega) (hO : O i = false := by rfl) : YS K cl E m O (tAug i ta r) (sAug i g fa) := fun ρ => by
  unfold sAug
  split
  · exact .stuck
  · next x nm hx =>
    refine sy_E ha (fun σ B H W D sd z => ?_) fun y ρ1 m1 hy => ?_
    · obtain ⟨v, e, dv⟩ := sd.dat i x hO hx
      exact ⟨v, e, z _⟩
    · split
      · next z hz =>
        refine ⟨fun _ _ h => (nomatch h), fun σ B H W D s sd q => ?_⟩
        obtain ⟨v, e, dv'⟩ := sd.dat i x hO hx
        have dv := dv'.da nm
        refine ⟨v, e, hy σ B H W s sd _ fun w B1 H1 W1 l1 s1 d1 => hr x y z hz v w B1 H1 l1.sub (dv.ex l1.ek) d1 _ fun u B2 H2 l2 d2 => ?_⟩
        exact q _ B2 H2 _ (l1.mo l2.o m1) ((s1.le l2).put i hO d2) fun k hk => List.getElem?_set_ne (by omega)
      · exact .stuck
  · exact .stuck
def ArgsY (K : Fg) (op : Option Nat) (B H : Hp) (A : Addr → Prop) (vs : List V) (ds : List PyData) : Prop :=
  vs.length = ds.length ∧ (∀ (j : Nat) (d : PyData), ds[j]? = some d → ∃ v, vs[j]? = some v ∧ (op ≠ some j → Da K B v d) ∧ (op = some j → ∃ p, v = .ref p ∧ Own K B H p A d)) ∧ ∀ a, A a → B a = none ∧ H a ≠ none
def AV (op : Option Nat) (vs : List V) (p : Addr) : Prop := ∃ j, op = some j ∧ vs[j]? = some (.ref p)
def Then (A : Addr → Prop) (H : Hp) (A' : Addr → Prop) (B' H' : Hp) : Prop := ∀ a, A' a → B' a = none ∧ H' a ≠ none ∧ (A a ∨ H a = none)
def SpY (K : Fg) (cl : Nat → Addr) (op : Option Nat) (F : List PyData → FR) : Sp := fun vs H Q E => ∃ B ds A, Ex B H ∧ ArgsY K op B H A vs ds ∧ (op = none → ∀ a, ¬ A a) ∧ match F ds with
  | .st => False
  | .v d e => ∀ v B' H' A', LeO A B H B' H' → Da K B' v d → (∀ p, AV op vs p → Own K B' H' p A' e) → Then A H A' B' H' → Q v H'
  | .o d e => ∀ p A2 B' H' A', LeO A B H B' H' → Own K B' H' p A2 d → (∀ a, A2 a → B' a = none ∧ H' a ≠ none ∧ ¬ A' a ∧ (A a ∨ H a = none)) → (∀ p, AV op vs p → Own K B' H' p A' e) → Then A H A' B' H' → Q (.ref p) H'
  | .x c j => ∃ v, vs[j]? = some v ∧ ∀ x B' H', LeO A B H B' H' → H' x = some (xdV v) → E (.ref (cl c)) (some x) H'
def endOf (op : Option Nat) (ρ : En) : PyData := match op with
  | some j => match ρ[j]? with
    | some (some e) => e
    | _ => .none
  | none => .none
def stands (op : Option Nat) (ρ : En) : Bool := match op with
  | some j => match ρ[j]? with
    | some (some _) => true
    | _ => false
  | none => true
def finY (op : Option Nat) : SR → FR
  | .ret d ρ => match stands op ρ with
    | true => .v d (endOf op ρ)
    | false => .st
  | .reto d ρ => match stands op ρ with
    | true => .o d (endOf op ρ)
    | false => .st
  | .nx ρ => match stands op ρ with
    | true => .v .none (endOf op ρ)
    | false => .st
  | .x c i => .x c i
  | _ => .st
def fnY (n N : Nat) (op : Option Nat) (f : En → SR) (ds : List PyData) : FR := match decide (ds.length = n) with
  | false => .st
  | true => finY op (f (ds.map some ++ List.replicate (N - n) none))
def ownArg : Nat → List AK → Option (Nat × Nat)
  | _, [] => none
  | j, .o i :: _ => some (j, i)
  | j, _ :: ks => ownArg (j + 1) ks
def eCall (F : List PyData → FR) (ks : List AK) (fa : En → AR) (ρ : En) : ER := aE (fa ρ) fun ds ρ1 => match ownArg 0 ks with
  | none => match F ds with
    | .v d _ => .v d ρ1
    | .o d _ => .o d ρ1
    | .st => .st
    | .x c j => match ks[j]? with
      | some (.s i) => .x c i
      | _ => .st
  | some (j, i) => match ρ1[i]? with
    | some (some c) => match F (ds.set j c) with
      | .v d e => .v d (ρ1.set i (some e))
      | .o d e => .o d (ρ1.set i (some e))
      | .st => .st
      | .x c j => match ks[j]? with
        | some (.s i) => .x c i
        | _ => .st
    | _ => .st
theorem ArgOk.at {B : Hp} {σ : L2.St} : ∀ {ks : List AK} {ds : List PyData} {vs : List V} {j : Nat} {d : PyData}, ArgOk K O σ B ks ds vs → ds[j]? = some d → ∃ v k, vs[j]? = some v ∧ ks[j]? = some k ∧ (match k with
    | .d => Da K B v d
    | .s i => Da K B v d ∧ σ[i]? = some (some v)
    | .o i => σ[i]? = some (some v))
  | [], [], [], _, _, _, e => nomatch e
  | .d :: _, _ :: _, _ :: _, 0, _, h, e => by
    cases e
    exact ⟨_, _, rfl, rfl, h.1⟩
  | .s i :: _, _ :: _, _ :: _, 0, _, h, e => by
    cases e
    exact ⟨_, _, rfl, rfl, h.1, h.2.1⟩
  | .o i :: _, _ :: _, _ :: _, 0, _, h, e => by
    cases e
    exact ⟨_, _, rfl, rfl, h.1⟩
  | .d :: ks, _ :: _, _ :: _, j + 1, _, h, e => ArgOk.at (ks := ks) (j := j) h.2 e
  | .s _ :: ks, _ :: _, _ :: _, j + 1, _, h, e => ArgOk.at (ks := ks) (j := j) h.2.2 e
  | .o _ :: ks, _ :: _, _ :: _, j + 1, _, h, e => ArgOk.at (ks := ks) (j := j) h.2 e
theorem ArgOk.len {B : Hp} {σ : L2.St} : ∀ {ks : List AK} {ds : List PyData} {vs : List V}, ArgOk K O σ B ks ds vs → vs.length = ds.length ∧ ks.length = ds.length
  | [], [], [], _ => ⟨rfl, rfl⟩
  | .d :: ks, _ :: _, _ :: _, h => let ⟨a, b⟩ := ArgOk.len (ks := ks) h.2; ⟨congrArg (· + 1) a, congrArg (· + 1) b⟩
  | .s _ :: ks, _ :: _, _ :: _, h => let ⟨a, b⟩ := ArgOk.len (ks := ks) h.2.2; ⟨congrArg (· + 1) a, congrArg (· + 1) b⟩
  | .o _ :: ks, _ :: _, _ :: _, h => let ⟨a, b⟩ := ArgOk.len (ks := ks) h.2; ⟨congrArg (· + 1) a, congrArg (· + 1) b⟩
def okArgs (O : Nat → Bool) (oj : Option (Nat × Nat)) (ks : List AK) : Bool := ks.zipIdx.all fun q => match q.1 with
  | .o i => O i && decide (oj = some (q.2, i))
  | _ => match oj with
    | some p => decide (p.1 ≠ q.2)
    | none => true
theorem okArgs.at {oj : Option (Nat × Nat)} (h : okArgs O oj ks = true) {j : Nat} {k : AK} (e : ks[j]? = some k) : match k with
    | .o i => O i = true ∧ oj = some (j, i)
    | _ => ∀ p, oj = some p → p.1 ≠ j := by
  have hm : (k, j) ∈ ks.zipIdx := List.mem_of_getElem? (i := j) (by rw [List.getElem?_zipIdx, e, Nat.zero_add]; rfl)
  have w := List.all_eq_true.mp h _ hm
  cases k with
  | o i =>
    have w : (O i && decide (oj = some (j, i))) = true := w
    rw [Bool.and_eq_true, decide_eq_true_eq] at w
    exact w
  | d =>
    intro p hp
    rw [hp] at w
    exact of_decide_eq_true w
  | s i =>
    intro p hp
    rw [hp] at w
    exact of_decide_eq_true w
theorem ye_callG {F : List PyData → FR} {Ew : L2.St → XK} {op : Option Nat} (h : YA K cl E m O al ks fl) (hk : okArgs O (ownArg 0 ks) ks = true) (hop : op = (ownArg 0 ks).map (·.1)) (hx : ∀ (j i : Nat), ks[j]? = some (AK.s i) → i < m ∧ ∀ σ c d H, E c d H → Ew σ c d H) : YE K cl E m O (tCallS (SpY K cl op F) Ew al) (eCall F ks fl) := fun ρ =>
  ay_E (h ρ) (fun σ H Q z => z _) fun ds ρ1 m1 hal => by
    have key : ∀ (ds' : List PyData) (k : PyData → En), (∀ σ B H W, Ex B H → SDo K O σ B H ρ W → ∀ vs B1 H1 W1, Go W B H W1 B1 H1 → SDo K O σ B1 H1 ρ1 W1 → ArgOk K O σ B1 ks ds vs → ∃ A, ArgsY K op B1 H1 A vs ds' ∧ (op = none → ∀ a, ¬ A a) ∧ (∀ p, A p → WA W1 p) ∧ ∀ e B2 H2 A', LeO A B1 H1 B2 H2 → (∀ p, AV op vs p → Own K B2 H2 p A' e) → Then A H1 A' B2 H2 → ∃ W2, SDo K O σ B2 H2 (k e) W2 ∧ Go W1 B1 H1 W2 B2 H2 ∧ ∀ a, WA W2 a → A' a ∨ (WA W1 a ∧ ¬ A a)) →
        EOy K cl E m O (tCallS (SpY K cl op F) Ew al) ρ (match F ds' with
          | .v d e => .v d (k e)
          | .o d e => .o d (k e)
          | .st => .st
          | .x c j => match ks[j]? with
            | some (.s i) => .x c i
            | _ => .st) := by
      intro ds' k hA
      cases hF : F ds' with
      | st => trivial
      | v d e =>
        refine ⟨trivial, fun σ B H W s sd Q q => hal σ B H W s sd _ fun vs B1 H1 W1 l1 s1 a1 => ?_⟩
        obtain ⟨A, a2, a0, a3, a4⟩ := hA σ B H W s sd vs B1 H1 W1 l1 s1 a1
        refine ⟨B1, ds', A, l1.sub, a2, a0, ?_⟩
        rw [hF]
        intro v B2 H2 A' l2 d2 o2 t2
        obtain ⟨W2, s2, g2, _⟩ := a4 e B2 H2 A' l2 o2 t2
        exact q v B2 H2 W2 (l1.tr g2) s2 d2
      | o d e =>
        refine ⟨trivial, fun σ B H W s sd Q q => hal σ B H W s sd _ fun vs B1 H1 W1 l1 s1 a1 => ?_⟩
        obtain ⟨A, a2, a0, a3, a4⟩ := hA σ B H W s sd vs B1 H1 W1 l1 s1 a1
        refine ⟨B1, ds', A, l1.sub, a2, a0, ?_⟩
        rw [hF]
        intro p A2 B2 H2 A' l2 ow n2 o2 t2
        obtain ⟨W2, s2, g2, w2⟩ := a4 e B2 H2 A' l2 o2 t2
        refine q p A2 B2 H2 W2 (l1.tr g2) s2 ow fun a z => ?_
        obtain ⟨n1, n3, n4, n5⟩ := n2 a z
        exact ⟨n1, n3, fun z => (w2 a z).elim n4 fun ⟨⟨i, z⟩, y⟩ => n5.elim y (s1.bh i a z).2, n5.elim (fun y => l1.own a (a3 a y)) fun y => .inr (l1.toLeO.back y)⟩
      | x c j =>
        show EOy K cl E m O _ ρ (match ks[j]? with | some (.s i) => .x c i | _ => .st)
        split
        · next i hj =>
          obtain ⟨hi, hE⟩ := hx j i hj
          refine ⟨hi, fun σ B H W s sd v hv w Q => hal σ B H W s sd _ fun vs B1 H1 W1 l1 s1 a1 => ?_⟩
          obtain ⟨A, a2, a0, a3, a4⟩ := hA σ B H W s sd vs B1 H1 W1 l1 s1 a1
          refine ⟨B1, ds', A, l1.sub, a2, a0, ?_⟩
          rw [hF]
          obtain ⟨el, ek⟩ := a1.len
          have jl : j < ds.length := by
            rw [← ek]
            exact (List.getElem?_eq_some_iff.mp hj).1
          obtain ⟨u, k2, hu, hk2, ha⟩ := a1.at (List.getElem?_eq_getElem jl)
          rw [hj] at hk2
          cases hk2
          have : u = v := by
            have := ha.2
            rw [hv] at this
            cases this
            rfl
          exact ⟨v, this ▸ hu, fun x B2 H2 l2 hx2 => hE σ _ _ _ (w x B2 H2 (l1.toLeO.tr (l2.to fun p z => .inl (a3 p z)) l1.own) hx2)⟩
        · trivial
    have hk' := hk
    cases ho : ownArg 0 ks with
    | none =>
      rw [ho] at hop hk'
      have hop : op = none := hop
      subst hop
      refine key ds (fun _ => ρ1) fun σ B H W s sd vs B1 H1 W1 l1 s1 a1 => ⟨fun _ => False, ⟨a1.len.1, fun j d hd => ?_, fun _ z => z.elim⟩, fun _ _ z => z, fun _ z => z.elim, fun e B2 H2 A' l2 o2 t2 => ⟨W1, s1.up l2 fun p z => z.elim, ⟨l2.to fun _ z => z.elim, fun _ z => .inl z⟩, fun _ z => .inr ⟨z, fun y => y⟩⟩⟩
      obtain ⟨v, k, hv, hkk, ha⟩ := a1.at hd
      refine ⟨v, hv, fun _ => ?_, fun z => nomatch z⟩
      have w := okArgs.at hk' hkk
      cases k with
      | d => exact ha
      | s i => exact ha.1
      | o i => exact nomatch w.2
    | some ji =>
      obtain ⟨j0, i0⟩ := ji
      rw [ho] at hop hk'
      have hop : op = some j0 := hop
      subst hop
      show EOy K cl E m O _ ρ (match ρ1[i0]? with | some (some c) => (match F (ds.set j0 c) with | .v d e => .v d (ρ1.set i0 (some e)) | .o d e => .o d (ρ1.set i0 (some e)) | .st => .st | .x c j => (match ks[j]? with | some (.s i) => .x c i | _ => .st)) | _ => .st)
      split
      · next c hc =>
        refine key (ds.set j0 c) (fun e => ρ1.set i0 (some e)) fun σ B H W s sd vs B1 H1 W1 l1 s1 a1 => ?_
        obtain ⟨el, ek⟩ := a1.len
        have hsome : ∃ k, ks[j0]? = some k ∧ (match k with | .o i => i = i0 ∧ O i0 = true | _ => False) := by
          have key2 : ∀ (ks : List AK) (n j i : Nat), ownArg n ks = some (j, i) → ∃ t, j = n + t ∧ ks[t]? = some (.o i) := by
            intro ks
            induction ks with
            | nil => exact fun _ _ _ h => nomatch h
            | cons k ks ih =>
              intro n j i h
              cases k with
              | o i' =>
                have h : some (n, i') = some (j, i) := h
                cases h
                exact ⟨0, rfl, rfl⟩
              | d =>
                obtain ⟨t, e1, e2⟩ := ih (n + 1) j i h
                exact ⟨t + 1, by omega, e2⟩
              | s i' =>
                obtain ⟨t, e1, e2⟩ := ih (n + 1) j i h
                exact ⟨t + 1, by omega, e2⟩
          obtain ⟨t, e1, e2⟩ := key2 ks 0 j0 i0 ho
          rw [Nat.zero_add] at e1
          subst e1
          have w := okArgs.at hk' e2
          exact ⟨_, e2, rfl, w.1⟩
        obtain ⟨k0, hk0, hki⟩ := hsome
        cases k0 with
        | d => exact hki.elim
        | s i => exact hki.elim
        | o i =>
          obtain ⟨rfl, hOi⟩ := hki
          have jl : j0 < ds.length := by
            rw [← ek]
            exact (List.getElem?_eq_some_iff.mp hk0).1
          obtain ⟨u, k2, hu, hk2, ha⟩ := a1.at (List.getElem?_eq_getElem jl)
          rw [hk0] at hk2
          cases hk2
          have ha : σ[i]? = some (some u) := ha
          obtain ⟨p, e1, e3⟩ := s1.own i c hOi hc
          rw [ha] at e1
          cases e1
          refine ⟨W1 i, ⟨by rw [List.length_set]; exact el, fun j d hd => ?_, fun a z => s1.bh i a z⟩, (fun z => nomatch z), fun q z => ⟨i, z⟩, fun e B2 H2 A' l2 o2 t2 => ?_⟩
          · by_cases q : j = j0
            · subst q
              rw [List.getElem?_set_self jl] at hd
              cases hd
              exact ⟨_, hu, fun z => (z rfl).elim, fun _ => ⟨p, rfl, e3⟩⟩
            · rw [List.getElem?_set_ne (Ne.symm q)] at hd
              obtain ⟨v, k, hv, hkk, hav⟩ := a1.at hd
              refine ⟨v, hv, fun _ => ?_, fun z => (q (Option.some.inj z).symm).elim⟩
              have w := okArgs.at hk' hkk
              cases k with
              | d => exact hav
              | s i => exact hav.1
              | o i2 =>
                cases w.2
                exact (q rfl).elim
          · obtain ⟨s2, g2⟩ := s1.chgG i hOi hc ha l2 (A := A') t2 (o2 p ⟨j0, rfl, hu⟩)
            refine ⟨_, s2, g2, fun a ⟨t, z⟩ => ?_⟩
            rcases z with ⟨_, z⟩ | ⟨n, z⟩
            · exact .inl z
            · exact .inr ⟨⟨t, z⟩, fun y => n (s1.dis t i a z y)⟩
      · trivial
theorem ye_call {F : List PyData → FR} {op : Option Nat} (h : YA K cl E m O al ks fl) (hk : okArgs O (ownArg 0 ks) ks = true := by rfl) (hop : op = (ownArg 0 ks).map (·.1) := by rfl) (hm : ks.all (fun k => match k with
    | .s i => decide (i < m)
    | _ => true) = true := by rfl) : YE K cl E m O (tCallS (SpY K cl op F) (WE fun c d _ H => E c d H) al) (eCall F ks fl) := ye_callG h hk hop fun j i e => ⟨by
    have w := List.all_eq_true.mp hm _ (List.mem_of_getElem? e)
    exact of_decide_eq_true w, fun _ _ _ _ z => z⟩
theorem ye_call0 {F : List PyData → FR} {op : Option Nat} {Ew : L2.St → XK} (h : YA K cl E m O al ks fl) (hk : okArgs O (ownArg 0 ks) ks = true := by rfl) (hop : op = (ownArg 0 ks).map (·.1) := by rfl) (hs : ks.all (fun k => match k with
    | .s _ => false
    | _ => true) = true := by rfl) : YE K cl E m O (tCallS (SpY K cl op F) Ew al) (eCall F ks fl) := ye_callG h hk hop fun j i e => by
    have w := List.all_eq_true.mp hs _ (List.mem_of_getElem? e)
    exact nomatch w
end
end TD
set_option maxHeartbeats 4000000
namespace TD
open PySem PySem.Spec PyProof.Rows L2
open PySem.W (alike alikeAll dataLt lt_data ge_data)
open Evl (Ex)
def gI (g : Int → Int → Int) : PyData → PyData → Option PyData
  | .int i, .int j => some (.int (g i j))
  | _, _ => none
def gB (g : Int → Int → Bool) : PyData → PyData → Option PyData
  | .int i, .int j => some (.bool (g i j))
  | _, _ => none
def gEq : PyData → PyData → Option PyData
  | .int i, .int j => some (.bool (decide (i = j)))
  | .str i, .str j => some (.bool (decide (i = j)))
  | .bool i, .bool j => some (.bool (i == j))
  | _, _ => none
def gNe : PyData → PyData → Option PyData
  | .int i, .int j => some (.bool (!decide (i = j)))
  | .str i, .str j => some (.bool (!decide (i = j)))
  | _, _ => none
def gNeg : PyData → Option PyData
  | .int i => some (.int (-i))
  | _ => none
def gIxL : PyData → PyData → Option PyData
  | .list ds, .int (.ofNat i) => ds[i]?
  | _, _ => none
def gIxT : PyData → PyData → Option PyData
  | .tuple ds, .int (.ofNat i) => ds[i]?
  | _, _ => none
def gCat : PyData → PyData → Option PyData
  | .list ds, .list es => match decide (ds.length + es.length ≤ 100000) with
    | true => some (.list (ds ++ es))
    | false => none
  | _, _ => none
def gEqA (x y : PyData) : Option PyData := match SeqAt.shaped x && SeqAt.shaped y with
  | true => some (.bool (PyData.eqv x y))
  | false => none
def gNeA (x y : PyData) : Option PyData := match SeqAt.shaped x && SeqAt.shaped y with
  | true => some (.bool (!PyData.eqv x y))
  | false => none
def gLen : List PyData → Option PyData
  | [.list ds] => some (.int ds.length)
  | [.tuple ds] => some (.int ds.length)
  | _ => none
def boolsOf : List PyData → Option (List Bool)
  | [] => some []
  | .bool b :: ds => match boolsOf ds with
    | some bs => some (b :: bs)
    | none => none
  | _ => none
def gAll : List PyData → Option PyData
  | [.list ds] => match boolsOf ds with
    | some bs => some (.bool (bs.all id))
    | none => none
  | _ => none
section
variable {K : Fg}
theorem o_I {g : Int → Int → Int} : Op2 K (rI0 fun i j => .int (g i j)) (gI g) := fun x y z h => by
  unfold gI at h
  split at h
  · cases h
    exact r_Ii
  · exact nomatch h
theorem o_B {g : Int → Int → Bool} : Op2 K (rI0 fun i j => .bl (g i j)) (gB g) := fun x y z h => by
  unfold gB at h
  split at h
  · cases h
    exact r_Ib
  · exact nomatch h
theorem o_eq : Op2 K rEq gEq := fun x y z h => by
  unfold gEq at h
  split at h
  · cases h
    exact r_eqI
  · cases h
    exact r_eqS
  · cases h
    exact r_eqB
  · exact nomatch h
theorem o_ne : Op2 K rNe gNe := fun x y z h => by
  unfold gNe at h
  split at h
  · cases h
    exact r_neI
  · cases h
    exact r_neS
  · exact nomatch h
theorem o_neg : Op1 K (rU fun i => .int (-i)) gNeg := fun x z h => by
  unfold gNeg at h
  split at h
  · cases h
    exact r1_neg
  · exact nomatch h
theorem o_ixL : Op2 K (rIxL K) gIxL := fun x y z h => by
  unfold gIxL at h
  split at h
  · exact r_ixL h
  · exact nomatch h
theorem o_ixT : Op2 K (rIxT K) gIxT := fun x y z h => by
  unfold gIxT at h
  split at h
  · exact r_ixT h
  · exact nomatch h
theorem o_cat : Op2 K rCat gCat := fun x y z h => by
  unfold gCat at h
  split at h
  · next ds es =>
    split at h
    · next e =>
      cases h
      exact r_cat (of_decide_eq_true e)
    · exact nomatch h
  · exact nomatch h
theorem o_eqA : Op2 K (rEqA K) gEqA := fun x y z h => by
  unfold gEqA at h
  split at h
  · next e =>
    cases h
    rw [Bool.and_eq_true] at e
    exact r_eqA e.1 e.2
  · exact nomatch h
theorem o_neA : Op2 K (rNeA K) gNeA := fun x y z h => by
  unfold gNeA at h
  split at h
  · next e =>
    cases h
    rw [Bool.and_eq_true] at e
    exact r_neA e.1 e.2
  · exact nomatch h
theorem c_len : OpC K (rLen K) gLen := fun xs z h => by
  unfold gLen at h
  split at h
  · cases h
    exact rc_lenL
  · cases h
    exact rc_lenT
  · exact nomatch h
theorem boolsOf_cons {b : Bool} {ds : List PyData} {bs : List Bool} (h : boolsOf (.bool b :: ds) = some bs) : ∃ cs, boolsOf ds = some cs ∧ bs = b :: cs := by
  have h' : (match boolsOf ds with | some bs => some (b :: bs) | none => none) = some bs := h
  cases e : boolsOf ds with
  | none => rw [e] at h'; exact nomatch h'
  | some cs => rw [e] at h'; exact ⟨cs, rfl, (Option.some.inj h').symm⟩
theorem boolsOf_eq : ∀ {ds : List PyData} {bs : List Bool}, boolsOf ds = some bs → ds = bs.map PyData.bool
  | [], bs, h => by
    cases h
    rfl
  | .bool b :: ds, bs, h => by
    obtain ⟨cs, e, rfl⟩ := boolsOf_cons h
    rw [boolsOf_eq e]
    rfl
  | .none :: _, _, h => nomatch h
  | .int _ :: _, _, h => nomatch h
  | .str _ :: _, _, h => nomatch h
  | .list _ :: _, _, h => nomatch h
  | .tuple _ :: _, _, h => nomatch h
  | .dict _ :: _, _, h => nomatch h
theorem c_all : OpC K (rAll K) gAll := fun xs z h => by
  unfold gAll at h
  split at h
  · split at h
    · next bs e =>
      cases h
      rw [boolsOf_eq e]
      exact rc_all
    · exact nomatch h
  · exact nomatch h
def gIc (c : Int → Int → Bool) (g : Int → Int → Int) : PyData → PyData → Option PyData
  | .int i, .int j => match c i j with
    | true => some (.int (g i j))
    | false => none
  | _, _ => none
theorem o_Ic {C : Int → Int → Prop} {c : Int → Int → Bool} {g : Int → Int → Int} (h : ∀ i j, c i j = true → C i j) : Op2 K (rI C fun i j => .int (g i j)) (gIc c g) := fun x y z e => by
  unfold gIc at e
  split at e
  · next i j =>
    split at e
    · next hc =>
      cases e
      exact r_IC (h i j hc)
    · exact nomatch e
  · exact nomatch e
def gUI (g : Int → Int) : PyData → Option PyData
  | .int i => some (.int (g i))
  | _ => none
theorem o_U {g : Int → Int} : Op1 K (rU fun i => .int (g i)) (gUI g) := fun x z h => by
  unfold gUI at h
  split at h
  · cases h
    exact fun v B H s hd Q q => by
      cases hd
      exact ⟨_, rfl, q _ B H (Le.rfl' s) (.int _)⟩
  · exact nomatch h
def intsOf : List PyData → Option (List Int)
  | [] => some []
  | .int b :: ds => match intsOf ds with
    | some bs => some (b :: bs)
    | none => none
  | _ => none
theorem intsOf_cons {b : Int} {ds : List PyData} {bs : List Int} (h : intsOf (.int b :: ds) = some bs) : ∃ cs, intsOf ds = some cs ∧ bs = b :: cs := by
  have h' : (match intsOf ds with | some bs => some (b :: bs) | none => none) = some bs := h
  cases e : intsOf ds with
  | none => rw [e] at h'; exact nomatch h'
  | some cs => rw [e] at h'; exact ⟨cs, rfl, (Option.some.inj h').symm⟩
theorem intsOf_eq : ∀ {ds : List PyData} {bs : List Int}, intsOf ds = some bs → ds = bs.map PyData.int
  | [], bs, h => by
    cases h
    rfl
  | .int b :: ds, bs, h => by
    obtain ⟨cs, e, rfl⟩ := intsOf_cons h
    rw [intsOf_eq e]
    rfl
  | .none :: _, _, h => nomatch h
  | .bool _ :: _, _, h => nomatch h
  | .str _ :: _, _, h => nomatch h
  | .list _ :: _, _, h => nomatch h
  | .tuple _ :: _, _, h => nomatch h
  | .dict _ :: _, _, h => nomatch h
theorem intsOf_map : ∀ (ns : List Int), intsOf (ns.map PyData.int) = some ns
  | [] => rfl
  | n :: ns => by
    show (match intsOf (ns.map PyData.int) with | some bs => some (n :: bs) | none => none) = some (n :: ns)
    rw [intsOf_map ns]
theorem ydas_ints {B : Hp} : ∀ {vs : List V} {ns : List Int}, Das K B vs (ns.map PyData.int) → vs = ns.map V.int
  | [], [], _ => rfl
  | v :: vs, n :: ns, h => by
    obtain ⟨v', r, e, a, t⟩ := h.inv1
    cases e
    cases a
    rw [ydas_ints t]
    rfl
end
section
variable {K : Fg} {cl : Nat → Addr} {E : XK} {m : Nat} {O : Nat → Bool} {ta tb te tk : TE} {fa fb fe fk : En → ER} {al : TA} {fl : En → AR} {ks : List AK} {t : TS} {f : En → SR} {ρ ρ1 : En} {r : R2} {W : OW}
def eIsi (T : String) (fa : En → ER) (ρ : En) : ER := eThen (fa ρ) fun x ρ1 => .v (.bool (isT T x)) ρ1
theorem ye_isi {T : String} (ha : YE K cl E m O ta fa) (hT : T = "int" ∨ T = "bool" ∨ T = "list" ∨ T = "tuple" ∨ T = "str" := by simp) : YE K cl E m O (tCB (rIsi K) (tCons ta (tCons (tC (.ty T)) tNil))) (eIsi T fa) := fun ρ =>
  ey_then (ha ρ) (fun σ H Q z => z _) fun x ρ1 m1 hx => ⟨m1, fun σ B H W s sd Q q => hx σ B H W s sd _ fun v B1 H1 W1 l1 s1 d1 => ⟨v, .ty T, _, _, isT T x, rfl, .ty T, da_ty (d1.ex l1.sub), kitT hT, q _ B1 H1 W1 l1 s1 (.bl _)⟩⟩
def ownL (i : Nat) (ρ : En) : Option (List PyData) := match ρ[i]? with
  | some (some (.list xs)) => some xs
  | _ => none
theorem ownL_eq {i : Nat} {xs : List PyData} (h : ownL i ρ = some xs) : ρ[i]? = some (some (.list xs)) := by
  unfold ownL at h
  split at h
  · next ys e =>
    cases h
    exact e
  · exact nomatch h
theorem own_list {i : Nat} {xs : List PyData} {σ : L2.St} {B H : Hp} (sd : SDo K O σ B H ρ W) (hO : O i = true) (h : ownL i ρ = some xs) : ∃ p vs, σ[i]? = some (some (.ref p)) ∧ (B p = none ∧ W i p) ∧ H p = some (.lst vs) ∧ Das K B vs xs := by
  obtain ⟨p, e, q, vs, hp, hv⟩ := sd.own i _ hO (ownL_eq h)
  exact ⟨p, vs, e, ⟨(sd.bh i p q).1, q⟩, hp, hv⟩
def sApp (i : Nat) (fe : En → ER) (ρ : En) : SR := match ownL i ρ with
  | none => .st
  | some _ => sE (fe ρ) fun d ρ1 => match ownL i ρ1 with
    | none => .st
    | some xs => match decide (xs.length ≤ 90000) with
      | true => .nx (ρ1.set i (some (.list (xs ++ [d]))))
      | false => .st
theorem ys_app {i : Nat} (he : YE K cl E m O te fe) (hO : O i = true := by rfl) : YS K cl E m O (tDrop (tBM K "list" rAppend (tVar i) (tCons te tNil))) (sApp i fe) := fun ρ => by
  unfold sApp
  cases h0 : ownL i ρ with
  | none => exact .stuck
  | some xs0 =>
    refine sy_E he (fun σ B H W D sd z => ?_) fun d ρ1 m1 hd => ?_
    · obtain ⟨p, vs, e, n, hp, hv⟩ := own_list sd hO h0
      exact ⟨.ref p, e, .inl ⟨rfl, vs, SqL.of hp⟩, z _⟩
    · cases h1 : ownL i ρ1 with
      | none => exact .stuck
      | some xs =>
        show SOy K cl E m O _ ρ (match decide (xs.length ≤ 90000) with | true => .nx (ρ1.set i (some (.list (xs ++ [d])))) | false => .st)
        cases h2 : decide (xs.length ≤ 90000) with
        | false => exact .stuck
        | true =>
          have h2 := of_decide_eq_true h2
          refine ⟨fun _ _ h => (nomatch h), fun σ B H W D s sd q => ?_⟩
          obtain ⟨p0, vs0, e0, n0, hp0, hv0⟩ := own_list sd hO h0
          refine ⟨.ref p0, e0, .inl ⟨rfl, vs0, SqL.of hp0⟩, hd σ B H W s sd _ fun v B1 H1 W1 l1 s1 d1 => ?_⟩
          obtain ⟨p, vs, e, n, hp, hv⟩ := own_list s1 hO h1
          rw [e0] at e
          cases e
          refine ⟨p0, vs, v, rfl, rfl, hp, Evl.sz_lt (by rw [hv.len]; omega), ?_⟩
          obtain ⟨s2, l2⟩ := s1.chg (d' := .list (xs ++ [d])) (o := .lst (vs ++ [v])) l1.sub i hO (ownL_eq h1) e0 ⟨n.2, _, upd_same, hv.app (.cons d1 .nil)⟩
          exact q σ B1 _ _ (l1.mo l2 m1) s2 fun _ _ => rfl
def eIxO (i : Nat) (fk : En → ER) (ρ : En) : ER := match ownL i ρ with
  | none => .st
  | some _ => eThen (fk ρ) fun k ρ1 => match k with
    | .int (.ofNat n) => match ownL i ρ1 with
      | some xs => match xs[n]? with
        | some d => .v d ρ1
        | none => .st
      | none => .st
    | _ => .st
theorem ye_ixO {i : Nat} (hk : YE K cl E m O tk fk) (hO : O i = true := by rfl) : YE K cl E m O (tOp (rIxL K) (tVar i) tk) (eIxO i fk) := fun ρ => by
  unfold eIxO
  cases h0 : ownL i ρ with
  | none => trivial
  | some xs0 =>
    have a := hk ρ
    show EOy K cl E m O _ ρ (eThen (fk ρ) _)
    unfold eThen
    cases h : fk ρ with
    | st => trivial
    | o d ρ1 => trivial
    | x c j =>
      rw [h] at a
      refine ⟨a.1, fun σ B H W s sd v hv w Q => ?_⟩
      obtain ⟨p, vs, e, n, hp, hv2⟩ := own_list sd hO h0
      exact ⟨.ref p, e, a.2 σ B H W s sd v hv w _⟩
    | v k ρ1 =>
      rw [h] at a
      show EOy K cl E m O _ ρ (match (generalizing := false) k with | .int (.ofNat n) => (match ownL i ρ1 with | some xs => (match xs[n]? with | some d => .v d ρ1 | none => .st) | none => .st) | _ => .st)
      split
      · next n =>
        split
        · next xs h1 =>
          split
          · next d h2 =>
            refine ⟨a.1, fun σ B H W s sd Q q => ?_⟩
            obtain ⟨p0, vs0, e0, n0, hp0, hv0⟩ := own_list sd hO h0
            refine ⟨.ref p0, e0, a.2 σ B H W s sd _ fun v B1 H1 W1 l1 s1 d1 => ?_⟩
            cases d1
            obtain ⟨p, vs, e, n1, hp, hv⟩ := own_list s1 hO h1
            rw [e0] at e
            cases e
            obtain ⟨u, hu, du⟩ := hv.getD h2
            exact ⟨p0, vs, _, u, rfl, rfl, SqL.of hp, atI_nat hu, q u B1 H1 W1 l1 s1 du⟩
          · trivial
        · trivial
      · trivial
def eLenO (i : Nat) (ρ : En) : ER := match ownL i ρ with
  | some xs => .v (.int xs.length) ρ
  | none => .st
theorem ye_lenO {i : Nat} (hO : O i = true := by rfl) : YE K cl E m O (tCB (rLen K) (tCons (tVar i) tNil)) (eLenO i) := fun ρ => by
  unfold eLenO
  split
  · next xs h =>
    refine ⟨Mo.rfl', fun σ B H W s sd Q q => ?_⟩
    obtain ⟨p, vs, e, n, hp, hv⟩ := own_list sd hO h
    exact ⟨.ref p, e, p, vs, rfl, .inl (SqL.of hp), by rw [hv.len]; exact q _ B H W (Go.rfl' s) sd (.int _)⟩
  · trivial
def sSetO (i : Nat) (fk fe : En → ER) (ρ : En) : SR := sE (fe ρ) fun d ρ1 => match ownL i ρ1 with
  | none => .st
  | some _ => sE (fk ρ1) fun k ρ2 => match k with
    | .int (.ofNat n) => match ownL i ρ2 with
      | some xs => match decide (n < xs.length) with
        | true => .nx (ρ2.set i (some (.list (xs.set n d))))
        | false => .st
      | none => .st
    | _ => .st
theorem Das.set {B : Hp} {v : V} {d : PyData} : ∀ {vs : List V} {ds : List PyData} {n : Nat}, Das K B vs ds → Da K B v d → Das K B (vs.set n v) (ds.set n d)
  | [], [], n, _, _ => by
    rw [List.set_nil, List.set_nil]
    exact .nil
  | u :: vs, e :: ds, 0, h, hd => by
    cases h with
    | cons a t => exact .cons hd t
  | u :: vs, e :: ds, n + 1, h, hd => by
    cases h with
    | cons a t => exact .cons a (Das.set t hd)
theorem ixN_nat {n l : Nat} (h : n < l) : ixN l (n : Int) = some n := by
  unfold ixN
  rw [if_pos (by omega), if_pos (by omega)]
  rfl
theorem ys_setO {i : Nat} (he : YE K cl E m O te fe) (hk : YE K cl E m O tk fk) (hO : O i = true := by rfl) : YS K cl E m O (tAsg te (gSub (tVar i) tk rSetL)) (sSetO i fk fe) := fun ρ => by
  unfold sSetO
  refine sy_E he (fun σ B H W D sd z => z _) fun d ρ1 m1 hd => ?_
  cases h1 : ownL i ρ1 with
  | none => exact .stuck
  | some xs1 =>
    have a := hk ρ1
    show SOy K cl E m O _ ρ (sE (fk ρ1) _)
    unfold sE
    cases h : fk ρ1 with
    | st => exact .stuck
    | o k ρ2 => exact .stuck
    | x c j =>
      rw [h] at a
      refine .raise a.1 fun σ B H W D s sd v hv w => hd σ B H W s sd _ fun u B1 H1 W1 l1 s1 d1 => ?_
      obtain ⟨p, vs, e, n, hp, hv2⟩ := own_list s1 hO h1
      exact ⟨.ref p, e, a.2 σ B1 H1 W1 l1.sub s1 v hv (w.behind l1 m1) _⟩
    | v k ρ2 =>
      rw [h] at a
      show SOy K cl E m O _ ρ (match (generalizing := false) k with | .int (.ofNat n) => (match ownL i ρ2 with | some xs => (match decide (n < xs.length) with | true => .nx (ρ2.set i (some (.list (xs.set n d)))) | false => .st) | none => .st) | _ => .st)
      split
      · next n =>
        split
        · next xs h2 =>
          split
          · next h3 =>
            have h3 := of_decide_eq_true h3
            refine ⟨fun _ _ h => (nomatch h), fun σ B H W D s sd q => hd σ B H W s sd _ fun u B1 H1 W1 l1 s1 d1 => ?_⟩
            obtain ⟨p1, vs1, e1, n1, hp1, hv1⟩ := own_list s1 hO h1
            refine ⟨.ref p1, e1, a.2 σ B1 H1 W1 l1.sub s1 _ fun v B2 H2 W2 l2 s2 d2 => ?_⟩
            cases d2
            obtain ⟨p, vs, e, n2, hp, hv⟩ := own_list s2 hO h2
            rw [e1] at e
            cases e
            refine ⟨p1, vs, _, n, rfl, rfl, hp, ixN_nat (by rw [hv.len]; exact h3), ?_⟩
            obtain ⟨s3, l3⟩ := s2.chg (d' := .list (xs.set n d)) (o := .lst (vs.set n u)) l2.sub i hO (ownL_eq h2) e1 ⟨n2.2, _, upd_same, Das.set hv (d1.ex l2.ek)⟩
            exact q σ B2 _ _ ((l1.mo l2 m1).mo l3 (m1.tr a.1)) s3 fun _ _ => rfl
          · exact .stuck
        · exact .stuck
      · exact .stuck
def sAugO (i : Nat) (g : PyData → PyData → Option PyData) (fk fe : En → ER) (ρ : En) : SR := match ownL i ρ with
  | none => .st
  | some _ => sE (fk ρ) fun k ρ1 => match k with
    | .int (.ofNat n) => match ownL i ρ1 with
      | some xs => match xs[n]? with
        | some x => sE (fe ρ1) fun y ρ2 => match g x y with
          | some z => match ownL i ρ2 with
            | some ys => match decide (n < ys.length) with
              | true => .nx (ρ2.set i (some (.list (ys.set n z))))
              | false => .st
            | none => .st
          | none => .st
        | none => .st
      | none => .st
    | _ => .st
def rIxL0 (K : Fg) : V → V → Hp → VK → Prop := fun x y H Q => ∃ p xs n v, x = .ref p ∧ y = .int (n : Nat) ∧ SqL K H p xs ∧ xs[n]? = some v ∧ Q v H
theorem ys_augO {i : Nat} {g : PyData → PyData → Option PyData} (hr : Op2 K r g) (hk : YE K cl E m O tk fk) (he : YE K cl E m O te fe) (hO : O i = true := by rfl) : YS K cl E m O (tAugS (tVar i) tk te (rIxL0 K) r rSetL) (sAugO i g fk fe) := fun ρ => by
  unfold sAugO
  cases h0 : ownL i ρ with
  | none => exact .stuck
  | some xs0 =>
    refine sy_E hk (fun σ B H W D sd z => ?_) fun k ρ1 m1 hd => ?_
    · obtain ⟨p, vs, e, n, hp, hv⟩ := own_list sd hO h0
      exact ⟨.ref p, e, z _⟩
    · show SOy K cl E m O _ ρ (match (generalizing := false) k with | .int (.ofNat n) => _ | _ => .st)
      split
      · next n =>
        split
        · next xs h1 =>
          split
          · next x h2 =>
            have a := he ρ1
            unfold sE
            cases h : fe ρ1 with
            | st => exact .stuck
            | o y ρ2 => exact .stuck
            | x c j =>
              rw [h] at a
              refine .raise a.1 fun σ B H W D s sd v hv w => ?_
              obtain ⟨p0, vs0, e0, n0, hp0, hv0⟩ := own_list sd hO h0
              refine ⟨.ref p0, e0, hd σ B H W s sd _ fun u B1 H1 W1 l1 s1 d1 => ?_⟩
              cases d1
              obtain ⟨p, vs, e, n1, hp, hv1⟩ := own_list s1 hO h1
              rw [e0] at e
              cases e
              obtain ⟨u, hu, du⟩ := hv1.getD h2
              exact ⟨p0, vs, _, u, rfl, rfl, SqL.of hp, hu, a.2 σ B1 H1 W1 l1.sub s1 v hv (w.behind l1 m1) _⟩
            | v y ρ2 =>
              rw [h] at a
              show SOy K cl E m O _ ρ (match g x y with | some z => (match ownL i ρ2 with | some ys => (match decide (n < ys.length) with | true => .nx (ρ2.set i (some (.list (ys.set n z)))) | false => .st) | none => .st) | none => .st)
              split
              · next z hz =>
                split
                · next ys h3 =>
                  split
                  · next h4 =>
                    have h4 := of_decide_eq_true h4
                    refine ⟨fun _ _ h => (nomatch h), fun σ B H W D s sd q => ?_⟩
                    obtain ⟨p0, vs0, e0, n0, hp0, hv0⟩ := own_list sd hO h0
                    refine ⟨.ref p0, e0, hd σ B H W s sd _ fun u B1 H1 W1 l1 s1 d1 => ?_⟩
                    cases d1
                    obtain ⟨p, vs, e, n1, hp, hv1⟩ := own_list s1 hO h1
                    rw [e0] at e
                    cases e
                    obtain ⟨u, hu, du⟩ := hv1.getD h2
                    refine ⟨p0, vs, n, u, rfl, rfl, SqL.of hp, hu, a.2 σ B1 H1 W1 l1.sub s1 _ fun v B2 H2 W2 l2 s2 d2 => hr x y z hz u v B2 H2 l2.sub (du.ex l2.ek) d2 _ fun w B3 H3 l3 d3 => ?_⟩
                    have s3 := s2.le l3
                    obtain ⟨p, vs3, e, n3, hp3, hv3⟩ := own_list s3 hO h3
                    rw [e0] at e
                    cases e
                    refine ⟨p0, vs3, _, n, rfl, rfl, hp3, ixN_nat (by rw [hv3.len]; exact h4), ?_⟩
                    obtain ⟨s4, l4⟩ := s3.chg (d' := .list (ys.set n z)) (o := .lst (vs3.set n w)) l3.sub i hO (ownL_eq h3) e0 ⟨n3.2, _, upd_same, Das.set hv3 d3⟩
                    exact q σ B3 _ _ (((l1.mo l2 m1).mo l3.o (m1.tr a.1)).mo l4 (m1.tr a.1)) s4 fun _ _ => rfl
                  · exact .stuck
                · exact .stuck
              · exact .stuck
          · exact .stuck
        · exact .stuck
      · exact .stuck
end
section
variable {P : Program} {w : World} {K : Fg} {mg : Str → Option Value} {base : Heap} {x : Str} {ps N : List Str} {k m : Nat} {st : Stmt} {cl : Nat → Addr} {O : Nat → Bool}
theorem fy_fnC {f : En → SR} {f' : Addr} {fd : FuncData} (op : Option Nat) (FG : ∀ {sp : Sp}, (∀ vs H Q E, sp vs H Q E → vs.length = ps.length) →
      (∀ (cdv : Value) (A : Around) (outer : List Env) (s : Shared) (H : Hp) (vs : List V) (Q : VK) (E : XK), A.guards = some [] → Room k (A.deeper (envOfC x (defScope st) s.heap.objs.size f' cdv)) → sp vs H Q E →
        ∃ t, PSs (cxOf (L2.CX P w) P w K mg base N x (defScope st) f' cdv A outer s H E) (defBody st) t ∧ t { nx := fun _ H' => Q .non H', rt := Q } (L2.start N vs) H) → FnG P w K mg base (L2.CX P w) (k + 1) f' fd ps sp)
    (hO : ∀ j, j < ps.length → (O j = true ↔ op = some j)) (hop : ∀ j, op = some j → j < m ∧ j < ps.length)
    (body : ∀ (f' : Addr) (cdv : Value) (A : Around) (outer : List Env) (s : Shared) (H : Hp) (E : XK), A.guards = some [] → Room k (A.deeper (envOfC x (defScope st) s.heap.objs.size f' cdv)) →
      Takes (cxOf (L2.CX P w) P w K mg base N x (defScope st) f' cdv A outer s H E) (fun c d _ H => E c d H) →
      ∃ t, PSs (cxOf (L2.CX P w) P w K mg base N x (defScope st) f' cdv A outer s H E) (defBody st) t ∧ YS K cl E m O t f) : FnG P w K mg base (L2.CX P w) (k + 1) f' fd ps (SpY K cl op (fnY ps.length N.length op f)) := by
  have len : ∀ {ds : List PyData}, fnY ps.length N.length op f ds ≠ .st → ds.length = ps.length := fun {ds} n => by
    unfold fnY at n
    split at n
    · exact (n rfl).elim
    · next e => exact of_decide_eq_true e
  refine FG ?_ ?_
  · rintro vs H Q E ⟨B, ds, A, _, ⟨hl, _⟩, _, r⟩
    refine hl.trans (len fun z => ?_)
    rw [z] at r
    exact r
  intro cdv A outer s H vs Q E gu hr ⟨B, ds, A0, sx, ⟨hl, hargs, hA⟩, hno, r⟩
  obtain ⟨t, ht, hy⟩ := body f' cdv A outer s H E gu hr (takes_of rfl rfl rfl rfl)
  refine ⟨t, ht, ?_⟩
  have hds : ds.length = ps.length := len fun z => by rw [z] at r; exact r
  have hvl : vs.length = ps.length := hl.trans hds
  have ent : ∀ {i : Nat} {d : PyData}, (ds.map some ++ List.replicate (N.length - ps.length) none)[i]? = some (some d) → i < ds.length ∧ ds[i]? = some d := fun {i d} e => by
    by_cases hi : i < ds.length
    · rw [List.getElem?_append_left (by rw [List.length_map]; exact hi), List.getElem?_map] at e
      obtain ⟨d2, e1, e2⟩ := Option.map_eq_some_iff.mp e
      cases e2
      exact ⟨hi, e1⟩
    · rw [List.getElem?_append_right (by rw [List.length_map]; omega), List.getElem?_replicate] at e
      split at e <;> cases e
  have sta : ∀ {i : Nat} {v : V}, i < ds.length → vs[i]? = some v → (L2.start N vs)[i]? = some (some v) := fun {i v} hi e => by
    unfold L2.start
    rw [List.getElem?_append_left (by rw [List.length_map]; omega), List.getElem?_map, e]
    rfl
  have sd : SDo K O (L2.start N vs) B H (ds.map some ++ List.replicate (N.length - ps.length) none) (fun i a => op = some i ∧ A0 a) := by
    refine ⟨by unfold L2.start; rw [List.length_append, List.length_append, List.length_map, List.length_map, List.length_replicate, List.length_replicate, hvl, hds], fun i d h1 h2 => ?_, fun i d h1 h2 => ?_, fun i a h => hA a h.2, fun i j a h1 h2 => Option.some.inj (h1.1.symm.trans h2.1)⟩
    · obtain ⟨hi, e⟩ := ent h2
      obtain ⟨v, e1, e2, e3⟩ := hargs i d e
      exact ⟨v, sta hi e1, .inl (e2 fun z => by
        have := (hO i (by omega)).mpr z
        rw [h1] at this
        exact nomatch this)⟩
    · obtain ⟨hi, e⟩ := ent h2
      obtain ⟨v, e1, e2, e3⟩ := hargs i d e
      have e6 := (hO i (by omega)).mp h1
      obtain ⟨p, rfl, e5⟩ := e3 e6
      exact ⟨p, sta hi e1, e5.mono fun a z => ⟨e6, z⟩⟩
  have waA : ∀ p, WA (fun i a => op = some i ∧ A0 a) p → A0 p := fun p ⟨_, _, z⟩ => z
  have fin : ∀ {ρ' : En} {σ' : L2.St} {B' H' : Hp} {W' : OW}, stands op ρ' = true → SDo K O σ' B' H' ρ' W' → (∀ i, i < m → σ'[i]? = (L2.start N vs)[i]?) → Go (fun i a => op = some i ∧ A0 a) B H W' B' H' → ∃ A' : Addr → Prop, (∀ p, AV op vs p → Own K B' H' p A' (endOf op ρ')) ∧ Then A0 H A' B' H' ∧ ∀ a, A' a → WA W' a := fun {ρ' σ' B' H' W'} hst s' k l => by
    cases op with
    | none => exact ⟨fun _ => False, (fun p ⟨j, e, _⟩ => nomatch e), (fun a z => z.elim), fun _ z => z.elim⟩
    | some j =>
      refine ⟨W' j, fun p ⟨j', e, hv⟩ => ?_, fun a z => ⟨(s'.bh j a z).1, (s'.bh j a z).2, (l.own a ⟨j, z⟩).imp (waA a) id⟩, fun a z => ⟨j, z⟩⟩
      cases e
      obtain ⟨jm, jl⟩ := hop j rfl
      unfold stands at hst
      unfold endOf
      cases e : ρ'[j]? with
      | none =>
        simp only [e] at hst
        exact nomatch hst
      | some o =>
        cases o with
        | none =>
          simp only [e] at hst
          exact nomatch hst
        | some c =>
          have hOj := (hO j jl).mpr rfl
          obtain ⟨p', e1, e3⟩ := s'.own j c hOj e
          have e4 := (k j jm).trans (sta (by omega) hv)
          rw [e4] at e1
          cases e1
          simp only [e]
          exact e3
  have hz := hy (ds.map some ++ List.replicate (N.length - ps.length) none)
  have rF : fnY ps.length N.length op f ds = finY op (f (ds.map some ++ List.replicate (N.length - ps.length) none)) := by
    unfold fnY
    rw [show decide (ds.length = ps.length) = true from decide_eq_true hds]
  rw [rF] at r
  refine hz.2 _ B H _ _ sx sd ?_
  cases e : f (ds.map some ++ List.replicate (N.length - ps.length) none) with
  | st => rw [e] at r; exact r
  | br _ => rw [e] at r; exact r.elim
  | ct _ => rw [e] at r; exact r.elim
  | ret d ρ' =>
    rw [e] at r
    cases e2 : stands op ρ' with
    | false =>
      rw [show finY op (.ret d ρ') = .st by simp only [finY, e2]] at r
      exact r.elim
    | true =>
      rw [show finY op (.ret d ρ') = .v d (endOf op ρ') by simp only [finY, e2]] at r
      intro v σ' B' H' W' l s' k hd
      obtain ⟨A', f1, f2, _⟩ := fin e2 s' k l
      exact r v B' H' A' (l.toLeO.to fun p z => .inl (waA p z)) hd f1 f2
  | nx ρ' =>
    rw [e] at r
    cases e2 : stands op ρ' with
    | false =>
      rw [show finY op (.nx ρ') = .st by simp only [finY, e2]] at r
      exact r.elim
    | true =>
      rw [show finY op (.nx ρ') = .v .none (endOf op ρ') by simp only [finY, e2]] at r
      intro σ' B' H' W' l s' k
      obtain ⟨A', f1, f2, _⟩ := fin e2 s' k l
      exact r .non B' H' A' (l.toLeO.to fun p z => .inl (waA p z)) .non f1 f2
  | reto d ρ' =>
    rw [e] at r
    cases e2 : stands op ρ' with
    | false =>
      rw [show finY op (.reto d ρ') = .st by simp only [finY, e2]] at r
      exact r.elim
    | true =>
      rw [show finY op (.reto d ρ') = .o d (endOf op ρ') by simp only [finY, e2]] at r
      intro p A2 σ' B' H' W' l s' k ow n
      obtain ⟨A', f1, f2, f3⟩ := fin e2 s' k l
      exact r p A2 B' H' A' (l.toLeO.to fun p z => .inl (waA p z)) ow (fun a z => let ⟨n1, n2, n3, n4⟩ := n a z; ⟨n1, n2, fun y => n3 (f3 a y), n4.imp (waA a) id⟩) f1 f2
  | x c i =>
    rw [e] at r
    obtain ⟨v, hv, hx⟩ := r
    have hi : i < ds.length := by
      rw [← hl]
      exact (List.getElem?_eq_some_iff.mp hv).1
    exact ⟨v, sta hi hv, fun x B' H' l => hx x B' H' (l.to fun p z => .inl (waA p z))⟩
theorem fy_fn {y : Str} {f : En → SR} {f' : Addr} {fd : FuncData} (op : Option Nat) (F : Fun K y x st f' fd) (S : FnScope N ps (defScope st))
    (hO : ∀ j, j < ps.length → (O j = true ↔ op = some j)) (hop : ∀ j, op = some j → j < m ∧ j < ps.length)
    (body : ∀ (f' : Addr) (cdv : Value) (A : Around) (outer : List Env) (s : Shared) (H : Hp) (E : XK), A.guards = some [] → Room k (A.deeper (envOfC x (defScope st) s.heap.objs.size f' cdv)) →
      Takes (cxOf (L2.CX P w) P w K mg base N x (defScope st) f' cdv A outer s H E) (fun c d _ H => E c d H) →
      ∃ t, PSs (cxOf (L2.CX P w) P w K mg base N x (defScope st) f' cdv A outer s H E) (defBody st) t ∧ YS K cl E m O t f) : FnG P w K mg base (L2.CX P w) (k + 1) f' fd ps (SpY K cl op (fnY ps.length N.length op f)) := fy_fnC op (fun ln bd => fnG F S ln bd) hO hop body
theorem fy_mk {f : En → SR} (op : Option Nat) (a : At K mg x st) (S : FnScope N ps (defScope st))
    (hb : ∀ (kV doc pm : Value) (an : Option Addr) (cdv ct : Value) (us : List Value), us.length = ps.length → bindArgs (PySem.W.fnOf x x (defArgs st) (defBody st) (defScope st) .none kV doc pm an cdv ct) ⟨us, []⟩ = pure (ps.zip us))
    (hO : ∀ j, j < ps.length → (O j = true ↔ op = some j)) (hop : ∀ j, op = some j → j < m ∧ j < ps.length)
    (body : ∀ (f' : Addr) (cdv : Value) (A : Around) (outer : List Env) (s : Shared) (H : Hp) (E : XK), A.guards = some [] → Room k (A.deeper (envOfC x (defScope st) s.heap.objs.size f' cdv)) →
      Takes (cxOf (L2.CX P w) P w K mg base N x (defScope st) f' cdv A outer s H E) (fun c d _ H => E c d H) →
      ∃ t, PSs (cxOf (L2.CX P w) P w K mg base N x (defScope st) f' cdv A outer s H E) (defBody st) t ∧ YS K cl E m O t f) : Fx P w K mg base x ps (k + 1) (SpY K cl op (fnY ps.length N.length op f)) := by
  obtain ⟨f', fd, F, hm⟩ := a
  exact ⟨f', fd, hm, F.kp, F.binds hb, fy_fn op F S hO hop body⟩
end
end TD
set_option maxHeartbeats 4000000
namespace TD
open PySem PySem.Spec PyProof.Rows L2
section
variable {P : Program} {w : World} {A : Around} {E : Value → Shared → Prop} {s : Shared}
def EnO (h : Heap) (e it : Addr) (i : Int) (old : Value) (a : Addr) : Prop := ∃ b : Bool, h.get? e = some { cls := Value.type "enumerate", data := Data.fields #[rawInt ↑a, Value.bool b, Value.ref it, rawInt i, Value.none, old] }
theorem enum_len : typeLookup (Value.type "enumerate") (Str.ofString "__len__") = pure none := by rfl
theorem enum_hint : typeLookup (Value.type "enumerate") (Str.ofString "__length_hint__") = pure none := by rfl
theorem hint_enum {e : Addr} {Q : Bool → Shared → Prop} (h : s.TypeIs (.ref e) "enumerate") (q : Q true s) : wpAny (model P w) A (Builtin.List.listLengthHint (.ref e)) Q E s := by
  unfold Builtin.List.listLengthHint
  refine wpAny_bind (wpAny_specialOf h enum_len ?_)
  exact wpAny_bind (wpAny_specialOf h enum_hint (wpAny_pure q))
theorem free_out {e it a : Addr} {i : Int} {old : Value} {Q : Bool → Shared → Prop} (he : EnO s.heap e it i old a) (ha : ∃ o, s.heap.get? a = some o) (q : ∀ h' : Heap, EnO h' e it i old a → (∀ b o, b ≠ e → s.heap.get? b = some o → h'.get? b = some o) → h'.objs.size = s.heap.objs.size → Q false { heap := h', gens := s.gens, drawn := s.drawn, toks := s.toks, os := s.os }) : wpAny (model P w) A (Builtin.SmallTypes.ownedTupleIsFree (.ref e)) Q E s := by
  obtain ⟨b, he⟩ := he
  obtain ⟨o, ha⟩ := ha
  unfold Builtin.SmallTypes.ownedTupleIsFree
  refine wpAny_bind (wpAny_field he rfl rfl ?_)
  refine wpAny_bind (W.kdx_alive ha ?_)
  refine wpAny_bind (wpAny_field he rfl rfl ?_)
  cases b with
  | true => exact wpAny_pure (q s.heap ⟨true, he⟩ (fun _ _ _ h => h) rfl)
  | false => exact wpAny_bind (wpAny_setField_rec he (show 1 < 6 by decide) fun h' h1 h2 => wpAny_pure (q h' ⟨true, h1⟩ (fun b o n z => (h2.2 b n).trans z) h2.1))
theorem enum_next_out {e it l a : Addr} {i : Nat} {items : Array Value} {x old : Value} {Q : Value → Shared → Prop} (he : EnO s.heap e it i old a) (hi : s.heap.IsListIter it l i) (hl : s.heap.IsList l items) (hx : items[i]? = some x) (ne : e ≠ it) (nl : l ≠ e) (ha : ∃ o, s.heap.get? a = some o) (hea : a ≠ it)
    (q : ∀ (h' : Heap) (T : Addr) (u : Tok), EnO h' e it (i + 1) old a → h'.IsListIter it l (i + 1) → s.heap.objs.size ≤ T → h'.get? T = some { cls := Value.type "tuple", data := Data.seq #[Value.int (↑i) u, x] } → (∀ (b : Addr) (o : Obj), b ≠ e → b ≠ it → s.heap.get? b = some o → h'.get? b = some o) → Q (.ref T) { heap := h', gens := s.gens, drawn := s.drawn, toks := s.toks + 1, os := s.os }) :
    wpAny (model P w) A (Builtin.«enumerate.__next__» { pos := [.ref e] }) (fun fin s' => ∃ v, fin = PySem.Fin.done (Flow.ret v) ∧ Q v s') E s := by
  obtain ⟨b, he⟩ := he
  unfold Builtin.«enumerate.__next__»
  refine wpAny_bind (wpAny_pure (a := (Value.ref e, ([] : List Value))) ?_)
  refine wpAny_bind (wpAny_field he rfl rfl ?_)
  refine wpAny_bind (wpAny_nextOf_list_item hi hl hx fun h1 hi1 hs1 => ?_)
  have he1 := (hs1.2 e ne).trans he
  refine wpAny_bind (wpAny_field he1 rfl rfl ?_)
  refine wpAny_bind (wpAny_field he1 rfl rfl ?_)
  refine wpAny_bind (wpAny_mkInt ?_)
  refine wpAny_bind (wpAny_setField_rec he1 (show 3 < 6 by decide) fun h2 he2 hs2 => ?_)
  refine wpAny_bind (wpAny_setField_rec he2 (show 4 < 6 by decide) fun h3 he3 hs3 => ?_)
  refine wpAny_bind (wpAny_newTuple ?_)
  have k3 : ∀ (c : Addr) (o : Obj), c ≠ e → h1.get? c = some o → h3.get? c = some o := fun c o n z => (hs3.2 c n).trans ((hs2.2 c n).trans z)
  have n3 : h3.objs.size = s.heap.objs.size := hs3.1.trans (hs2.1.trans hs1.1)
  have k1 : ∀ (c : Addr) (o : Obj), c ≠ it → s.heap.get? c = some o → h1.get? c = some o := fun c o n z => (hs1.2 c n).trans z
  have ht : (h3.push { cls := Value.type "tuple", data := Data.seq #[Value.int (↑i) s.toks, x] }).get? h3.objs.size = some { cls := Value.type "tuple", data := Data.seq #[Value.int (↑i) s.toks, x] } := Heap.get?_push_size _ rfl
  have he4 : EnO (h3.push { cls := Value.type "tuple", data := Data.seq #[Value.int (↑i) s.toks, x] }) e it (↑i + 1) old a := ⟨b, Heap.get?_push_of_some _ he3⟩
  have nT : h3.objs.size ≠ e := fun z => by
    obtain ⟨b', e'⟩ := he4
    rw [z, e'] at ht
    injection ht with ht
    injection ht with hc
    exact nomatch hc
  obtain ⟨oa, ha⟩ := ha
  have ha3 : ∃ o, (h3.push { cls := Value.type "tuple", data := Data.seq #[Value.int (↑i) s.toks, x] }).get? a = some o := by
    by_cases z : a = e
    · obtain ⟨b', e'⟩ := he4
      exact ⟨_, by rw [z]; exact e'⟩
    · exact ⟨_, Heap.get?_push_of_some _ (k3 a oa z (k1 a oa hea ha))⟩
  refine wpAny_bind (free_out he4 ha3 fun h5 e5 k5 n5 => ?_)
  refine wpAny_pure ⟨_, rfl, q h5 h3.objs.size s.toks e5 ?_ (Nat.le_of_eq n3.symm) (k5 _ _ nT ht) fun c o n1 n2 z => k5 c o n1 (Heap.get?_push_of_some _ (k3 c o n1 (k1 c o n2 z)))⟩
  obtain ⟨o, o1, o2, o3⟩ := hi1
  exact ⟨o, k5 it o (Ne.symm ne) (Heap.get?_push_of_some _ (k3 it o (Ne.symm ne) o1)), o2, o3⟩
theorem EnO.type {e it a : Addr} {i : Int} {old : Value} (he : EnO s.heap e it i old a) : s.TypeIs (.ref e) "enumerate" := let ⟨_, h⟩ := he; ⟨_, h, rfl⟩
theorem next_out {e it l a : Addr} {i : Nat} {items : Array Value} {x old : Value} {Q : Option Value → Shared → Prop} (he : EnO s.heap e it i old a) (hi : s.heap.IsListIter it l i) (hl : s.heap.IsList l items) (hx : items[i]? = some x) (ne : e ≠ it) (nl : l ≠ e) (ha : ∃ o, s.heap.get? a = some o) (hea : a ≠ it)
    (q : ∀ (h' : Heap) (T : Addr) (u : Tok), EnO h' e it (i + 1) old a → h'.IsListIter it l (i + 1) → s.heap.objs.size ≤ T → h'.get? T = some { cls := Value.type "tuple", data := Data.seq #[Value.int (↑i) u, x] } → (∀ (b : Addr) (o : Obj), b ≠ e → b ≠ it → s.heap.get? b = some o → h'.get? b = some o) → Q (some (.ref T)) { heap := h', gens := s.gens, drawn := s.drawn, toks := s.toks + 1, os := s.os }) :
    wpAny (model P w) A (pyNext (.ref e)) Q E s := by
  unfold pyNext
  exact wpAny_bind (wpAny_attempt (wpAny_callSpecial?_slot he.type F.slot_enumerate_next (wpAny_call_entry F.slot_enumerate_next he.type F.entry_enumerate_next (enum_next_out he hi hl hx ne nl ha hea fun h' T u h1 h2 h3 h4 h5 => wpAny_pure (q h' T u h1 h2 h3 h4 h5)) (F.args_enumerate_next_1 _))))
theorem enum_end_out {e it l a : Addr} {i : Nat} {items : Array Value} {old : Value} {Q : Option Value → Shared → Prop} (hA : A.handled = none) (he : EnO s.heap e it i old a) (hi : s.heap.IsListIter it l i) (hl : s.heap.IsList l items) (hx : items[i]? = none) (q : ∀ (h' : Heap), Heap.ExtBut it s.heap h' → Q none { heap := h', gens := s.gens, drawn := s.drawn, toks := s.toks, os := s.os }) : wpAny (model P w) A (pyNext (.ref e)) Q E s := by
  obtain ⟨b, he⟩ := he
  have ty : s.TypeIs (.ref e) "enumerate" := ⟨_, he, rfl⟩
  unfold pyNext
  refine wpAny_bind (wpAny_attempt (wpAny_callSpecial?_slot ty F.slot_enumerate_next (wpAny_call_entry F.slot_enumerate_next ty F.entry_enumerate_next ?_ (F.args_enumerate_next_1 _))))
  unfold Builtin.«enumerate.__next__»
  refine wpAny_bind (wpAny_pure (a := (Value.ref e, ([] : List Value))) ?_)
  refine wpAny_bind (wpAny_field he rfl rfl ?_)
  refine wpAny_bind (wpAny_nextOf_list_end hA hi hl hx fun h1 ex k1 ⟨o, o1, o2⟩ => ?_)
  exact wpAny_bind (wpAny_isInstance (T := "StopIteration") ⟨o, o1, o2⟩ rfl (wpAny_pure (q h1 k1)))
def EnG (items : Array Value) (h : Heap) (as : List Addr) : Prop := ∀ (j : Nat) (T : Addr), as[j]? = some T → ∃ (u : Tok) (x : Value), items[j]? = some x ∧ h.get? T = some { cls := Value.type "tuple", data := Data.seq #[Value.int (↑j) u, x] }
theorem EnG.keep {items : Array Value} {h h' : Heap} {as : List Addr} (g : EnG items h as) (k : ∀ (b : Addr) (o : Obj), b ∈ as → h.get? b = some o → h'.get? b = some o) : EnG items h' as := fun j T e => by
  obtain ⟨u, x, e1, e2⟩ := g j T e
  exact ⟨u, x, e1, k T _ (List.mem_of_getElem? e) e2⟩
theorem EnG.more {items : Array Value} {h : Heap} {as : List Addr} {T : Addr} {u : Tok} {x : Value} (g : EnG items h as) (hx : items[as.length]? = some x) (ht : h.get? T = some { cls := Value.type "tuple", data := Data.seq #[Value.int (↑as.length) u, x] }) : EnG items h (as ++ [T]) := fun j T' e => by
  by_cases z : j < as.length
  · rw [List.getElem?_append_left z] at e
    exact g j T' e
  · rw [List.getElem?_append_right (by omega)] at e
    have : j = as.length := by
      rcases Nat.lt_or_ge (j - as.length) 1 with w | w
      · omega
      · rw [List.getElem?_eq_none (by simpa using w)] at e
        cases e
    subst this
    simp at e
    subst e
    exact ⟨u, x, hx, ht⟩
def EnA (h : Heap) (e it : Addr) (i : Nat) : Prop := (i = 0 ∧ IsEnum h e it 0 Value.none) ∨ ∃ old a o, EnO h e it i old a ∧ h.get? a = some o ∧ a ≠ it
theorem update_get {h : Heap} {S b : Addr} {acc : Array Value} {c : Nat} (hS : h.get? S = some { cls := Value.type "list", data := Data.seq acc c }) (f : Array Value → Array Value) : ∃ c', (h.update S (Obj.mapSeq f)).get? S = some { cls := Value.type "list", data := Data.seq (f acc) c' } := ⟨_, Heap.get?_update_self (Obj.mapSeq f) hS rfl⟩
theorem enum_loop {items : Array Value} {S e it l : Addr} (hA : A.handled = none) (Se : S ≠ e) (Si : S ≠ it) (ei : e ≠ it) (le : l ≠ e) (lS : l ≠ S) (hn : items.size ≤ sizeLine) (res : Value) {h0 : Heap} {R : Result → Shared → Prop} (n0 : S < h0.objs.size ∧ e < h0.objs.size ∧ it < h0.objs.size ∧ l < h0.objs.size)
    (done : ∀ (h' : Heap) (tk : Nat) (acc : Array Value) (c : Nat) (as : List Addr), (∀ (b : Addr) (o : Obj), b ≠ S → b ≠ e → b ≠ it → h0.get? b = some o → h'.get? b = some o) → h'.get? S = some { cls := Value.type "list", data := Data.seq acc c } → as.length = items.size → EnG items h' as → acc.toList = as.map Value.ref → as.Nodup → (∀ T ∈ as, h0.objs.size ≤ T) → R (Except.ok (Flow.ret res)) { heap := h', gens := s.gens, drawn := s.drawn, toks := tk, os := s.os }) :
    ∀ (k i : Nat) (h : Heap) (tk c : Nat) (acc : Array Value) (as : List Addr), items.size - i = k → i ≤ items.size → h.IsListIter it l i → h.IsList l items → EnA h e it i → (∀ (b : Addr) (o : Obj), b ≠ S → b ≠ e → b ≠ it → h0.get? b = some o → h.get? b = some o) → h.get? S = some { cls := Value.type "list", data := Data.seq acc c } → acc.toList = as.map Value.ref → as.length = i → EnG items h as → as.Nodup → (∀ T ∈ as, h0.objs.size ≤ T) → h0.objs.size ≤ h.objs.size →
      codeAny (model P w) A (Code.builtin "list.extend.loop" { pos := [Value.ref S, Value.ref e, res] }) R { heap := h, gens := s.gens, drawn := s.drawn, toks := tk, os := s.os } := by
  obtain ⟨nS, nE, nI, nL⟩ := n0
  replace nS : h0.objs.size > S := nS
  replace nE : h0.objs.size > e := nE
  replace nI : h0.objs.size > it := nI
  intro k
  induction k with
  | zero =>
    intro i h tk c acc as hk hi hit hl hen keep hS hacc has hG nd big sz
    have hi2 : i = items.size := by omega
    have hx : items[i]? = none := Array.getElem?_eq_none (by omega)
    refine codeAny_builtin F.entry_extend_loop ?_
    unfold Builtin.«list.extend.loop»
    have fin : ∀ h' : Heap, Heap.ExtBut it h h' → R (Except.ok (Flow.ret res)) { heap := h', gens := s.gens, drawn := s.drawn, toks := tk, os := s.os } := fun h' ex => done h' tk acc c as (fun b o b1 b2 b3 z => ex b o b3 (keep b o b1 b2 b3 z)) (ex S _ Si hS) (by omega) (hG.keep fun b o hb z => ex b o (fun q => by
      have := big b hb
      rw [q] at this
      omega) z) hacc nd big
    refine wpAny_bind ?_
    rcases hen with ⟨h0', hen⟩ | ⟨old, a, o, hen, ha, ne⟩
    · subst h0'
      exact wpAny_pyNext_enum_end (i := 0) hA hen hit hl hx fun h' ex => wpAny_pure (fin h' ex)
    · exact enum_end_out hA hen hit hl hx fun h' ex => wpAny_pure (fin h' ex)
  | succ k ih =>
    intro i h tk c acc as hk hi hit hl hen keep hS hacc has hG nd big sz
    have hlt : i < items.size := by omega
    have elder : ∀ T ∈ as, T < h.objs.size := fun T hT => by
      obtain ⟨j, hj⟩ := List.getElem?_of_mem hT
      obtain ⟨u, x, _, e2⟩ := hG j T hj
      exact Heap.lt_size e2
    obtain ⟨x, hx⟩ : ∃ x, items[i]? = some x := ⟨_, Array.getElem?_eq_getElem hlt⟩
    refine codeAny_builtin F.entry_extend_loop ?_
    unfold Builtin.«list.extend.loop»
    have asz : acc.size = as.length := by
      have := congrArg List.length hacc
      rwa [Array.length_toList, List.length_map] at this
    have step : ∀ (h' : Heap) (T : Addr) (u : Tok) (tk' : Nat) (old : Value) (a : Addr), EnO h' e it (↑i + 1) old a → (∃ o, h'.get? a = some o) → a ≠ it → h'.IsListIter it l (i + 1) → h.objs.size ≤ T → h'.get? T = some { cls := Value.type "tuple", data := Data.seq #[Value.int (↑i) u, x] } → (∀ (b : Addr) (o : Obj), b ≠ e → b ≠ it → h.get? b = some o → h'.get? b = some o) → h.objs.size ≤ h'.objs.size →
        wpAny (model P w) (A.under (Code.builtin "list.extend.loop" { pos := [Value.ref S, Value.ref e, res] })) (do
          Builtin.List.listUpdate (Value.ref S) fun x_1 => x_1.push (Value.ref T)
          again (Code.builtin "list.extend.loop" { pos := [Value.ref S, Value.ref e, res] })) (fun fin s' => match fin with
            | Fin.done f => R (Except.ok f) s'
            | Fin.again c' => c'.quiet = true ∧ codeAny (model P w) A c' R s') (fun e s' => R (Except.error e) s') { heap := h', gens := s.gens, drawn := s.drawn, toks := tk', os := s.os } := by
      intro h' T u tk' old a hO ⟨oa, ha⟩ ne hit' hT ht kp sz'
      have hS' := kp S _ Se Si hS
      refine wpAny_bind (listUpdate_at (f := fun x_1 => x_1.push (Value.ref T)) hS' rfl ?_ (by omega) (by simp; omega))
      obtain ⟨c', hS2⟩ := update_get hS' (fun x_1 => x_1.push (Value.ref T)) (b := S)
      have k2 : ∀ (b : Addr) (o : Obj), b ≠ S → h'.get? b = some o → (h'.update S (Obj.mapSeq fun x_1 => x_1.push (Value.ref T))).get? b = some o := fun b o n z => Heap.get?_update_of_ne _ (Ne.symm n) z
      have TS : T ≠ S := fun z => by
        rw [z] at hT
        omega
      refine wpAny_pure ⟨Code.quiet_builtin _ (by decide +kernel), ih (i + 1) _ tk' c' _ (as ++ [T]) (by omega) (by omega) ?_ ?_ (.inr ⟨old, a, ?_⟩) (fun b o b1 b2 b3 z => k2 b o b1 (kp b o b2 b3 (keep b o b1 b2 b3 z))) hS2 ?_ ?_ ?_ ?_ ?_ ?_⟩
      · obtain ⟨o, o1, o2, o3⟩ := hit'
        exact ⟨o, k2 it o (Ne.symm Si) o1, o2, o3⟩
      · obtain ⟨o, o1, o2, o3⟩ := hl
        have li : l ≠ it := fun z => by
          obtain ⟨o', p1, p2, p3⟩ := hit
          rw [z, p1] at o1
          cases o1
          rw [o2] at p2
          exact nomatch p2
        exact ⟨o, k2 l o lS (kp l o le li o1), o2, o3⟩
      · obtain ⟨bb, hO⟩ := hO
        have hal : ∃ o, (h'.update S (Obj.mapSeq fun x_1 => x_1.push (Value.ref T))).get? a = some o := by
          by_cases z : a = S
          · rw [z]
            exact ⟨_, hS2⟩
          · exact ⟨_, k2 a _ z ha⟩
        obtain ⟨o', ho'⟩ := hal
        exact ⟨o', ⟨bb, by rw [k2 e _ (Ne.symm Se) hO]; norm_cast⟩, ho', ne⟩
      · rw [Array.toList_push, hacc, List.map_append]
        rfl
      · rw [List.length_append, has]
        rfl
      · refine (hG.keep fun b o hb z => k2 b o ?_ (kp b o ?_ ?_ z)).more (by rw [has]; exact hx) (by rw [has]; exact k2 T _ TS ht)
        all_goals
          rintro rfl
          have := big _ hb
          omega
      · refine List.nodup_append.mpr ⟨nd, List.pairwise_singleton _ _, fun a ha b hb => ?_⟩
        rw [List.mem_singleton.mp hb]
        exact Nat.ne_of_lt (Nat.lt_of_lt_of_le (elder a ha) hT)
      · intro b hb
        rcases List.mem_append.mp hb with z | z
        · exact big b z
        · rw [List.mem_singleton.mp z]
          omega
      · exact Nat.le_trans sz (Nat.le_trans sz' (Nat.le_of_eq (Heap.size_update ..).symm))
    refine wpAny_bind ?_
    rcases hen with ⟨h0', hen⟩ | ⟨old, a, o, hen, ha, ne⟩
    · subst h0'
      refine wpAny_pyNext_enum_item (i := 0) hen hit hl hx ei fun h' e1 e2 e3 e4 e5 => ?_
      have e4' : h'.objs.size = h.objs.size + 1 := e4
      exact step h' _ tk (tk + 1) x h.objs.size ⟨false, e1⟩ ⟨_, e3⟩ (fun z => by
        have z' : h.objs.size = it := z
        omega) e2 (Nat.le_refl _) e3 e5 (by omega)
    · refine next_out hen hit hl hx ei le ⟨o, ha⟩ ne fun h' T u e1 e2 e3 e4 e5 => ?_
      refine step h' T u (tk + 1) old a e1 ?_ ne e2 e3 e4 e5 (Nat.le_of_lt (Nat.lt_of_le_of_lt e3 (Heap.lt_size e4)))
      by_cases z : a = e
      · obtain ⟨bb, q⟩ := e1
        exact ⟨_, by rw [z]; exact q⟩
      · exact ⟨_, e5 a o z ne ha⟩
theorem enum_init {items : Array Value} {S e it l : Addr} (hA : A.handled = none) (Se : S ≠ e) (Si : S ≠ it) (ei : e ≠ it) (le : l ≠ e) (lS : l ≠ S) (hn : items.size ≤ sizeLine) {R : Result → Shared → Prop} (hS : s.heap.get? S = some { cls := Value.type "list", data := Data.seq #[] }) (hen : IsEnum s.heap e it 0 Value.none) (hit : s.heap.IsListIter it l 0) (hl : s.heap.IsList l items)
    (done : ∀ (h' : Heap) (tk : Nat) (acc : Array Value) (c : Nat) (as : List Addr), (∀ (b : Addr) (o : Obj), b ≠ S → b ≠ e → b ≠ it → s.heap.get? b = some o → h'.get? b = some o) → h'.get? S = some { cls := Value.type "list", data := Data.seq acc c } → as.length = items.size → EnG items h' as → acc.toList = as.map Value.ref → as.Nodup → (∀ T ∈ as, s.heap.objs.size ≤ T) → R (Except.ok (Flow.ret Value.none)) { heap := h', gens := s.gens, drawn := s.drawn, toks := tk, os := s.os }) :
    wpAny (model P w) A.in1 (Builtin.«list.__init__» { pos := [Value.ref S, Value.ref e] }) (fun fin s' => match fin with
      | Fin.done f => R (Except.ok f) s'
      | Fin.again c' => c'.quiet = true ∧ codeAny (model P w) A c' R s') (fun e s' => R (Except.error e) s') s := by
  unfold Builtin.«list.__init__»
  have ty : s.TypeIs (.ref e) "enumerate" := ⟨_, hen, rfl⟩
  refine wpAny_bind (listItems_at hS rfl ?_)
  refine wpAny_bind (listUpdate_at (f := fun x => #[]) hS rfl ?_ (by decide) (by decide))
  obtain ⟨c1, h1S⟩ := update_get (b := S) hS (fun x => #[])
  generalize hh1 : s.heap.update S (Obj.mapSeq fun x => #[]) = h1 at *
  have k1 : ∀ (b : Addr) (o : Obj), b ≠ S → s.heap.get? b = some o → h1.get? b = some o := fun b o n z => by
    rw [← hh1]
    exact Heap.get?_update_of_ne _ (Ne.symm n) z
  have n1 : h1.objs.size = s.heap.objs.size := by
    rw [← hh1]
    exact Heap.size_update ..
  refine wpAny_bind (wpAny_pure (a := ()) ?_)
  show wpAny (model P w) A.in1 (Builtin.List.listExtendWith (.ref S) (.ref e) Value.none) _ _ _
  unfold Builtin.List.listExtendWith
  have he1 := k1 e _ (Ne.symm Se) hen
  refine wpAny_bind (wpAny_typeOf (T := "enumerate") ⟨_, he1, rfl⟩ ?_)
  rw [if_neg (by
    have q : (S == e) = false := by
      rw [beq_eq_false_iff_ne]
      exact Se
    simp only [Builtin.List.listSameRef, q]
    decide)]
  refine wpAny_bind (wpAny_pyIter_enum he1 ?_)
  refine wpAny_bind (wpAny_holding (hint_enum ⟨_, he1, rfl⟩ ?_))
  refine wpAny_bind (wpAny_rule ?_)
  unfold Builtin.List.listTouch
  refine wpAny_bind (wpAny_bind (listUpdate_at (f := fun x => x.push Value.none) h1S rfl ?_ (by decide) (by decide)))
  obtain ⟨c2, h2S⟩ := update_get (b := S) h1S (fun x => x.push Value.none)
  generalize hh2 : h1.update S (Obj.mapSeq fun x => x.push Value.none) = h2 at *
  have k2 : ∀ (b : Addr) (o : Obj), b ≠ S → h1.get? b = some o → h2.get? b = some o := fun b o n z => by
    rw [← hh2]
    exact Heap.get?_update_of_ne _ (Ne.symm n) z
  have n2 : h2.objs.size = h1.objs.size := by
    rw [← hh2]
    exact Heap.size_update ..
  refine listUpdate_at (f := fun x => x.pop) h2S rfl ?_ (by decide) (by decide)
  obtain ⟨c3, h3S⟩ := update_get (b := S) h2S (fun x => x.pop)
  generalize hh3 : h2.update S (Obj.mapSeq fun x => x.pop) = h3 at *
  have k3 : ∀ (b : Addr) (o : Obj), b ≠ S → h2.get? b = some o → h3.get? b = some o := fun b o n z => by
    rw [← hh3]
    exact Heap.get?_update_of_ne _ (Ne.symm n) z
  have n3 : h3.objs.size = h2.objs.size := by
    rw [← hh3]
    exact Heap.size_update ..
  have kk : ∀ (b : Addr) (o : Obj), b ≠ S → s.heap.get? b = some o → h3.get? b = some o := fun b o n z => k3 b o n (k2 b o n (k1 b o n z))
  have nn : h3.objs.size = s.heap.objs.size := by omega
  have lt : ∀ {b : Addr} {o : Obj}, s.heap.get? b = some o → b < h3.objs.size := fun z => by
    rw [nn]
    exact Heap.lt_size z
  obtain ⟨o1, p1, p2, p3⟩ := hit
  obtain ⟨o2, q1, q2, q3⟩ := hl
  refine wpAny_pure ⟨Code.quiet_builtin _ (by decide +kernel), ?_⟩
  refine enum_loop (s := s) hA Se Si ei le lS hn Value.none (h0 := h3) ⟨lt hS, lt hen, lt p1, lt q1⟩ (fun h' tk acc c as a1 a2 a3 a4 a5 a6 a7 => done h' tk acc c as (fun b o b1 b2 b3 z => a1 b o b1 b2 b3 (kk b o b1 z)) a2 a3 a4 a5 a6 (fun T hT => by
    have := a7 T hT
    rw [nn] at this
    exact this)) _ 0 h3 s.toks c3 #[] [] rfl (Nat.zero_le _) ⟨o1, kk it o1 (Ne.symm Si) p1, p2, p3⟩ ⟨o2, kk l o2 lS q1, q2, q3⟩ (.inl ⟨rfl, kk e _ (Ne.symm Se) hen⟩) (fun b o _ _ _ z => z) h3S rfl rfl (fun j T z => nomatch z) List.nodup_nil (fun T z => nomatch z) (Nat.le_refl _)
end
end TD
set_option maxHeartbeats 4000000
namespace TD
open PySem PySem.Spec PyProof.Rows L2
open Evl (Ex)
def Fp0 (X : Cx) (b : Addr) : Prop := b ≠ X.env.locals ∧ b ∉ X.fs ∧ (b ∈ X.ex ∨ X.s_0.heap.objs.size ≤ b) ∧ ∀ (x : Str) (c : Addr), List.lookup x X.env.cells = some c → c ≠ b
def enH (it : Addr) : Addr → HO := fun e => .ext fun h => IsEnum h e it 0 Value.none
def itH (l : Addr) : Addr → HO := fun it => .ext fun h => h.IsListIter it l 0
theorem enH_ok {P : Program} {w : World} {H : Hp} {h : Heap} {e it : Addr} (z : IsEnum h e it 0 Value.none) : ObjOk P w H h e (enH it e) := ⟨z, ⟨_, z⟩, fun _ _ q st => st _ q⟩
theorem itH_ok {P : Program} {w : World} {H : Hp} {h : Heap} {it l : Addr} (z : h.IsListIter it l 0) : ObjOk P w H h it (itH l it) := ⟨z, let ⟨o, p, _⟩ := z; ⟨o, p⟩, fun _ _ ⟨o, p, q, r⟩ st => ⟨o, st o p, q, r⟩⟩
def noA (H : Hp) (a : Addr) : Hp := fun b => if b = a then none else H b
theorem noA_ne {H : Hp} {a b : Addr} (n : b ≠ a) : noA H a b = H b := if_neg n
theorem noA_self {H : Hp} {a : Addr} : noA H a a = none := if_pos rfl
section
variable {X : Cx} {pins : List (Addr × Obj)} {σ : L2.St} {H : Hp} {s : Shared} {a : Addr} {φ : Heap → Prop}
theorem paired_imp {α β : Type} {R S : α → β → Prop} (h : ∀ a b, R a b → S a b) : ∀ {xs : List α} {ys : List β}, Paired R xs ys → Paired S xs ys
  | _, _, .nil => .nil
  | _, _, .cons p q => .cons (h _ _ p) (paired_imp h q)
theorem objOk_no {P : Program} {w : World} {h : Heap} (ha : H a = some (.ext φ)) : ∀ {o : HO} {b : Addr}, ObjOk P w H h b o → ObjOk P w (noA H a) h b o := by
  intro o
  induction o with
  | frz o u ih => exact fun {b} z => ⟨z.1, ih z.2⟩
  | dT kvs =>
    intro b z
    obtain ⟨z1, z2, xs, z3, z4⟩ := z
    refine ⟨z1, z2, xs, paired_imp (fun p q r => ⟨r.1, ?_, r.2.2⟩) z3, z4⟩
    rw [noA_ne (fun w => by rw [w, ha] at r; exact nomatch r.2.1)]
    exact r.2.1
  | ins C dx fs =>
    intro b z
    obtain ⟨z1, z2⟩ := z
    refine ⟨?_, z2⟩
    rw [noA_ne (fun w => by rw [w, ha] at z1; exact nomatch z1)]
    exact z1
  | _ => exact fun {b} z => z
theorem Inv.forget (I : Inv X pins σ H s) (ha : H a = some (.ext φ)) : Inv X pins σ (noA H a) s := by
  have sub : ∀ {b : Addr} {o : HO}, noA H a b = some o → H b = some o := fun {b o} z => by
    by_cases w : b = a
    · rw [w, noA_self] at z
      exact nomatch z
    · rwa [noA_ne w] at z
  have none : ∀ {b : Addr}, H b = .none → noA H a b = .none := fun {b} z => by
    by_cases w : b = a
    · rw [w, noA_self]
    · rwa [noA_ne w]
  have ne : ∀ {b : Addr} {o : HO}, H b = some o → (∀ ψ, o ≠ .ext ψ) → noA H a b = some o := fun {b o} z n => by
    rw [noA_ne (fun w => by
      rw [w, ha] at z
      exact n φ (Option.some.inj z).symm)]
    exact z
  refine { ok := I.ok, os := I.os, bare := I.bare, base := ?_, loc := I.loc, cell := I.cell, free := none I.free, freeC := fun x c e => none (I.freeC x c e), pin := fun p hp => ?_, hok := fun b o z => objOk_no ha (I.hok b o (sub z)), len := I.len }
  · refine { keep := I.base.keep, slot := I.base.slot, free := fun b u e n hx => none (I.base.free b u e n hx), there := I.base.there, tups := fun b xs e => ne (I.base.tups b xs e) (fun _ z => nomatch z), frzs := fun b u v e => ne (I.base.frzs b u v e) (fun _ z => nomatch z), tbls := fun b ps e => ?_ }
    obtain ⟨m, q⟩ := I.base.tbls b ps e
    exact ⟨m, ne q (fun _ z => nomatch z)⟩
  · obtain ⟨p1, p2, p3⟩ := I.pin p hp
    exact ⟨p1, none p2, p3⟩
theorem Inv.adopt' {o : HO} {s' : Shared} {H' : Hp} (I : Inv X pins σ H s) (new : s.heap.get? a = none) (J : Inv X pins σ H' s') (nH : H' a = none) (ok : ObjOk X.prog X.w (upd H' a o) s'.heap a o) : Inv X pins σ (upd H' a o) s' := by
  have nL : X.env.locals ≠ a := fun z => by
    obtain ⟨m, ⟨es, ep, o, ho, _⟩, _⟩ := I.loc
    rw [z, new] at ho
    exact nomatch ho
  have other : ∀ {b : Addr}, b ≠ a → upd H' a o b = H' b := fun hb => upd_ne hb
  have had : ∀ {b : Addr} {u : HO}, H' b = some u → b ≠ a := fun e z => by
    subst z
    rw [nH] at e
    cases e
  refine { ok := J.ok, os := J.os, bare := J.bare, base := ?_, loc := J.loc, cell := J.cell, free := ?_, freeC := ?_, pin := ?_, hok := J.hok.laidN (fun _ _ e => e) nH ok, len := J.len }
  · refine { keep := J.base.keep, slot := J.base.slot, free := ?_, there := J.base.there, tups := ?_, frzs := ?_, tbls := ?_ }
    · intro b u e n hx
      rw [other (fun z => by
        subst z
        obtain ⟨o', q⟩ := I.base.there b u e hx
        rw [new] at q
        cases q)]
      exact J.base.free b u e n hx
    · intro b xs e
      have q := J.base.tups b xs e
      rwa [other (had q)]
    · intro b u v e
      have q := J.base.frzs b u v e
      rwa [other (had q)]
    · intro b ps e
      obtain ⟨m, q⟩ := J.base.tbls b ps e
      exact ⟨m, by rwa [other (had q)]⟩
  · rw [other nL]
    exact J.free
  · intro x c e
    rw [other (fun z => by
      obtain ⟨v, o, ho, _⟩ := I.cell x c e
      rw [z, new] at ho
      cases ho)]
    exact J.freeC x c e
  · intro p hp
    obtain ⟨p1, p2, p3⟩ := J.pin p hp
    refine ⟨p1, ?_, p3⟩
    rw [other (fun z => by
      have q := (I.pin p hp).1
      rw [z, new] at q
      cases q)]
    exact p2
theorem vals_at : ∀ {xs : List V} {us : List Value} {j : Nat} {x : V}, Vals xs us → xs[j]? = some x → ∃ u, us[j]? = some u ∧ L2.RelV x u
  | _, _, j, x, .nil, e => nomatch e
  | _, _, 0, x, .cons h t, e => by
    cases e
    exact ⟨_, rfl, h⟩
  | _, _, j + 1, x, .cons h t, e => vals_at (j := j) t e
theorem list_of_enum {P : Program} {w : World} {A : Around} {E : Value → Shared → Prop} {items : Array Value} {l e it : Addr} (hA : A.handled = none) (hn : items.size ≤ sizeLine) (ei : e ≠ it) (le : l ≠ e) (hen : IsEnum s.heap e it 0 Value.none) (hit : s.heap.IsListIter it l 0) (hl : s.heap.IsList l items) {Q : Value → Shared → Prop}
    (done : ∀ (h' : Heap) (tk : Nat) (S : Addr) (acc : Array Value) (c : Nat) (as : List Addr), (∀ (b : Addr) (o : Obj), b ≠ e → b ≠ it → s.heap.get? b = some o → h'.get? b = some o) → s.heap.objs.size ≤ S → S ∉ as → h'.get? S = some { cls := Value.type "list", data := Data.seq acc c } → as.length = items.size → EnG items h' as → acc.toList = as.map Value.ref → as.Nodup → (∀ T ∈ as, s.heap.objs.size ≤ T) → Q (.ref S) { heap := h', gens := s.gens, drawn := s.drawn, toks := tk, os := s.os }) :
    wpAny (model P w) A (call (Value.type "list") [Value.ref e]) Q E s := by
  refine callType_codes F.called_list (F.typeCall_list_1 _) F.entry_list_init (code_list_new (.ref e) (E := E) (Q₁ := fun ob t => ob = .ref s.heap.objs.size ∧ t = { heap := s.heap.push { cls := Value.type "list", data := Data.seq #[] }, gens := s.gens, drawn := s.drawn, toks := s.toks, os := s.os }) ⟨rfl, rfl⟩) fun obj s1 hq => ?_
  obtain ⟨rfl, rfl⟩ := hq
  have hS : (s.heap.push { cls := Value.type "list", data := Data.seq #[] }).get? s.heap.objs.size = some { cls := Value.type "list", data := Data.seq #[] } := Heap.get?_push_size _ rfl
  refine ⟨⟨_, hS, rfl⟩, F.args_list_init_2 _ _, ?_⟩
  obtain ⟨o1, p1, p2, p3⟩ := hit
  obtain ⟨o2, q1, q2, q3⟩ := hl
  have kk : ∀ (b : Addr) (o : Obj), s.heap.get? b = some o → (s.heap.push { cls := Value.type "list", data := Data.seq #[] }).get? b = some o := fun b o z => Heap.get?_push_of_some _ z
  have sz : (s.heap.push { cls := Value.type "list", data := Data.seq #[] }).objs.size = s.heap.objs.size + 1 := Heap.size_push ..
  have nS : ∀ {b : Addr} {o : Obj}, s.heap.get? b = some o → s.heap.objs.size ≠ b := fun z w => by
    have := Heap.lt_size z
    rw [w] at this
    exact Nat.lt_irrefl _ this
  refine enum_init (A := A.in1) (e := e) (it := it) (l := l) (items := items) hA (nS hen) (nS p1) ei le (Ne.symm (nS q1)) hn hS (kk _ _ hen) ⟨o1, kk _ _ p1, p2, p3⟩ ⟨o2, kk _ _ q1, q2, q3⟩ fun h' tk acc c as a1 a2 a3 a4 a5 a6 a7 => ?_
  have a7' : ∀ T ∈ as, s.heap.objs.size + 1 ≤ T := fun T hT => by
    have := a7 T hT
    rw [← sz]
    exact this
  refine ⟨rfl, done h' tk s.heap.objs.size acc c as (fun b o n1 n2 z => a1 b o (Ne.symm (nS z)) n1 n2 (kk b o z)) (Nat.le_refl _) (fun z => ?_) a2 a3 a4 a5 a6 fun T hT => ?_⟩
  · have := a7' _ z
    omega
  · have := a7' T hT
    omega
def rEnum (K : Fg) (N : Addr → Prop) : List V → Hp → VK → Prop := fun xs H Q => ∃ l ys, xs = [.ref l] ∧ SqL K H l ys ∧ ∀ e it, N e → N it → e ≠ it → l ≠ e → l ≠ it → H e = none → H it = none → Q (.ref e) (upd (upd H it (itH l it)) e (enH it e))
def rListEn (K : Fg) (N : Addr → Prop) : List V → Hp → VK → Prop := fun xs H Q => ∃ e it l ys, xs = [.ref e] ∧ N e ∧ N it ∧ e ≠ it ∧ l ≠ e ∧ l ≠ it ∧ H e = some (enH it e) ∧ H it = some (itH l it) ∧ SqL K H l ys ∧
  ∀ (p : Addr) (as : List Addr) (H' : Hp), (∀ b o, b ≠ e → b ≠ it → H b = some o → H' b = some o) → H p = none → p ∉ as → (∀ T ∈ as, H T = none) → H' p = some (.lst (as.map V.ref)) → as.length = ys.length → (∀ j T y, as[j]? = some T → ys[j]? = some y → H' T = some (.tup [.int (j : Nat), y])) → Q (.ref p) H'
theorem call_enumR (hc : X.calm = true) : CallR X (.type "enumerate") (rEnum X.K (Fp0 X)) := by
  rintro pins s σ H xs us Q I hv ⟨l, ys, rfl, hq, q⟩
  obtain ⟨its, h1, h2, h3⟩ := I.list hq
  cases hv with
  | cons hu hr =>
  cases hr
  cases (show _ = Value.ref l from hu)
  have hl : s.heap.IsList l its.toArray := by
    obtain ⟨o, n, a, b, _, d⟩ := h2
    exact ⟨o, a, b, n, d⟩
  have get0 : ∀ {b : Addr}, s.heap.objs.size ≤ b → s.heap.get? b = none := fun {b} hb => by
    cases e : s.heap.get? b with
    | none => rfl
    | some o => exact (Nat.lt_irrefl _ (Nat.lt_of_le_of_lt hb (Heap.lt_size e))).elim
  refine call_enumerate_list hl fun h' e1 e2 e3 e4 => ?_
  have I1 : Inv X pins σ (upd H s.heap.objs.size (itH l s.heap.objs.size)) { heap := h', gens := s.gens, drawn := s.drawn, toks := s.toks, os := s.os } := I.laid e4 (Nat.le_refl _) (itH_ok e2)
  have ne : s.heap.objs.size + 1 ≠ s.heap.objs.size := by omega
  have nH1 : H (s.heap.objs.size + 1) = none := by
    have q := (I.kept (h' := s.heap.push { cls := Value.none }) (t' := s.toks) fun b u z => Heap.get?_push_of_some _ z).fresh
    rwa [show ({ heap := s.heap.push { cls := Value.none }, gens := s.gens, drawn := s.drawn, toks := s.toks, os := s.os } : Shared).heap.objs.size = s.heap.objs.size + 1 from Heap.size_push ..] at q
  have nl : ∀ {b : Addr}, s.heap.objs.size ≤ b → l ≠ b := fun hb z => by
    obtain ⟨o, ho, _⟩ := hl
    rw [z, get0 hb] at ho
    exact nomatch ho
  have fp : ∀ {b : Addr}, s.heap.objs.size ≤ b → H b = none → Fp0 X b := fun hb hn => let ⟨_, f1, f2, f3, f4, _⟩ := I.fpOk (H' := H) hb hn; ⟨f1, f2, f3, f4⟩
  have I2 := Inv.adopt' (a := s.heap.objs.size + 1) (o := enH s.heap.objs.size (s.heap.objs.size + 1)) I (get0 (Nat.le_succ _)) I1 (by rw [upd_ne ne]; exact nH1) (enH_ok e1)
  exact ⟨.ref (s.heap.objs.size + 1), _, I2, rfl, q _ _ (fp (Nat.le_succ _) nH1) (fp (Nat.le_refl _) I.fresh) ne (nl (Nat.le_succ _)) (nl (Nat.le_refl _)) nH1 I.fresh⟩
theorem Inv.adopts {s' : Shared} (I : Inv X pins σ H s) : ∀ (as : List (Addr × List V)) {H' : Hp}, Inv X pins σ H' s' → (∀ q ∈ as, s.heap.get? q.1 = none ∧ H' q.1 = none) → (as.map (·.1)).Nodup → (∀ q ∈ as, ∀ H'' : Hp, ObjOk X.prog X.w H'' s'.heap q.1 (.tup q.2)) → ∃ H'', Inv X pins σ H'' s' ∧ (∀ b, b ∉ as.map (·.1) → H'' b = H' b) ∧ ∀ q ∈ as, H'' q.1 = some (.tup q.2)
  | [], H', J, _, _, _ => ⟨H', J, fun _ _ => rfl, fun _ z => nomatch z⟩
  | q :: as, H', J, h1, h2, h3 => by
    have nd := List.nodup_cons.mp h2
    have J1 := Inv.adopt' (a := q.1) (o := .tup q.2) I (h1 q List.mem_cons_self).1 J (h1 q List.mem_cons_self).2 (h3 q List.mem_cons_self _)
    obtain ⟨H'', J2, k1, k2⟩ := Inv.adopts I as J1 (fun r hr => ⟨(h1 r (List.mem_cons_of_mem _ hr)).1, by
      rw [upd_ne (fun z => nd.1 (by
        have w := List.mem_map_of_mem (f := fun x : Addr × List V => x.1) hr
        have w2 : r.1 ∈ as.map (·.1) := w
        rw [z] at w2
        exact w2))]
      exact (h1 r (List.mem_cons_of_mem _ hr)).2⟩) nd.2 (fun r hr => h3 r (List.mem_cons_of_mem _ hr))
    refine ⟨H'', J2, fun b hb => ?_, fun r hr => ?_⟩
    · have nb : b ≠ q.1 ∧ b ∉ as.map (·.1) := ⟨fun z => hb (by rw [z]; exact List.mem_cons_self), fun z => hb (List.mem_cons_of_mem _ z)⟩
      rw [k1 b nb.2, upd_ne nb.1]
    · rcases List.mem_cons.mp hr with z | z
      · rw [z, k1 q.1 nd.1, upd_same]
      · exact k2 r z
theorem call_listEnR (hc : X.calm = true) : CallR X (.type "list") (rListEn X.K (Fp0 X)) := by
  rintro pins s σ H xs us Q I hv ⟨e, it, l, ys, rfl, fe, fi, ei, le, li, he, hi, hq, q⟩
  obtain ⟨its, h1, h2, h3⟩ := I.list hq
  cases hv with
  | cons hu hr =>
  cases hr
  cases (show _ = Value.ref e from hu)
  have hl : s.heap.IsList l its.toArray := by
    obtain ⟨o, n, a, b, _, d⟩ := h2
    exact ⟨o, a, b, n, d⟩
  have zen : IsEnum s.heap e it 0 Value.none := (show ObjOk X.prog X.w H s.heap e (.ext fun h => IsEnum h e it 0 Value.none) from I.hok e _ he).1
  have zit : s.heap.IsListIter it l 0 := (show ObjOk X.prog X.w H s.heap it (.ext fun h => h.IsListIter it l 0) from I.hok it _ hi).1
  have hlen : its.toArray.size = ys.length := by
    rw [List.size_toArray]
    exact (Paired.length h1).symm
  have hA : X.A.handled = none := I.ok.hd hc
  have get0 : ∀ {b : Addr}, s.heap.objs.size ≤ b → s.heap.get? b = none := fun {b} hb => by
    cases e : s.heap.get? b with
    | none => rfl
    | some o => exact (Nat.lt_irrefl _ (Nat.lt_of_le_of_lt hb (Heap.lt_size e))).elim
  have pn : ∀ {b : Addr} {o : HO}, H b = some o → ∀ p ∈ X.pn ++ pins, p.1 ≠ b := fun hb p hp z => by
    have w := (I.pin p hp).2.1
    rw [z, hb] at w
    exact nomatch w
  have I0 : Inv X pins σ (noA (noA H e) it) s := Inv.forget (Inv.forget I he) (by rw [noA_ne (Ne.symm ei)]; exact hi)
  have n1 : ∀ {b : Addr}, b ≠ e → b ≠ it → noA (noA H e) it b = H b := fun h1 h2 => by rw [noA_ne h2, noA_ne h1]
  have ne0 : noA (noA H e) it e = none := by rw [noA_ne ei, noA_self]
  refine list_of_enum hA (by rw [hlen]; exact h3) ei le zen zit hl fun h' tk S acc c as a1 a2 a3 a4 a5 a6 a7 a8 a9 => ?_
  have f1 : FpOk X pins (noA (noA H e) it) e := ⟨ne0, fe.1, fe.2.1, fe.2.2.1, fe.2.2.2, pn he⟩
  have f2 : FpOk X pins (noA (noA H e) it) it := ⟨noA_self, fi.1, fi.2.1, fi.2.2.1, fi.2.2.2, pn hi⟩
  have vals : Vals (as.map V.ref) acc.toList := by
    rw [a7]
    clear a1 a2 a3 a4 a5 a6 a7 a8 a9
    induction as with
    | nil => exact .nil
    | cons a as ih => exact .cons rfl ih
  have J := I0.turnedNew (h' := h') (t' := tk) (ch := [e, it]) (T := S) (ob := .lst (as.map V.ref)) (fun b o hb z => a1 b o (fun w => hb (by rw [w]; exact List.mem_cons_self)) (fun w => hb (by rw [w]; exact List.mem_cons_of_mem _ List.mem_cons_self)) z) (fun b hb => by
    rcases List.mem_cons.mp hb with z | z
    · rw [z]; exact f1
    · rw [List.mem_singleton.mp z]; exact f2) a2 ⟨by rw [List.length_map, a5, hlen]; exact h3, acc.toList, c, vals, a4⟩
  let L : List (Addr × List V) := as.zip (ys.zipIdx.map fun p => [V.int (p.2 : Nat), p.1])
  have hL : L.map (·.1) = as := List.map_fst_zip (by rw [List.length_map, List.length_zipIdx, a5, hlen]; exact Nat.le_refl _)
  have atL : ∀ {r : Addr × List V}, r ∈ L → ∃ (j : Nat) (y : V), as[j]? = some r.1 ∧ ys[j]? = some y ∧ r.2 = [V.int (j : Nat), y] := fun {r} hr => by
    obtain ⟨j, hj⟩ := List.getElem?_of_mem hr
    have e := List.getElem?_zip_eq_some.mp hj
    rw [List.getElem?_map, List.getElem?_zipIdx] at e
    cases hy : ys[j]? with
    | none => rw [hy] at e; exact nomatch e.2
    | some y =>
      rw [hy] at e
      refine ⟨j, y, e.1, hy, ?_⟩
      have e2 := Option.some.inj e.2
      rw [← e2]
      show [V.int ((0 + j : Nat) : Int), y] = _
      rw [Nat.zero_add]
  have inL : ∀ {j : Nat} {T : Addr} {y : V}, as[j]? = some T → ys[j]? = some y → (T, [V.int (j : Nat), y]) ∈ L := fun {j T y} e1 e2 => by
    refine List.mem_of_getElem? (i := j) (List.getElem?_zip_eq_some.mpr ⟨e1, ?_⟩)
    rw [List.getElem?_map, List.getElem?_zipIdx, e2]
    show some [V.int ((0 + j : Nat) : Int), y] = _
    rw [Nat.zero_add]
  have gone : ∀ {b : Addr}, s.heap.objs.size ≤ b → H b = none := fun {b} hb => I.hok.fresh hb
  have noS : ∀ {b : Addr}, H b = none → noA (noA H e) it b = none := fun {b} hb => by
    by_cases z : b = it
    · rw [z, noA_self]
    · rw [noA_ne z]
      by_cases z2 : b = e
      · rw [z2, noA_self]
      · rw [noA_ne z2, hb]
  obtain ⟨H'', J2, k1, k2⟩ := Inv.adopts I L J (fun r hr => by
    obtain ⟨j, y, e1, _, _⟩ := atL hr
    have hm := List.mem_of_getElem? e1
    refine ⟨get0 (a9 _ hm), ?_⟩
    rw [upd_ne (fun z => a3 (by rw [← z]; exact hm))]
    exact noS (gone (a9 _ hm))) (by rw [hL]; exact a8) (fun r hr H3 => by
    obtain ⟨j, y, e1, e2, e3⟩ := atL hr
    obtain ⟨u, x, g1, g2⟩ := a6 j r.1 e1
    obtain ⟨x2, g3, g4⟩ := vals_at h1 e2
    have g5 : its[j]? = some x := by
      rw [← g1]
      exact (List.getElem?_toArray ..).symm
    rw [g3] at g5
    have g6 := Option.some.inj g5
    subst g6
    rw [e3]
    exact ⟨(show 2 ≤ sizeLine by decide), [Value.int (j : Nat) u, x2], .cons ⟨u, rfl⟩ (.cons g4 .nil), _, g2, rfl, _, rfl⟩)
  refine ⟨.ref S, H'', J2, rfl, q S as H'' (fun b o n1' n2' z => ?_) (gone a2) a3 (fun T hT => gone (a9 T hT)) ?_ (by rw [a5, hlen]) (fun j T y e1 e2 => k2 _ (inL e1 e2))⟩
  · rw [k1 b (fun w => by
      rw [hL] at w
      rw [gone (a9 b w)] at z
      exact nomatch z), upd_ne (fun w => by
      rw [w, gone a2] at z
      exact nomatch z), n1 n1' n2']
    exact z
  · rw [k1 S (by rw [hL]; exact a3), upd_same]
end
end TD
set_option maxHeartbeats 4000000
namespace TD
open PySem PySem.Spec PyProof.Rows L2
open Evl (Ex)
theorem das_of {K : Fg} {B : Hp} : ∀ {vs : List V} {ds : List PyData}, vs.length = ds.length → (∀ (j : Nat) (v : V) (d : PyData), vs[j]? = some v → ds[j]? = some d → Da K B v d) → Das K B vs ds
  | [], [], _, _ => .nil
  | v :: vs, d :: ds, e, h => .cons (h 0 v d rfl rfl) (das_of (Nat.succ.inj e) fun j v d a b => h (j + 1) v d a b)
  | [], _ :: _, e, _ => nomatch e
  | _ :: _, [], e, _ => nomatch e
def enumD (ds : List PyData) : List PyData := ds.zipIdx.map fun p => .tuple [.int (p.2 : Nat), p.1]
theorem enumD_at {ds : List PyData} {j : Nat} : (enumD ds)[j]? = (ds[j]?).map fun d => .tuple [.int (j : Nat), d] := by
  unfold enumD
  rw [List.getElem?_map, List.getElem?_zipIdx, Option.map_map]
  cases ds[j]? with
  | none => rfl
  | some d =>
    show some (PyData.tuple [.int ((0 + j : Nat) : Int), d]) = _
    rw [Nat.zero_add]
    rfl
theorem enumD_len {ds : List PyData} : (enumD ds).length = ds.length := by
  unfold enumD
  rw [List.length_map, List.length_zipIdx]
section
variable {K : Fg} {cl : Nat → Addr} {E : XK} {m : Nat} {O : Nat → Bool} {ta tb tc te : TE} {fa fb fc fe : En → ER} {tt tu : TT} {ft fu : En → TR} {al : TA} {fl : En → AR} {ks : List AK} {ρ ρ' ρ1 : En} {t u : TS} {f g : En → SR} {tg : TG} {gz : PyData → En → Option En} {W W1 : OW}
theorem upd_none {H : Hp} {a b : Addr} {o : HO} (h : upd H a o b = none) : b ≠ a ∧ H b = none := by
  by_cases z : b = a
  · rw [z, upd_same] at h
    exact nomatch h
  · rw [upd_ne z] at h
    exact ⟨z, h⟩
theorem en_core {N : Addr → Prop} {B H : Hp} {l : Addr} {vs : List V} {ds : List PyData} {Q : VK} (sx : Ex B H) (hl : H l = some (.lst vs)) (hv : Das K B vs ds) (q : ∀ p B' H', Le B H B' H' → B' p = none → H p = none → Own K B' H' p (at1 p) (.list (enumD ds)) → Q (.ref p) H') : rEnum K N [.ref l] H fun v H1 => rListEn K N [v] H1 Q := by
  refine ⟨l, vs, rfl, SqL.of hl, fun e it ne ni ei le li he hi => ?_⟩
  have k0 : ∀ {b : Addr} {o : HO}, H b = some o → upd (upd H it (itH l it)) e (enH it e) b = some o := fun {b o} z => by
    rw [upd_ne (fun w => by rw [w, he] at z; exact nomatch z), upd_ne (fun w => by rw [w, hi] at z; exact nomatch z)]
    exact z
  refine ⟨e, it, l, vs, rfl, ne, ni, ei, le, li, upd_same, by rw [upd_ne (Ne.symm ei), upd_same], SqL.of (k0 hl), fun p as H' k hp pas has hH hlen tups => ?_⟩
  have up : ∀ {b : Addr} {o : HO}, H b = some o → H' b = some o := fun {b o} z => k b o (fun w => by rw [w, he] at z; exact nomatch z) (fun w => by rw [w, hi] at z; exact nomatch z) (k0 z)
  have down : ∀ {b : Addr}, upd (upd H it (itH l it)) e (enH it e) b = none → H b = none := fun z => (upd_none (upd_none z).2).2
  have hB : ∀ {b : Addr}, H b = none → B b = none := fun {b} z => by
    cases w : B b with
    | none => rfl
    | some o =>
      rw [sx b o w] at z
      exact nomatch z
  have hlv := hv.len
  have ek : Ex B (fun b => if b ∈ as then H' b else B b) := fun b o z => by
    show (if b ∈ as then H' b else B b) = some o
    rw [if_neg (fun w => by
      have := hB (down (has b w))
      rw [this] at z
      exact nomatch z)]
    exact z
  have l2 : Le B H (fun b => if b ∈ as then H' b else B b) H' := ⟨fun b o z => up z, ek, fun b o z => by
    by_cases w : b ∈ as
    · rwa [if_pos w] at z
    · rw [if_neg w] at z
      exact up (sx b o z), fun b h1 h2 => by
    show (if b ∈ as then H' b else B b) = none
    rw [if_neg (fun w => h2 (down (has b w)))]
    exact h1⟩
  refine q p _ H' l2 (by
    show (if p ∈ as then H' p else B p) = none
    rw [if_neg pas]
    exact hB (down hp)) (down hp) ⟨rfl, as.map V.ref, hH, das_of (by rw [List.length_map, enumD_len, hlen, hlv]) fun j v d a b => ?_⟩
  rw [List.getElem?_map] at a
  rw [enumD_at] at b
  obtain ⟨T, a1, rfl⟩ := Option.map_eq_some_iff.mp a
  obtain ⟨d', b1, rfl⟩ := Option.map_eq_some_iff.mp b
  obtain ⟨y, hy⟩ : ∃ y, vs[j]? = some y := ⟨_, List.getElem?_eq_getElem (by rw [hlv]; exact (List.getElem?_eq_some_iff.mp b1).1)⟩
  obtain ⟨d2, e1, e2⟩ := hv.get hy
  rw [b1] at e1
  cases e1
  refine .tup (xs := [.int (j : Nat), y]) ?_ (.cons (.int _) (.cons (e2.ex ek) .nil))
  show (if T ∈ as then H' T else B T) = _
  rw [if_pos (List.mem_of_getElem? a1)]
  exact tups j T y a1 hy
def eListEnO (i : Nat) (ρ : En) : ER := match ownL i ρ with
  | some xs => .o (.list (enumD xs)) ρ
  | none => .st
theorem po_le {σ : L2.St} {B H B1 H1 : Hp} {p : Addr} {d : PyData} {Q : VK} (sd : SDo K O σ B H ρ W) (l : Le B H B1 H1) (n : B1 p = none) (hp : H p = none) (o : Own K B1 H1 p (at1 p) d) (q : PO K O σ B H ρ W d ρ Q) : Q (.ref p) H1 :=
  q p (at1 p) B1 H1 W l.o (sd.le l) o fun a h => by
    have e : a = p := h
    subst e
    exact ⟨n, o.some, fun ⟨i, z⟩ => (sd.bh i a z).2 hp, .inr hp⟩
theorem ye_listEnO {N : Addr → Prop} {i : Nat} (hO : O i = true := by rfl) : YE K cl E m O (tCB (rListEn K N) (tCons (tCB (rEnum K N) (tCons (tVar i) tNil)) tNil)) (eListEnO i) := fun ρ => by
  unfold eListEnO
  cases h : ownL i ρ with
  | none => trivial
  | some xs =>
    refine ⟨Mo.rfl', fun σ B H W s sd Q q => ?_⟩
    obtain ⟨p, vs, e, n, hp, hv⟩ := own_list sd hO h
    exact ⟨.ref p, e, en_core s hp hv fun p' B' H' l n1 n2 o => po_le sd l n1 n2 o q⟩
def eListOf (fa : En → ER) (ρ : En) : ER := match fa ρ with
  | .v (.list ds) ρ1 => .o (.list ds) ρ1
  | .v (.tuple ds) ρ1 => .o (.list ds) ρ1
  | .x c i => .x c i
  | _ => .st
def rLOf (K : Fg) : List V → Hp → VK → Prop := fun xs H Q => ∃ p ys, xs = [V.ref p] ∧ (SqL K H p ys ∨ SqT K H p ys) ∧ ∀ l, H l = none → Q (V.ref l) (upd H l (.lst ys))
theorem ye_listOf (ha : YE K cl E m O ta fa) : YE K cl E m O (tCB (rLOf K) (tCons ta tNil)) (eListOf fa) := fun ρ => by
  have a := ha ρ
  unfold eListOf
  cases e : fa ρ with
  | st => trivial
  | o d ρ1 => trivial
  | x c i =>
    rw [e] at a
    exact ⟨a.1, fun σ B H W s sd v hv w Q => a.2 σ B H W s sd v hv w _⟩
  | v d ρ1 =>
    rw [e] at a
    cases d with
    | list ds => exact ⟨a.1, fun σ B H W s sd Q q => a.2 σ B H W s sd _ fun v B1 H1 W1 l1 s1 d1 => by
        cases d1 with
        | @lst p xs _ hp hv => exact ⟨p, xs, rfl, .inl (SqL.of (l1.sub _ _ hp)), fun l hl => po_new a.1 l1 s1 hv hl q⟩⟩
    | tuple ds => exact ⟨a.1, fun σ B H W s sd Q q => a.2 σ B H W s sd _ fun v B1 H1 W1 l1 s1 d1 => by
        cases d1 with
        | @tup p xs _ hp hv => exact ⟨p, xs, rfl, .inr (SqT.of (l1.sub _ _ hp)), fun l hl => po_new a.1 l1 s1 hv hl q⟩⟩
    | _ => trivial
theorem ye_cf {R : List PyData → PyData → Prop} {Ew : XK} {g : List PyData → Option PyData} (hg : ∀ ds d, g ds = some d → R ds d) (h : YA K cl E m O al ks fl) (hd : dats ks = true := by rfl) : YE K cl E m O (tCall (SpR K R) [] Ew al) (eCB g fl) := fun ρ =>
  ay_E (h ρ) (fun σ H Q z => z _) fun ds ρ1 m1 hx => ey_of m1 fun d hd2 σ B H W s sd Q q => hx σ B H W s sd _ fun vs B1 H1 W1 l1 s1 a1 => by
    show SpR K R (vs ++ []) H1 Q Ew
    rw [List.append_nil]
    exact ⟨B1, ds, d, l1.sub, a1.das hd, hg ds d hd2, fun z B3 H3 l3 d3 => q z B3 H3 _ (l1.mo l3.o m1) (s1.le l3) d3⟩
end
end TD
set_option maxHeartbeats 4000000
namespace TD
open PySem PySem.Spec PyProof.Rows L2
open Evl (Ex)
theorem get_list0 {X : Cx} : PGet X (rIxL0 X.K) := by
  rintro pins s σ H x y v u Q I hx hy ⟨p, xs, n, w, rfl, rfl, hq, hw, q⟩
  obtain ⟨its, h1, ⟨o, c, e1, e2, _, e3⟩, h3⟩ := I.list hq
  cases (show v = Value.ref p from hx)
  obtain ⟨tk, rfl⟩ := (show ∃ t, u = Value.int (n : Nat) t from hy)
  obtain ⟨z, g1, g2⟩ := vals_at h1 hw
  have hn : n < xs.length := (List.getElem?_eq_some_iff.mp hw).1
  refine wpAny_getItem_list (items := its.toArray) (x := z) ⟨o, e1, e2, c, e3⟩ (Int.natCast_nonneg n) ?_ ?_ ⟨w, H, I, g2, q⟩
  · have : sizeLine < 2 ^ 63 := by decide
    omega
  · rw [Int.toNat_natCast]
    exact (List.getElem?_toArray ..).trans g1
section
variable {K : Fg} {cl : Nat → Addr} {E : XK} {m : Nat} {O : Nat → Bool} {ta tb tc te : TE} {fa fb fc fe : En → ER} {tt tu : TT} {ft fu : En → TR} {al : TA} {fl : En → AR} {ks : List AK} {ρ ρ' ρ1 : En} {t u : TS} {f g : En → SR} {tg : TG} {gz : PyData → En → Option En} {W W1 : OW}
def truD : PyData → Option Bool
  | .none => some false
  | .bool b => some b
  | .int i => some (i != 0)
  | .list ds => some (!ds.isEmpty)
  | .tuple ds => some (!ds.isEmpty)
  | _ => none
def tTru' (fa : En → ER) (ρ : En) : TR := match fa ρ with
  | .v d ρ1 => match truD d with
    | some b => .b b ρ1
    | none => .st
  | .x c i => .x c i
  | _ => .st
theorem das_empty {B : Hp} {vs : List V} {ds : List PyData} (h : Das K B vs ds) : vs.isEmpty = ds.isEmpty := by
  cases h <;> rfl
theorem yt_truth (ha : YE K cl E m O ta fa) : YT K cl E m O (fun σ H Q => ta σ H fun x H' => ∃ k, TruV K x H' k ∧ Q k H') (tTru' fa) := fun ρ => by
  have a := ha ρ
  unfold tTru'
  cases e : fa ρ with
  | st => trivial
  | o d ρ1 => trivial
  | x c i =>
    rw [e] at a
    exact ⟨a.1, fun σ B H W s sd v hv w Q => a.2 σ B H W s sd v hv w _⟩
  | v d ρ1 =>
    rw [e] at a
    dsimp only
    cases h : truD d with
    | none => trivial
    | some b =>
      refine ⟨a.1, fun σ B H W s sd Q q => a.2 σ B H W s sd _ fun v B1 H1 W1 l1 s1 d1 => ⟨b, ?_, q B1 H1 W1 l1 s1⟩⟩
      cases d1 with
      | non => cases h; rfl
      | bl b => cases h; rfl
      | int i => cases h; rfl
      | str x => simp [truD] at h
      | @lst p xs _ hp hv =>
        cases h
        exact .inl ⟨xs, SqL.of (l1.sub _ _ hp), by rw [das_empty hv]⟩
      | @tup p xs _ hp hv =>
        cases h
        exact .inr (.inl ⟨xs, SqT.of (l1.sub _ _ hp), by rw [das_empty hv]⟩)
      | dic _ _ => simp [truD] at h
def isKeyD : PyData → Option Key
  | .int i => some (.inl i)
  | .str s => some (.inr s)
  | _ => none
theorem isKeyD_eq {d : PyData} {k : Key} (h : isKeyD d = some k) : d = keyD k := by
  cases d <;> simp [isKeyD] at h <;> subst h <;> rfl
theorem isKeyD_keyD {k : Key} : isKeyD (keyD k) = some k := by
  cases k <;> rfl
theorem da_key {B : Hp} {v : V} {k : Key} (h : Da K B v (keyD k)) : v = kV k := by
  cases k with
  | inl i => cases h; rfl
  | inr s => cases h; rfl
theorem das_keys {B : Hp} : ∀ {k : List Key} {vs : List V}, Das K B vs (k.map keyD) → vs = k.map kV
  | [], _, .nil => rfl
  | k :: ks, _, .cons h t => by rw [da_key h, das_keys t]; rfl
def keysOf : List PyData → Option (List Key)
  | [] => some []
  | d :: ds => match isKeyD d, keysOf ds with
    | some k, some ks => some (k :: ks)
    | _, _ => none
theorem keysOf_eq : ∀ {ds : List PyData} {ks : List Key}, keysOf ds = some ks → ds = ks.map keyD
  | [], _, h => by
    cases h
    rfl
  | d :: ds, ks, h => by
    unfold keysOf at h
    cases e1 : isKeyD d with
    | none => rw [e1] at h; exact nomatch h
    | some k =>
      cases e2 : keysOf ds with
      | none => rw [e1, e2] at h; exact nomatch h
      | some ks2 =>
        rw [e1, e2] at h
        cases h
        rw [isKeyD_eq e1, keysOf_eq e2]
        rfl
theorem keysOf_map : ∀ {ks : List Key}, keysOf (ks.map keyD) = some ks
  | [] => rfl
  | k :: ks => by
    show (match isKeyD (keyD k), keysOf (ks.map keyD) with
      | some k, some ks => some (k :: ks)
      | _, _ => none) = _
    rw [isKeyD_keyD, keysOf_map]
def isKeysD : PyData → Option (List Key)
  | .tuple ds => keysOf ds
  | _ => none
def encT (k : List Key) : PyData := .tuple (k.map keyD)
theorem isKeysD_encT {k : List Key} : isKeysD (encT k) = some k := keysOf_map
theorem isKeysD_eq {d : PyData} {k : List Key} (h : isKeysD d = some k) : d = encT k := by
  cases d <;> simp [isKeysD] at h
  rw [keysOf_eq h]
  rfl
def getBy {κ : Type} [DecidableEq κ] (dec : PyData → Option κ) (kvs : List (PyData × PyData)) (k : κ) : Option PyData := (kvs.find? fun q => decide (dec q.1 = some k)).map (·.2)
def putBy {κ : Type} [DecidableEq κ] (dec : PyData → Option κ) (enc : κ → PyData) (kvs : List (PyData × PyData)) (k : κ) (d : PyData) : List (PyData × PyData) :=
  if (kvs.any fun q => decide (dec q.1 = some k)) = true then kvs.map fun q => if dec q.1 = some k then (q.1, d) else q else kvs ++ [(enc k, d)]
section
variable {κ : Type} [DecidableEq κ] {dec : PyData → Option κ} {enc : κ → PyData}
theorem get_by (hde : ∀ k, dec (enc k) = some k) {B : Hp} {k : κ} : ∀ {ws : List (κ × V)} {ds : List PyData}, Das K B (ws.map (·.2)) ds → (valV ws k = none ∧ getBy dec ((ws.map fun q => enc q.1).zip ds) k = none) ∨ ∃ v d, valV ws k = some v ∧ getBy dec ((ws.map fun q => enc q.1).zip ds) k = some d ∧ Da K B v d
  | [], _, .nil => .inl ⟨rfl, rfl⟩
  | w :: ws, _, .cons (d := d) (ds := ds) h t => by
    have ih := get_by hde (k := k) t
    have e1 : valV (w :: ws) k = if w.1 = k then some w.2 else valV ws k := by
      unfold valV
      rw [List.find?_cons]
      by_cases z : w.1 = k
      · rw [decide_eq_true z, if_pos z]
        rfl
      · rw [decide_eq_false z, if_neg z]
    have e2 : getBy dec (((w :: ws).map fun q => enc q.1).zip (d :: ds)) k = if w.1 = k then some d else getBy dec ((ws.map fun q => enc q.1).zip ds) k := by
      show ((((enc w.1, d) :: ((ws.map fun q => enc q.1).zip ds))).find? fun q => decide (dec q.1 = some k)).map (·.2) = _
      rw [List.find?_cons]
      by_cases z : w.1 = k
      · rw [decide_eq_true (show dec (enc w.1) = some k by rw [hde, z]), if_pos z]
        rfl
      · rw [decide_eq_false (show ¬ dec (enc w.1) = some k by rw [hde]; exact fun w => z (Option.some.inj w)), if_neg z]
        rfl
    rw [e1, e2]
    by_cases z : w.1 = k
    · rw [if_pos z, if_pos z]
      exact .inr ⟨_, _, rfl, rfl, h⟩
    · rw [if_neg z, if_neg z]
      exact ih
theorem put_by (hde : ∀ k, dec (enc k) = some k) {B : Hp} {k : κ} {v : V} {d : PyData} (hd : Da K B v d) {ws : List (κ × V)} {ds : List PyData} (h : Das K B (ws.map (·.2)) ds) : ∃ ds', Das K B ((putK ws k v).map (·.2)) ds' ∧ putBy dec enc ((ws.map fun q => enc q.1).zip ds) k d = ((putK ws k v).map fun q => enc q.1).zip ds' := by
  have any_eq : ∀ {ws : List (κ × V)} {ds : List PyData}, Das K B (ws.map (·.2)) ds → (((ws.map fun q => enc q.1).zip ds).any fun q => decide (dec q.1 = some k)) = ws.any fun q => decide (q.1 = k) := by
    intro ws
    induction ws with
    | nil => exact fun _ => rfl
    | cons w ws ih =>
      intro ds h
      cases h with
      | @cons _ _ d ds h t =>
        show (decide (dec (enc w.1) = some k) || (((ws.map fun q => enc q.1).zip ds).any fun q => decide (dec q.1 = some k))) = (decide (w.1 = k) || _)
        rw [ih t, hde]
        congr 1
        exact decide_eq_decide.mpr ⟨fun z => Option.some.inj z, fun z => by rw [z]⟩
  have map_eq : ∀ {ws : List (κ × V)} {ds : List PyData}, Das K B (ws.map (·.2)) ds → ∃ ds', Das K B ((ws.map fun q => if q.1 = k then (q.1, v) else q).map (·.2)) ds' ∧ (((ws.map fun q => enc q.1).zip ds).map fun q => if dec q.1 = some k then (q.1, d) else q) = ((ws.map fun q => if q.1 = k then (q.1, v) else q).map fun q => enc q.1).zip ds' := by
    intro ws
    induction ws with
    | nil => exact fun _ => ⟨[], .nil, rfl⟩
    | cons w ws ih =>
      intro ds h
      cases h with
      | @cons _ _ d0 ds h t =>
        obtain ⟨ds', q1, q2⟩ := ih t
        by_cases z : w.1 = k
        · refine ⟨d :: ds', ?_, ?_⟩
          · show Das K B ((if w.1 = k then (w.1, v) else w).2 :: _) _
            rw [if_pos z]
            exact .cons hd q1
          · show (if dec (enc w.1) = some k then (enc w.1, d) else (enc w.1, d0)) :: (((ws.map fun q => enc q.1).zip ds).map fun q => if dec q.1 = some k then (q.1, d) else q) = (enc (if w.1 = k then (w.1, v) else w).1, d) :: ((ws.map fun q => if q.1 = k then (q.1, v) else q).map fun q => enc q.1).zip ds'
            rw [q2, hde, if_pos z, if_pos (by rw [z])]
        · refine ⟨d0 :: ds', ?_, ?_⟩
          · show Das K B ((if w.1 = k then (w.1, v) else w).2 :: _) _
            rw [if_neg z]
            exact .cons h q1
          · show (if dec (enc w.1) = some k then (enc w.1, d) else (enc w.1, d0)) :: (((ws.map fun q => enc q.1).zip ds).map fun q => if dec q.1 = some k then (q.1, d) else q) = (enc (if w.1 = k then (w.1, v) else w).1, d0) :: ((ws.map fun q => if q.1 = k then (q.1, v) else q).map fun q => enc q.1).zip ds'
            rw [q2, hde, if_neg z, if_neg (fun w => z (Option.some.inj w))]
  unfold putBy putK
  rw [any_eq h]
  cases e : ws.any fun q => decide (q.1 = k) with
  | true => exact map_eq h
  | false =>
    refine ⟨ds ++ [d], ?_, ?_⟩
    · show Das K B ((ws ++ [(k, v)]).map (·.2)) _
      rw [List.map_append]
      exact h.app (.cons hd .nil)
    · show _ ++ _ = ((ws ++ [(k, v)]).map fun q => enc q.1).zip (ds ++ [d])
      rw [List.map_append, List.zip_append (by rw [List.length_map, ← h.len, List.length_map])]
      rfl
theorem putBy_len {B : Hp} {ws : List (κ × V)} {ds : List PyData} (h : Das K B (ws.map (·.2)) ds) : ((ws.map fun q => enc q.1).zip ds).length = ws.length := by
  rw [List.length_zip, List.length_map, ← h.len, List.length_map, Nat.min_self]
end
end
end TD
set_option maxHeartbeats 4000000
namespace TD
open PySem PySem.Spec PyProof.Rows L2
open Evl (Ex)
section
variable {K : Fg} {cl : Nat → Addr} {E : XK} {m : Nat} {O : Nat → Bool} {ta tb tc te tk tx : TE} {fa fb fc fe fk fx : En → ER} {tt tu : TT} {ft fu : En → TR} {al : TA} {fl : En → AR} {ks : List AK} {ρ ρ' ρ1 : En} {t u : TS} {f g : En → SR} {tg : TG} {gz : PyData → En → Option En} {W W1 : OW}
def lookD (kvs : List (PyData × PyData)) (k : PyData) : Option (Option PyData) := (isKeyD k).map fun q => getBy isKeyD kvs q
def lookT (kvs : List (PyData × PyData)) (k : PyData) : Option (Option PyData) := (isKeysD k).map fun q => getBy isKeysD kvs q
theorem da_tup {B : Hp} {v : V} {ds : List PyData} (h : Da K B v (.tuple ds)) : ∃ a xs, v = .ref a ∧ B a = some (.tup xs) ∧ Das K B xs ds := by
  cases h with
  | tup h1 h2 => exact ⟨_, _, rfl, h1, h2⟩
theorem da_dict {B : Hp} {v : V} {kvs : List (PyData × PyData)} (h : Da K B v (.dict kvs)) : ∃ a ws ds, v = .ref a ∧ B a = some (.dK ws) ∧ Das K B (ws.map (·.2)) ds ∧ kvs = (ws.map fun q => keyD q.1).zip ds := by
  generalize e : PyData.dict kvs = d at h
  cases h with
  | dic h1 h2 =>
    cases e
    exact ⟨_, _, _, rfl, h1, h2, rfl⟩
  | _ => cases e
def OpDa (K : Fg) (B : Hp) : Option PyData → Option V → Prop
  | some d, some v => Da K B v d
  | none, none => True
  | _, _ => False
theorem dget_K {B : Hp} {H : Hp} {a : Addr} {ws : List (Key × V)} {ds : List PyData} {y : V} {k : PyData} {o : Option PyData} (ha : H a = some (.dK ws)) (hv : Das K B (ws.map (·.2)) ds) (hy : Da K B y k) (h : lookD ((ws.map fun q => keyD q.1).zip ds) k = some o) : ∃ ov, DGet H a y ov ∧ OpDa K B o ov := by
  obtain ⟨q, e1, e2⟩ := Option.map_eq_some_iff.mp h
  have := isKeyD_eq e1
  subst this
  refine ⟨valV ws q, .inl ⟨ws, q, .inl ha, da_key hy, rfl⟩, ?_⟩
  rcases get_by (dec := isKeyD) (enc := keyD) (fun k => isKeyD_keyD) (k := q) hv with ⟨g1, g2⟩ | ⟨v, d, g1, g2, g3⟩
  · rw [g2] at e2
    subst e2
    rw [g1]
    trivial
  · rw [g2] at e2
    subst e2
    rw [g1]
    exact g3
theorem dget_T {B : Hp} {H : Hp} {a : Addr} {ws : List (List Key × V)} {ds : List PyData} {y : V} {k : PyData} {o : Option PyData} (sx : Ex B H) (ha : H a = some (.dT ws)) (hv : Das K B (ws.map (·.2)) ds) (hy : Da K B y k) (h : lookT ((ws.map fun q => encT q.1).zip ds) k = some o) : ∃ ov, DGet H a y ov ∧ OpDa K B o ov := by
  obtain ⟨q, e1, e2⟩ := Option.map_eq_some_iff.mp h
  have := isKeysD_eq e1
  subst this
  obtain ⟨b, xs, rfl, hb, hxs⟩ := da_tup hy
  rw [das_keys hxs] at hb
  refine ⟨valV ws q, .inr ⟨ws, q, b, .inl ha, rfl, sx _ _ hb, rfl⟩, ?_⟩
  rcases get_by (dec := isKeysD) (enc := encT) (fun k => isKeysD_encT) (k := q) hv with ⟨g1, g2⟩ | ⟨v, d, g1, g2, g3⟩
  · rw [g2] at e2
    subst e2
    rw [g1]
    trivial
  · rw [g2] at e2
    subst e2
    rw [g1]
    exact g3
def rDIx : R2 := fun x y H Q => ∃ a v, x = .ref a ∧ DGet H a y (some v) ∧ Q v H
def gDIx : PyData → PyData → Option PyData
  | .dict kvs, k => match lookD kvs k with
    | some (some d) => some d
    | _ => none
  | _, _ => none
theorem o_dix : Op2 K rDIx gDIx := fun x y z h => by
  intro v w B H s h1 h2 Q q
  cases x with
  | dict kvs =>
    obtain ⟨a, ws, ds, rfl, ha, hv, rfl⟩ := da_dict h1
    unfold gDIx at h
    dsimp only at h
    split at h
    · next d e =>
      cases h
      obtain ⟨ov, g1, g2⟩ := dget_K (s _ _ ha) hv h2 e
      cases ov with
      | none => exact g2.elim
      | some u => exact ⟨a, u, rfl, g1, q u B H (Le.rfl' s) g2⟩
    · exact nomatch h
  | _ => exact nomatch h
theorem ye_dix (ha : YE K cl E m O ta fa) (hb : YE K cl E m O tb fb) : YE K cl E m O (tDGet ta tb) (eOp gDIx fa fb) := ye_op (r := rDIx) o_dix ha hb
theorem none_of {B H : Hp} (s : Ex B H) {p : Addr} (h : H p = none) : B p = none := by
  cases w : B p with
  | none => rfl
  | some o =>
    rw [s p o w] at h
    exact nomatch h
def eNewK (ρ : En) : ER := .o (.dict []) ρ
def eNewT (ρ : En) : ER := .o (tD []) ρ
theorem ye_newK : YE K cl E m O tDNewK eNewK := fun ρ => ⟨Mo.rfl', fun σ B H W s sd Q q p hp => by
  have l := Le.new (o := .dK []) s hp
  have hB : B p = none := none_of s hp
  exact po_le sd ⟨l.ex, Ex.refl B, s.trans (Ex.new hp), fun _ h _ => h⟩ hB hp (d := .dict []) ⟨rfl, [], [], upd_same, .nil, rfl⟩ q⟩
theorem ye_newT : YE K cl E m O tDNewT eNewT := fun ρ => ⟨Mo.rfl', fun σ B H W s sd Q q p hp => by
  have l := Le.new (o := .dT []) s hp
  have hB : B p = none := none_of s hp
  exact po_le sd ⟨l.ex, Ex.refl B, s.trans (Ex.new hp), fun _ h _ => h⟩ hB hp (d := tD []) ⟨rfl, [], [], upd_same, .nil, rfl⟩ q⟩
def lookO (i : Nat) (ρ : En) (k : PyData) : Option (Option PyData) := match ρ[i]? with
  | some (some (.dict kvs)) => lookD kvs k
  | some (some (.tuple [.dict kvs])) => lookT kvs k
  | _ => none
def hasO (i : Nat) (ρ : En) : Bool := match ρ[i]? with
  | some (some _) => true
  | _ => false
def isDO (i : Nat) (ρ : En) : Bool := match ρ[i]? with
  | some (some (.dict _)) => true
  | some (some (.tuple [.dict _])) => true
  | _ => false
theorem has_own {i : Nat} {σ : L2.St} {B H : Hp} (sd : SDo K O σ B H ρ W) (hO : O i = true) (h : hasO i ρ = true) : ∃ p d, ρ[i]? = some (some d) ∧ σ[i]? = some (some (.ref p)) ∧ Own K B H p (W i) d := by
  unfold hasO at h
  split at h
  · next d e =>
    obtain ⟨p, a, c⟩ := sd.own i d hO e
    exact ⟨p, d, e, a, c⟩
  · exact nomatch h
theorem isD_own {i : Nat} {σ : L2.St} {B H : Hp} (sd : SDo K O σ B H ρ W) (hO : O i = true) (h : isDO i ρ = true) : ∃ p, σ[i]? = some (some (.ref p)) ∧ IsD H p := by
  unfold isDO at h
  split at h
  · next kvs e =>
    obtain ⟨p, a, b, ws, ds, c, _⟩ := sd.own i _ hO e
    exact ⟨p, a, .inl ⟨ws, .inl c⟩⟩
  · next kvs e =>
    obtain ⟨p, a, b, ws, ds, c, _⟩ := sd.own i _ hO e
    exact ⟨p, a, .inr ⟨ws, .inl c⟩⟩
  · exact nomatch h
theorem look_own {i : Nat} {σ : L2.St} {B H : Hp} {y : V} {k : PyData} {o : Option PyData} (sx : Ex B H) (sd : SDo K O σ B H ρ W) (hO : O i = true) (hy : Da K B y k) (h : lookO i ρ k = some o) : ∃ p ov, σ[i]? = some (some (.ref p)) ∧ DGet H p y ov ∧ OpDa K B o ov := by
  unfold lookO at h
  split at h
  · next kvs e =>
    obtain ⟨p, a, b, ws, ds, c, hv, rfl⟩ := sd.own i _ hO e
    obtain ⟨ov, g1, g2⟩ := dget_K c hv hy h
    exact ⟨p, ov, a, g1, g2⟩
  · next kvs e =>
    obtain ⟨p, a, b, ws, ds, c, hv, rfl⟩ := sd.own i _ hO e
    obtain ⟨ov, g1, g2⟩ := dget_T sx c hv hy h
    exact ⟨p, ov, a, g1, g2⟩
  · exact nomatch h
theorem has_v {i : Nat} (hO : O i = true) (h : hasO i ρ = true) : ∀ σ B H W, SDo K O σ B H ρ W → ∃ v, σ[i]? = some (some v) := fun σ B H W sd => let ⟨p, _, _, e, _⟩ := has_own sd hO h; ⟨.ref p, e⟩
def eDInO (neg : Bool) (i : Nat) (fk : En → ER) (ρ : En) : ER := eThen (fk ρ) fun k ρ1 => match lookO i ρ1 k with
  | some o => .v (.bool (neg != o.isSome)) ρ1
  | none => .st
theorem opda_is {B : Hp} {o : Option PyData} {ov : Option V} (h : OpDa K B o ov) : ov.isSome = o.isSome := by
  cases o <;> cases ov <;> first | rfl | exact h.elim
theorem ye_dinO {i : Nat} (hk : YE K cl E m O tk fk) (hO : O i = true := by rfl) : YE K cl E m O (tDIn tk (tVar i)) (eDInO false i fk) := fun ρ =>
  ey_then (hk ρ) (fun σ H Q z => z _) fun k ρ1 m1 hx => by
    split
    · next o h =>
      refine ⟨m1, fun σ B H W s sd Q q => hx σ B H W s sd _ fun y B1 H1 W1 l1 s1 d1 => ?_⟩
      obtain ⟨p, ov, e1, g1, g2⟩ := look_own l1.sub s1 hO d1 h
      refine ⟨.ref p, e1, p, ov, rfl, g1, q _ B1 H1 W1 l1 s1 ?_⟩
      rw [opda_is g2]
      cases o.isSome <;> exact .bl _
    · trivial
theorem ye_dniO {i : Nat} (hk : YE K cl E m O tk fk) (hO : O i = true := by rfl) : YE K cl E m O (tDNotIn tk (tVar i)) (eDInO true i fk) := fun ρ =>
  ey_then (hk ρ) (fun σ H Q z => z _) fun k ρ1 m1 hx => by
    split
    · next o h =>
      refine ⟨m1, fun σ B H W s sd Q q => hx σ B H W s sd _ fun y B1 H1 W1 l1 s1 d1 => ?_⟩
      obtain ⟨p, ov, e1, g1, g2⟩ := look_own l1.sub s1 hO d1 h
      refine ⟨.ref p, e1, p, ov, rfl, g1, q _ B1 H1 W1 l1 s1 ?_⟩
      rw [opda_is g2]
      cases o.isSome <;> exact .bl _
    · trivial
def eDGetO (i : Nat) (fk fx : En → ER) (ρ : En) : ER := match isDO i ρ with
  | false => .st
  | true => eThen (fk ρ) fun k ρ1 => eThen (fx ρ1) fun x ρ2 => match lookO i ρ2 k with
    | some (some d) => .v d ρ2
    | some none => .v x ρ2
    | none => .st
theorem ye_dgetO {i : Nat} (hk : YE K cl E m O tk fk) (hx : YE K cl E m O tx fx) (hO : O i = true := by rfl) : YE K cl E m O (tDGet2 (tVar i) tk tx) (eDGetO i fk fx) := fun ρ => by
  unfold eDGetO
  cases h0 : isDO i ρ with
  | false => trivial
  | true =>
    have start : ∀ {σ B H W}, SDo K O σ B H ρ W → ∃ p, σ[i]? = some (some (.ref p)) ∧ IsD H p := fun sd => isD_own sd hO h0
    have a := hk ρ
    show EOy K cl E m O _ ρ (eThen (fk ρ) _)
    unfold eThen
    cases h : fk ρ with
    | st => trivial
    | o d ρ1 => trivial
    | x c j =>
      rw [h] at a
      refine ⟨a.1, fun σ B H W s sd v hv w Q => ?_⟩
      obtain ⟨p, e, d⟩ := start sd
      exact ⟨.ref p, e, p, rfl, d, a.2 σ B H W s sd v hv w _⟩
    | v k ρ1 =>
      rw [h] at a
      have b := hx ρ1
      show EOy K cl E m O _ ρ (eThen (fx ρ1) _)
      unfold eThen
      cases h2 : fx ρ1 with
      | st => trivial
      | o d ρ2 => trivial
      | x c j =>
        rw [h2] at b
        refine ⟨b.1, fun σ B H W s sd v hv w Q => ?_⟩
        obtain ⟨p, e, d⟩ := start sd
        exact ⟨.ref p, e, p, rfl, d, a.2 σ B H W s sd _ fun u B1 H1 W1 l1 s1 d1 => b.2 σ B1 H1 W1 l1.sub s1 v hv (w.behind l1 a.1) _⟩
      | v x ρ2 =>
        rw [h2] at b
        dsimp only
        have go : ∀ (o : Option PyData) (r : PyData), lookO i ρ2 k = some o → r = o.getD x → EOy K cl E m O (tDGet2 (tVar i) tk tx) ρ (.v r ρ2) := fun o r h3 hr => by
          refine ⟨a.1.tr b.1, fun σ B H W s sd Q q => ?_⟩
          obtain ⟨p, e, d⟩ := start sd
          refine ⟨.ref p, e, p, rfl, d, a.2 σ B H W s sd _ fun y B1 H1 W1 l1 s1 d1 => b.2 σ B1 H1 W1 l1.sub s1 _ fun z B2 H2 W2 l2 s2 d2 => ?_⟩
          obtain ⟨p', ov, e1, g1, g2⟩ := look_own l2.sub s2 hO (d1.ex l2.ek) h3
          rw [e] at e1
          cases e1
          refine ⟨ov, g1, q _ B2 H2 _ (l1.mo l2 a.1) s2 ?_⟩
          subst hr
          cases o with
          | none =>
            cases ov with
            | none => exact d2
            | some _ => exact g2.elim
          | some d =>
            cases ov with
            | none => exact g2.elim
            | some u => exact g2
        cases h3 : lookO i ρ2 k with
        | none => trivial
        | some o =>
          cases o with
          | none => exact go none x h3 rfl
          | some d => exact go (some d) d h3 rfl
def putO (i : Nat) (ρ : En) (k d : PyData) : Option PyData := match ρ[i]? with
  | some (some (.dict kvs)) => match isKeyD k, decide (kvs.length ≤ 90000) with
    | some q, true => some (.dict (putBy isKeyD keyD kvs q d))
    | _, _ => none
  | some (some (.tuple [.dict kvs])) => match isKeysD k, decide (kvs.length ≤ 90000) with
    | some q, true => some (tD (putBy isKeysD encT kvs q d))
    | _, _ => none
  | _ => none
theorem put_own {i : Nat} {σ : L2.St} {B H : Hp} {y v : V} {k d c : PyData} (sx : Ex B H) (sd : SDo K O σ B H ρ W) (hO : O i = true) (hy : Da K B y k) (hv : Da K B v d) (h : putO i ρ k d = some c) : ∃ p o e, ρ[i]? = some (some e) ∧ σ[i]? = some (some (.ref p)) ∧ DPut H p y v (upd H p o) ∧ Own K B (upd H p o) p (W i) c := by
  unfold putO at h
  split at h
  · next kvs e =>
    obtain ⟨p, a, b, ws, ds, hp, hw, rfl⟩ := sd.own i _ hO e
    split at h
    · next q hq hz =>
      cases h
      have hl := of_decide_eq_true hz
      rw [putBy_len hw] at hl
      have := isKeyD_eq hq
      subst this
      obtain ⟨ds', g1, g2⟩ := put_by (dec := isKeyD) (enc := keyD) (fun k => isKeyD_keyD) (k := q) hv hw
      exact ⟨p, .dK (putK ws q v), _, e, a, .inl ⟨ws, q, hp, da_key hy, Nat.lt_of_le_of_lt hl (by decide), rfl⟩, b, putK ws q v, ds', upd_same, g1, g2⟩
    · exact nomatch h
  · next kvs e =>
    obtain ⟨p, a, b, ws, ds, hp, hw, rfl⟩ := sd.own i _ hO e
    split at h
    · next q hq hz =>
      cases h
      have hl := of_decide_eq_true hz
      rw [show (ws.map fun q => PyData.tuple (q.1.map keyD)) = ws.map fun q => encT q.1 from rfl, putBy_len hw] at hl
      have := isKeysD_eq hq
      subst this
      obtain ⟨bb, xs, rfl, hb, hxs⟩ := da_tup hy
      rw [das_keys hxs] at hb
      obtain ⟨ds', g1, g2⟩ := put_by (dec := isKeysD) (enc := encT) (fun k => isKeysD_encT) (k := q) hv hw
      exact ⟨p, .dT (putK ws q v), _, e, a, .inr ⟨ws, q, bb, hp, rfl, sx _ _ hb, Nat.lt_of_le_of_lt hl (by decide), rfl⟩, b, putK ws q v, ds', upd_same, g1, g2⟩
    · exact nomatch h
  · exact nomatch h
def sDSetO (i : Nat) (fk fe : En → ER) (ρ : En) : SR := sE (fe ρ) fun d ρ1 => match hasO i ρ1 with
  | false => .st
  | true => sE (fk ρ1) fun k ρ2 => match putO i ρ2 k d with
    | some c => .nx (ρ2.set i (some c))
    | none => .st
theorem ys_dsetO {i : Nat} (he : YE K cl E m O te fe) (hk : YE K cl E m O tk fk) (hO : O i = true := by rfl) : YS K cl E m O (tAsg te (gSub (tVar i) tk rSetD)) (sDSetO i fk fe) := fun ρ => by
  unfold sDSetO
  refine sy_E he (fun σ B H W D sd z => z _) fun d ρ1 m1 hd => ?_
  cases h1 : hasO i ρ1 with
  | false => exact .stuck
  | true =>
    have a := hk ρ1
    show SOy K cl E m O _ ρ (sE (fk ρ1) _)
    unfold sE
    cases h : fk ρ1 with
    | st => exact .stuck
    | o k ρ2 => exact .stuck
    | x c j =>
      rw [h] at a
      refine .raise a.1 fun σ B H W D s sd v hv w => hd σ B H W s sd _ fun u B1 H1 W1 l1 s1 d1 => ?_
      obtain ⟨v0, e⟩ := has_v hO h1 σ B1 H1 W1 s1
      exact ⟨v0, e, a.2 σ B1 H1 W1 l1.sub s1 v hv (w.behind l1 m1) _⟩
    | v k ρ2 =>
      rw [h] at a
      dsimp only
      cases h2 : putO i ρ2 k d with
      | none => exact .stuck
      | some c =>
        refine ⟨fun _ _ h => (nomatch h), fun σ B H W D s sd q => hd σ B H W s sd _ fun u B1 H1 W1 l1 s1 d1 => ?_⟩
        obtain ⟨v0, e0⟩ := has_v hO h1 σ B1 H1 W1 s1
        refine ⟨v0, e0, a.2 σ B1 H1 W1 l1.sub s1 _ fun y B2 H2 W2 l2 s2 d2 => ?_⟩
        obtain ⟨p, o, e, he', e1, g1, g2⟩ := put_own l2.sub s2 hO d2 (d1.ex l2.ek) h2
        rw [e0] at e1
        cases e1
        refine ⟨p, _, rfl, g1, ?_⟩
        obtain ⟨s3, l3⟩ := s2.chg (d' := c) (o := o) l2.sub i hO he' e0 g2
        exact q σ B2 _ _ ((l1.mo l2 m1).mo l3 (m1.tr a.1)) s3 fun _ _ => rfl
end
end TD
set_option maxHeartbeats 4000000
namespace TD
open PySem PySem.Spec PyProof.Rows L2
open Evl (Ex)
def insI (n : Int) : List Int → List Int
  | [] => [n]
  | k :: ks => match decide (n ≤ k) with
    | true => n :: k :: ks
    | false => k :: insI n ks
def sortI : List Int → List Int
  | [] => []
  | n :: ns => insI n (sortI ns)
theorem insI_perm (n : Int) : ∀ ks : List Int, (insI n ks).Perm (n :: ks)
  | [] => .refl _
  | k :: ks => by
    unfold insI
    cases decide (n ≤ k) with
    | true => exact .refl _
    | false => exact .trans (.cons k (insI_perm n ks)) (.swap n k ks)
theorem sortI_perm : ∀ ns : List Int, (sortI ns).Perm ns
  | [] => .refl _
  | n :: ns => .trans (insI_perm n (sortI ns)) (.cons n (sortI_perm ns))
theorem insI_pw (n : Int) : ∀ {ks : List Int}, ks.Pairwise (· ≤ ·) → (insI n ks).Pairwise (· ≤ ·)
  | [], _ => List.pairwise_singleton _ _
  | k :: ks, h => by
    unfold insI
    cases e : decide (n ≤ k) with
    | true =>
      have hn := of_decide_eq_true e
      refine List.pairwise_cons.mpr ⟨fun b hb => ?_, h⟩
      rcases List.mem_cons.mp hb with z | z
      · omega
      · have := (List.pairwise_cons.mp h).1 b z
        omega
    | false =>
      have hn := of_decide_eq_false e
      refine List.pairwise_cons.mpr ⟨fun b hb => ?_, insI_pw n (List.pairwise_cons.mp h).2⟩
      rcases List.mem_cons.mp ((insI_perm n ks).mem_iff.mp hb) with z | z
      · omega
      · exact (List.pairwise_cons.mp h).1 b z
theorem sortI_pw : ∀ ns : List Int, (sortI ns).Pairwise (· ≤ ·)
  | [] => .nil
  | n :: ns => insI_pw n (sortI_pw ns)
theorem sortI_eq {ns ms : List Int} (h : ms.Perm ns) (w : ms.Pairwise (· ≤ ·)) : ms = sortI ns :=
  List.Perm.eq_of_pairwise (fun a b _ _ h1 h2 => Int.le_antisymm h1 h2) w (sortI_pw ns) (h.trans (sortI_perm ns).symm)
section
variable {K : Fg} {cl : Nat → Addr} {E : XK} {m : Nat} {O : Nat → Bool} {ta tb tc te tk tx : TE} {fa fb fc fe fk fx : En → ER} {tt tu : TT} {ft fu : En → TR} {al : TA} {fl : En → AR} {ks : List AK} {ρ ρ' ρ1 : En} {t u : TS} {f g : En → SR} {tg : TG} {gz : PyData → En → Option En} {W W1 : OW}
theorem das_intV {B : Hp} : ∀ ns : List Int, Das K B (ns.map V.int) (ns.map PyData.int)
  | [] => .nil
  | n :: ns => .cons (.int n) (das_intV ns)
def rSortedDI (K : Fg) : List V → Hp → VK → Prop := fun xs H Q => ∃ (a : Addr) (kvs : List (Key × V)) (ks : List Int), xs = [.ref a] ∧ Rd H a (.dK kvs) ∧ kvs.map (·.1) = ks.map Sum.inl ∧ ks.length < 64 ∧ ∀ (ys : List Int) (p : Addr), ys.Perm ks → ys.Pairwise (· ≤ ·) → H p = none → Q (.ref p) (upd H p (.lst (ys.map V.int)))
def gSortedD : List PyData → Option PyData
  | [.dict kvs] => match intsOf (kvs.map (·.1)) with
    | some ns => match decide (ns.length < 64) with
      | true => some (.list ((sortI ns).map PyData.int))
      | false => none
    | none => none
  | _ => none
theorem keys_ints : ∀ {ws : List (Key × V)} {ns : List Int}, (ws.map fun q => keyD q.1) = ns.map PyData.int → ws.map (·.1) = ns.map Sum.inl
  | [], [], _ => rfl
  | w :: ws, n :: ns, h => by
    obtain ⟨h1, h2⟩ := List.cons.inj h
    show w.1 :: _ = Sum.inl n :: _
    rw [keys_ints h2]
    cases w with
    | mk k v =>
      cases k with
      | inl i =>
        cases h1
        rfl
      | inr s => cases h1
  | [], _ :: _, h => nomatch h
  | _ :: _, [], h => nomatch h
theorem c_sortedD : OpC K (rSortedDI K) gSortedD := fun xs z h => by
  intro vs B H s hv Q q
  unfold gSortedD at h
  split at h
  · next kvs =>
    split at h
    · next ns e1 =>
      split at h
      · next e2 =>
        cases h
        obtain ⟨v, r, rfl, dv, dr⟩ := hv.inv1
        cases dr
        obtain ⟨a, ws, ds, rfl, ha, hw, rfl⟩ := da_dict dv
        have e3 : ((ws.map fun q => keyD q.1).zip ds).map (·.1) = ws.map fun q => keyD q.1 := List.map_fst_zip (by rw [List.length_map, ← hw.len, List.length_map]; exact Nat.le_refl _)
        rw [e3] at e1
        refine ⟨a, ws, ns, rfl, .inl (s _ _ ha), keys_ints (intsOf_eq e1), of_decide_eq_true e2, fun ms l hm hpw hl => ?_⟩
        rw [sortI_eq hm hpw]
        have l2 := Le.new (o := .lst ((sortI ns).map V.int)) s hl
        exact q _ _ _ l2 (.lst upd_same (das_intV _))
      · exact nomatch h
    · exact nomatch h
  · exact nomatch h
def gRepr : List PyData → Option PyData
  | [d] => match d.showable && (decide (d.depth ≤ 100) && decide (sz d ≤ 16000000)) with
    | true => some (.str d.shown)
    | false => none
  | _ => none
theorem c_repr : OpC K (rRepr K) gRepr := fun xs z h => by
  unfold gRepr at h
  split at h
  · next d =>
    split at h
    · next e =>
      cases h
      have e1 := Bool.and_eq_true_iff.mp e
      have e2 := Bool.and_eq_true_iff.mp e1.2
      exact rc_repr ⟨e1.1, of_decide_eq_true e2.1, of_decide_eq_true e2.2⟩
    · exact nomatch h
  · exact nomatch h
def gInt : List PyData → Option PyData
  | [.int i] => some (.int i)
  | _ => none
def rInt1' : List V → Hp → VK → Prop := fun xs H Q => (∃ i, xs = [.int i] ∧ Q (.int i) H) ∨ ∃ k, xs = [.bl k] ∧ Q (.int (if k then 1 else 0)) H
theorem c_int : OpC K rInt1' gInt := fun xs z h => by
  intro vs B H s hv Q q
  unfold gInt at h
  split at h
  · next i =>
    cases h
    obtain ⟨v, r, rfl, dv, dr⟩ := hv.inv1
    cases dr
    cases dv
    exact .inl ⟨i, rfl, q _ B H (Le.rfl' s) (.int i)⟩
  · exact nomatch h
def gBits : PyData → Option PyData
  | .int i => some (.int (Builtin.Int.intBits i : Nat))
  | _ => none
theorem ye_bits (ha : YE K cl E m O ta fa) : YE K cl E m O (tBits ta) (eUn gBits fa) := fun ρ =>
  ey_then (ha ρ) (fun σ H Q z => z _) fun x ρ1 m1 hx => ey_of m1 fun d hd σ B H W s sd Q q => hx σ B H W s sd _ fun v B1 H1 W1 l1 s1 d1 => by
    cases x with
    | int i =>
      cases hd
      cases d1
      exact ⟨i, rfl, q _ B1 H1 W1 l1 s1 (.int _)⟩
    | _ => exact nomatch hd
def gRep : PyData → PyData → Option PyData
  | .list ds, .int k => match decide (0 ≤ k ∧ k ≤ 1000 ∧ ds.length ≤ 1000) with
    | true => some (.list (List.replicate k.toNat ds).flatten)
    | false => none
  | _, _ => none
theorem o_rep : Op2 K rRep gRep := fun x y z h => by
  unfold gRep at h
  split at h
  · split at h
    · next e =>
      cases h
      exact r_rep (of_decide_eq_true e)
    · exact nomatch h
  · exact nomatch h
def sB : Option (En → ER) → En → Option (Option Int × En)
  | none, ρ => some (none, ρ)
  | some f, ρ => match f ρ with
    | .v (.int i) ρ1 => some (some i, ρ1)
    | _ => none
def eSl (fa : En → ER) (lo hi : Option (En → ER)) (ρ : En) : ER := match fa ρ with
  | .v (.list ds) ρ1 => match sB lo ρ1 with
    | some (l, ρ2) => match sB hi ρ2 with
      | some (u, ρ3) => .v (.list (cutD ds l u)) ρ3
      | none => .st
    | none => .st
  | _ => .st
end
end TD
set_option maxHeartbeats 4000000
namespace TD
open PySem PySem.Spec PyProof.Rows L2
open Evl (Ex)
def pick {α : Type} (is : List Nat) (l : List α) : List α := is.filterMap fun i => l[i]?
theorem pick_vals {zs : List V} {ws : List Value} (h : Vals zs ws) : ∀ is : List Nat, Vals (pick is zs) (pick is ws)
  | [] => .nil
  | i :: is => by
    have ih := pick_vals h is
    unfold pick at *
    rw [List.filterMap_cons, List.filterMap_cons]
    cases e : zs[i]? with
    | none =>
      rw [List.getElem?_eq_none (by rw [← Paired.length h]; exact List.getElem?_eq_none_iff.mp e)]
      exact ih
    | some v =>
      obtain ⟨u, e2, r⟩ := vals_at h e
      rw [e2]
      exact .cons r ih
theorem pick_das {K : Fg} {B : Hp} {zs : List V} {ds : List PyData} (h : Das K B zs ds) : ∀ is : List Nat, Das K B (pick is zs) (pick is ds)
  | [] => .nil
  | i :: is => by
    have ih := pick_das h is
    unfold pick at *
    rw [List.filterMap_cons, List.filterMap_cons]
    cases e : zs[i]? with
    | none =>
      rw [List.getElem?_eq_none (by rw [← h.len]; exact List.getElem?_eq_none_iff.mp e)]
      exact ih
    | some v =>
      obtain ⟨d, e2, r⟩ := h.get e
      rw [e2]
      exact .cons r ih
section
variable (P : Program) (w : World) (K : Fg) (mg : Str → Option Value) (base : Heap)
def Fxk (x : Str) (ps ks : List Str) (is : List Nat) (k : Nat) (sp : Sp) : Prop :=
  ∃ (f : Addr) (fd : FuncData), mg x = some (.ref f) ∧ PySem.W.keepIn K (.ref f) = true ∧ KAll fd ps ks (pick is) (pick is) ∧ FnG P w K mg base (L2.CX P w) k f fd ps sp
end
section
variable {P : Program} {w : World} {K : Fg} {mg : Str → Option Value} {base : Heap} {x : Str} {ps ks N : List Str} {is : List Nat} {k m : Nat} {st : Stmt} {cl : Nat → Addr} {O : Nat → Bool}
theorem fy_mk2 {f : En → SR} (op : Option Nat) (a : At K mg x st) (S : FnScope N ps (defScope st))
    (hb : ∀ (kV doc pm : Value) (an : Option Addr) (cdv ct : Value) (us : List Value), us.length = ps.length → bindArgs (PySem.W.fnOf x x (defArgs st) (defBody st) (defScope st) .none kV doc pm an cdv ct) ⟨us, []⟩ = pure (ps.zip us))
    (hk : ∀ (kV doc pm : Value) (an : Option Addr) (cdv ct : Value) (ws : List Value), ws.length = ks.length → bindArgs (PySem.W.fnOf x x (defArgs st) (defBody st) (defScope st) .none kV doc pm an cdv ct) ⟨[], ks.zip ws⟩ = pure (ps.zip (pick is ws)))
    (hO : ∀ j, j < ps.length → (O j = true ↔ op = some j)) (hop : ∀ j, op = some j → j < m ∧ j < ps.length)
    (body : ∀ (f' : Addr) (cdv : Value) (A : Around) (outer : List Env) (s : Shared) (H : Hp) (E : XK), A.guards = some [] → Room k (A.deeper (envOfC x (defScope st) s.heap.objs.size f' cdv)) →
      Takes (cxOf (L2.CX P w) P w K mg base N x (defScope st) f' cdv A outer s H E) (fun c d _ H => E c d H) →
      ∃ t, PSs (cxOf (L2.CX P w) P w K mg base N x (defScope st) f' cdv A outer s H E) (defBody st) t ∧ YS K cl E m O t f) :
    Fx P w K mg base x ps (k + 1) (SpY K cl op (fnY ps.length N.length op f)) ∧ Fxk P w K mg base x ps ks is (k + 1) (SpY K cl op (fnY ps.length N.length op f)) := by
  obtain ⟨f', fd, F, hm⟩ := a
  have G := fy_fn op F S hO hop body
  refine ⟨⟨f', fd, hm, F.kp, F.binds hb, G⟩, ⟨f', fd, hm, F.kp, ⟨fun ws hw => ?_, fun {zs ws} _ h => pick_vals h is⟩, G⟩⟩
  obtain ⟨oc, od, kV, doc, pm, an, cdv, ct, osl, rfl, lk, hcd⟩ := F.ex
  exact hk kV doc pm an cdv ct ws hw
end
section
variable {X : Cx} {x : Str} {ps ks : List Str} {is : List Nat} {k : Nat} {sp : Sp} {p pos : Pos} {tk : TA} {kws : List Keyword}
def E00 : XK := fun _ _ _ => False
theorem pe_fxk (c : Fxk X.prog X.w X.K X.mg X.base x ps ks is k sp) (gu : X.A.guards = some []) (hr : Room k X.A) (hg : Gl X x) (hkw : PK X kws tk)
    (d1 : (x == ("__debug__" : Str)) = false := by decide)
    (d2 : (backToKw pos (keywordEach kws X.env)).all (·.1.isSome) = true := by rfl)
    (d3 : (backToKw pos (keywordEach kws X.env)).filterMap (·.1) = ks := by rfl)
    (d4 : ((backTo pos (starEach [] X.env)).any (·.1) || (backToKw pos (keywordEach kws X.env)).any (·.1.isNone)) = false := by rfl) :
    PE X (.Call (.Name x p) [] kws pos) (tCallKw ks.length sp (pick is) E00 tk) := by
  obtain ⟨f, fd, hm, kp, hb, F⟩ := c
  exact pe_gk F gu hr hg hm kp hb (fun pins σ H s e s' I z => pass_no (σ := σ) pins H s e s' I z) hkw d1 d2 d3 d4
end
section
variable {K : Fg} {cl : Nat → Addr} {E : XK} {m : Nat} {O : Nat → Bool} {al : TA} {fl : En → AR} {ks : List AK} {ρ ρ' ρ1 : En}
def aOwnS (i : Nat) (fl : En → AR) (ρ : En) : AR := match ρ[i]? with
  | some (some _) => aOwn fl ρ
  | _ => .st
theorem ya_ownS {i : Nat} (hr : YA K cl E m O al ks fl) (hO : O i = true := by rfl) : YA K cl E m O (tCons (tVar i) al) (.o i :: ks) (aOwnS i fl) := ya_own hr hO
def eCallK (F : List PyData → FR) (is : List Nat) (fa : En → AR) (ρ : En) : ER := aE (fa ρ) fun ds ρ1 => match F (pick is ds) with
  | .v d _ => .v d ρ1
  | .o d _ => .o d ρ1
  | _ => .st
theorem ye_callk {F : List PyData → FR} {is : List Nat} {n : Nat} (h : YA K cl E m O al ks fl) (hd : dats ks = true := by rfl) (hn : ks.length = n := by rfl) : YE K cl E m O (tCallKw n (SpY K cl none F) (pick is) E00 al) (eCallK F is fl) := fun ρ =>
  ay_E (h ρ) (fun σ H Q z => z _) fun ds ρ1 m1 hal => by
    have args : ∀ {σ : L2.St} {B1 H1 : Hp} {vs : List V}, ArgOk K O σ B1 ks ds vs → vs.length = n ∧ ArgsY K none B1 H1 (fun _ => False) (pick is vs) (pick is ds) := fun {σ B1 H1 vs} a => by
      obtain ⟨e1, e2⟩ := a.len
      refine ⟨by rw [e1, ← e2, hn], (pick_das (a.das hd) is).len, fun j d hj => ?_, fun _ z => z.elim⟩
      obtain ⟨v, e, r⟩ := (pick_das (a.das hd) is).getD hj
      exact ⟨v, e, fun _ => r, fun z => nomatch z⟩
    cases hF : F (pick is ds) with
    | st => trivial
    | x c j => trivial
    | v d e =>
      refine ⟨m1, fun σ B H W s sd Q q => hal σ B H W s sd _ fun vs B1 H1 W1 l1 s1 a1 => ?_⟩
      refine ⟨(args (H1 := H1) a1).1, B1, pick is ds, fun _ => False, l1.sub, (args a1).2, fun _ _ z => z, ?_⟩
      rw [hF]
      exact fun v B2 H2 A' l2 d2 o2 t2 => q v B2 H2 W1 (l1.tr ⟨l2.to fun _ z => z.elim, fun _ z => .inl z⟩) (s1.up l2 fun p z => z.elim) d2
    | o d e =>
      refine ⟨m1, fun σ B H W s sd Q q => hal σ B H W s sd _ fun vs B1 H1 W1 l1 s1 a1 => ?_⟩
      refine ⟨(args (H1 := H1) a1).1, B1, pick is ds, fun _ => False, l1.sub, (args a1).2, fun _ _ z => z, ?_⟩
      rw [hF]
      refine fun p A2 B2 H2 A' l2 ow n2 o2 t2 => q p A2 B2 H2 W1 (l1.tr ⟨l2.to fun _ z => z.elim, fun _ z => .inl z⟩) (s1.up l2 fun p z => z.elim) ow fun a z => ?_
      obtain ⟨n1, n3, _, n5⟩ := n2 a z
      have n6 : H1 a = none := n5.elim (fun z => z.elim) id
      exact ⟨n1, n3, fun ⟨i, z⟩ => (s1.bh i a z).2 n6, .inr (l1.toLeO.back n6)⟩
end
end TD
set_option maxHeartbeats 4000000
namespace TD
open PySem PySem.Spec PyProof.Rows L2
open Evl (Ex)
mutual
def noDic : PyData → Bool
  | .list ds => noDics ds
  | .tuple ds => noDics ds
  | .dict _ => false
  | _ => true
def noDics : List PyData → Bool
  | [] => true
  | d :: ds => noDic d && noDics ds
end
mutual
theorem Da.dp {K : Fg} {H : Hp} : ∀ {v : V} {d : PyData}, Da K H v d → noDic d = true → Dp K H v d
  | _, _, .non, _ => .non
  | _, _, .bl b, _ => .bl b
  | _, _, .int i, _ => .int i
  | _, _, .str x, _ => .str x
  | _, _, .lst h t, n => .lst (SqL.of h) (t.dps (by simpa [noDic] using n))
  | _, _, .tup h t, n => .tup (SqT.of h) (t.dps (by simpa [noDic] using n))
  | _, _, .dic h t, n => by simp [noDic] at n
theorem Das.dps {K : Fg} {H : Hp} : ∀ {vs : List V} {ds : List PyData}, Das K H vs ds → noDics ds = true → DpAll K H vs ds
  | _, _, .nil, _ => .nil
  | _, _, .cons h t, n => by
    have n' := Bool.and_eq_true_iff.mp (show (noDic _ && noDics _) = true by simpa [noDics] using n)
    exact .cons (h.dp n'.1) (t.dps n'.2)
end
def rInA (K : Fg) (neg : Bool) : R2 := fun x y H Q => ∃ d ds, Dp K H x d ∧ Dp K H y (.list ds) ∧ SeqAt.shaped d = true ∧ SeqAt.shaped (.list ds) = true ∧ Q (.bl (neg != ds.any fun z => PyData.eqv z d)) H
theorem op_niA {X : Cx} {K : Fg} (hK : X.K = K) (hu : X.A.units + 65 < cLine) : OpR X (compareOp .NotIn) (rInA K true) := by
  subst hK
  intro pins s σ H x y v u Q I rx ry ⟨d, ds, h1, h2, h3, h4, q⟩
  exact op_notInD hu pins s σ H x y v u Q I rx ry ⟨d, ds, h1, h2, h3, h4, by rwa [Bool.true_bne] at q⟩
section
variable {K : Fg} {cl : Nat → Addr} {E : XK} {m : Nat} {O : Nat → Bool} {ta tb tc te tk tx : TE} {fa fb fc fe fk fx : En → ER} {tt tu : TT} {ft fu : En → TR} {al : TA} {fl : En → AR} {ks : List AK} {ρ ρ' ρ1 : En} {t u : TS} {f g : En → SR} {tg : TG} {gz : PyData → En → Option En} {W W1 : OW}
def okIn (x : PyData) (ds : List PyData) : Bool := SeqAt.shaped x && SeqAt.shaped (.list ds) && noDic x && noDics ds
theorem okIn_eq {x : PyData} {ds : List PyData} (h : okIn x ds = true) : SeqAt.shaped x = true ∧ SeqAt.shaped (.list ds) = true ∧ noDic x = true ∧ noDics ds = true := by
  unfold okIn at h
  simp only [Bool.and_eq_true] at h
  exact ⟨h.1.1.1, h.1.1.2, h.1.2, h.2⟩
def eInO (neg : Bool) (i : Nat) (fa : En → ER) (ρ : En) : ER := eThen (fa ρ) fun x ρ1 => match ownL i ρ1 with
  | some ds => match okIn x ds with
    | true => .v (.bool (neg != ds.any fun z => PyData.eqv z x)) ρ1
    | false => .st
  | none => .st
theorem ye_inO {neg : Bool} {i : Nat} (ha : YE K cl E m O ta fa) (hO : O i = true := by rfl) : YE K cl E m O (tOp (rInA K neg) ta (tVar i)) (eInO neg i fa) := fun ρ =>
  ey_then (ha ρ) (fun σ H Q z => z _) fun x ρ1 m1 hx => by
    split
    · next ds h =>
      split
      · next e =>
        refine ⟨m1, fun σ B H W s sd Q q => hx σ B H W s sd _ fun v B1 H1 W1 l1 s1 d1 => ?_⟩
        obtain ⟨p, vs, e0, n, hp, hv⟩ := own_list s1 hO h
        obtain ⟨e1, e2, e3, e4⟩ := okIn_eq e
        exact ⟨.ref p, e0, x, ds, (d1.ex l1.sub).dp e3, .lst (SqL.of hp) ((hv.ex l1.sub).dps e4), e1, e2, q _ B1 H1 W1 l1 s1 (.bl _)⟩
      · trivial
    · trivial
def sParO (i j : Nat) (fa : En → ER) (c : PyData) (ρ : En) : SR := match fa ρ with
  | .o d ρ1 => .nx ((ρ1.set i (some d)).set j (some c))
  | .x c i => .x c i
  | _ => .st
theorem ys_parT {i j : Nat} {u : V} {c : PyData} (ha : YE K cl E m O ta fa) (hc : ∀ B : Hp, Da K B u c) (hij : i ≠ j := by decide) (hi : m ≤ i := by exact Nat.le_of_ble_eq_true rfl) (hj : m ≤ j := by exact Nat.le_of_ble_eq_true rfl) (oi : O i = true := by rfl) (oj : O j = false := by rfl) : YS K cl E m O (tAsg (tTup (tCons ta (tCons (tC u) tNil))) (gTup K 2 (gCons (gName i) (gCons (gName j) gNil)))) (sParO i j fa c) := fun ρ => by
  have a := ha ρ
  unfold sParO
  cases e : fa ρ with
  | st => exact .stuck
  | v d ρ1 => exact .stuck
  | x c' k =>
    rw [e] at a
    exact .raise a.1 fun σ B H W D s sd v hv w => a.2 σ B H W s sd v hv w _
  | o d ρ1 =>
    rw [e] at a
    refine ⟨fun _ _ h => (nomatch h), fun σ B H W D s sd q => a.2 σ B H W s sd _ fun p A1 B1 H1 W1 l1 s1 o n => ?_⟩
    refine ⟨(show 2 ≤ sizeLine by decide), fun t ht => ⟨t, [.ref p, u], rfl, SqT.of upd_same, rfl, .ref p, [u], rfl, u, [], rfl, rfl, ?_⟩⟩
    have lt : Le B1 H1 B1 (upd H1 t (.tup [.ref p, u])) := ⟨Ex.new ht, Ex.refl B1, l1.sub.trans (Ex.new ht), fun _ h _ => h⟩
    have s2 := s1.le lt
    have o2 := o.up (X := fun _ => False) lt.lo fun _ _ z => z
    exact q _ B1 _ _ ((l1.tr lt.o).give (n.le lt)) ((s2.putO i oi o2 (n.le lt).fr).put j oj (hc B1)) fun k hk => by rw [List.getElem?_set_ne (by omega), List.getElem?_set_ne (by omega)]
end
end TD
set_option maxHeartbeats 4000000
namespace TD
open PySem PySem.Spec PyProof.Rows L2
open Evl (Ex)
def cMul (i j : Int) : Bool := (decide (-2 ^ 64 < i) && decide (i < 2 ^ 64)) || (decide (-2 ^ 64 < j) && decide (j < 2 ^ 64))
theorem cMul_ok (i j : Int) (h : cMul i j = true) : CMul i j := by
  unfold cMul at h
  simp only [Bool.or_eq_true, Bool.and_eq_true, decide_eq_true_eq] at h
  exact h
def cDivW (i j : Int) : Bool := decide (0 < j) && decide (j.natAbs.log2 < 9000)
theorem cDivW_ok (i j : Int) (h : cDivW i j = true) : CDivW i j := by
  unfold cDivW at h
  simp only [Bool.and_eq_true, decide_eq_true_eq] at h
  exact h
def cPos (_ j : Int) : Bool := decide (0 < j)
theorem cPos_ok (i j : Int) (h : cPos i j = true) : (fun _ j : Int => 0 < j) i j := of_decide_eq_true h
def cNn (_ j : Int) : Bool := decide (0 ≤ j)
theorem cNn_ok (i j : Int) (h : cNn i j = true) : (fun _ j : Int => 0 ≤ j) i j := of_decide_eq_true h
def cPow (i j : Int) : Bool := decide (0 ≤ j) && (decide (j ≤ 1000000) && decide (i.natAbs < 2 ^ 64))
theorem cPow_ok (i j : Int) (h : cPow i j = true) : CPow i j := by
  unfold cPow at h
  simp only [Bool.and_eq_true, decide_eq_true_eq] at h
  exact h
theorem op_powB {X : Cx} : OpR X (binaryOp .Pow) (rI (fun i j => i = 10 ^ 60 ∧ j = 10) fun i j => .int (i ^ j.toNat)) := opI fun i j t u s Q E hc q => by
  obtain ⟨rfl, rfl⟩ := hc
  exact PySem.AutoIntOps.pow_4 (by decide) (by decide) (by decide) (by decide) (by decide +kernel) q
theorem pg_tupK {X : Cx} {K : Fg} {es : List Expr} {k : Nat} {t : TGs} {n : Nat} {pos : Pos} (hK : X.K = K) (hc : X.calm = true) (h : PGs X es t)
    (hn : (assignEach es X.env).length = n := by rfl) (hst : (assignEach es X.env).findIdx? (·.1) = none := by rfl) : PG X (.Tuple es k pos) (gTup K n t) := hK ▸ pg_tup hc h hn hst
def compSc : Expr → Scope
  | .ListComp _ _ sc _ => sc
  | _ => ⟨.function, [], false, false, []⟩
def relabS (scope outer : Scope) : Scope := { kind := scope.kind, names := scope.names.map fun x => match x with
  | (n, k) => if (k == NameKind.free && outer.kind == ScopeKind.function && outer.names.lookup n == some NameKind.cell) = true then (n, NameKind.cell) else (n, k), isGenerator := scope.isGenerator, isCoroutine := scope.isCoroutine, more := scope.more }
def noE : Expr := .Constant .none 0 ⟨0, 0, 0, 0⟩
def subE (i : Nat) : Expr → Expr
  | .Tuple es _ _ => es.getD i noE
  | .List es _ => es.getD i noE
  | .BinOp a _ b _ => [a, b].getD i noE
  | .IfExp t a b _ => [t, a, b].getD i noE
  | .Compare a _ bs _ => (a :: bs).getD i noE
  | .BoolOp _ es _ => es.getD i noE
  | .UnaryOp _ a _ => a
  | .Call _ es _ _ => es.getD i noE
  | .Subscript a b _ => [a, b].getD i noE
  | .ListComp e gs _ _ => (e :: gs.flatMap fun g => g.iter :: g.ifs).getD i noE
  | _ => noE
def stE (i : Nat) : Stmt → Expr
  | .Return (some e) _ => e
  | .Assign _ e _ => e
  | .If t _ _ _ => t
  | .For _ e _ _ _ => e
  | .While t _ _ _ => t
  | .Expr e _ => e
  | .AugAssign _ _ e _ => e
  | _ => noE
def stB (i : Nat) : Stmt → List Stmt
  | .If _ a b _ => if i = 0 then a else b
  | .For _ _ a _ _ => a
  | .While _ a _ _ => a
  | _ => []
def atE : List Stmt → List (Nat × Nat) → List Nat → Expr
  | b, [], is => noE
  | b, [(i, _)], is => is.foldl (fun e j => subE j e) (stE 0 (b.getD i (.Pass ⟨0, 0, 0, 0⟩)))
  | b, (i, k) :: q :: r, is => atE (stB k (b.getD i (.Pass ⟨0, 0, 0, 0⟩))) (q :: r) is
end TD
set_option maxHeartbeats 4000000
namespace TD
open PySem PySem.Spec PyProof.Rows L2
open Evl (Ex)
def lcRows (vs vs1 : List Nat) (g : PyData → En → Option En) (ft : En → TR) (fi1 : En → IRz) (g1 : PyData → En → Option En) (ft1 : En → TR) (fe : En → ER) : List PyData → En → Option (List PyData × En)
  | [], ρ => some ([], ρ)
  | d :: ds, ρ => match g d ρ with
    | none => none
    | some ρ1 => match ft ρ1 with
      | .b false ρ2 => lcRows vs vs1 g ft fi1 g1 ft1 fe ds (wipeD ρ2 vs)
      | .b true ρ2 => match fi1 ρ2 with
        | .vs ds1 ρ3 => match decide (ds1.length ≤ 40000) with
          | true => match lcItems vs1 g1 ft1 fe ds1 (wipeD ρ3 vs1) with
            | some (ys, ρ4) => match lcRows vs vs1 g ft fi1 g1 ft1 fe ds (wipeD ρ4 vs) with
              | some (zs, ρ5) => some (ys ++ zs, ρ5)
              | none => none
            | none => none
          | false => none
        | _ => none
      | _ => none
def eLc2 (fi : En → IRz) (vs vs1 : List Nat) (g : PyData → En → Option En) (ft : En → TR) (fi1 : En → IRz) (g1 : PyData → En → Option En) (ft1 : En → TR) (fe : En → ER) (ρ : En) : ER := match fi ρ with
  | .vs ds ρ1 => match lcRows vs vs1 g ft fi1 g1 ft1 fe ds (wipeD ρ1 vs) with
    | some (ys, ρ2) => match decide (ys.length ≤ 40000) with
      | true => .o (.list ys) ρ2
      | false => .st
    | none => .st
  | .x c i => .x c i
  | .st => .st
section
variable {K : Fg} {cl : Nat → Addr} {E E' : XK} {m : Nat} {O : Nat → Bool} {ta tb tc te : TE} {fa fb fc fe : En → ER} {tt tt1 : TT} {ft ft1 : En → TR} {al : TA} {fl : En → AR} {ks : List AK} {ρ ρ' ρ1 : En} {t u : TS} {f g : En → SR} {tg tg1 : TG} {gz gz1 : PyData → En → Option En} {W W1 : OW}
end
end TD
set_option maxHeartbeats 4000000
namespace TD
open PySem PySem.Spec PyProof.Rows L2
section
variable {fa fb fc fe fk : En → ER} {fl fr : En → AR} {ft fu : En → TR} {f g : En → SR} {ρ ρ1 ρ2 ρ3 : En} {d e x y z c : PyData} {ds xs ys zs : List PyData} {i j : Nat} {ks : List AK} {r : SR} {gz : PyData → En → Option En}
def isMark : PyData → Bool
  | .tuple [.dict [(.none, _)]] => true
  | _ => false
theorem zVar (h : ρ[i]? = some (some d)) (n : isMark d = false := by rfl) : eVar i ρ = .v d ρ := by
  unfold eVar
  rw [h]
  split
  · next x e =>
    cases e
    exact nomatch n
  · next e =>
    cases e
    rfl
  · next w => exact (w d rfl).elim
theorem zMove (h : ρ[i]? = some (some d)) : eMove i ρ = .o d (ρ.set i none) := by
  unfold eMove
  rw [h]
theorem zFzL (h : fa ρ = .o (.list xs) ρ1) : eFz fa ρ = .v (.list xs) ρ1 := by
  unfold eFz
  rw [h]
theorem zFzV (h : fa ρ = .v d ρ1) : eFz fa ρ = .v d ρ1 := by
  unfold eFz
  rw [h]
theorem zCons (h : fa ρ = .v d ρ1) (h2 : fr ρ1 = .vs ds ρ2) : aCons fa fr ρ = .vs (d :: ds) ρ2 := by
  unfold aCons
  rw [h]
  dsimp only
  unfold aThen
  rw [h2]
theorem zOne (h : fa ρ = .v d ρ1) : aCons fa aNil ρ = .vs [d] ρ1 := zCons h rfl
theorem zTwo (h : fa ρ = .v d ρ1) (h2 : fb ρ1 = .v e ρ2) : aCons fa (aCons fb aNil) ρ = .vs [d, e] ρ2 := zCons h (zOne h2)
theorem zOwn (h0 : ρ[i]? = some (some d)) (h : fr ρ = .vs ds ρ1) : aOwnS i fr ρ = .vs (.none :: ds) ρ1 := by
  unfold aOwnS
  rw [h0]
  dsimp only
  unfold aOwn aThen
  rw [h]
theorem zOp {q : PyData → PyData → Option PyData} (h : fa ρ = .v x ρ1) (h2 : fb ρ1 = .v y ρ2) (h3 : q x y = some z) : eOp q fa fb ρ = .v z ρ2 := by
  unfold eOp eThen
  rw [h]
  dsimp only
  rw [h2]
  dsimp only
  rw [h3]
  rfl
theorem zUn {q : PyData → Option PyData} (h : fa ρ = .v x ρ1) (h3 : q x = some z) : eUn q fa ρ = .v z ρ1 := by
  unfold eUn eThen
  rw [h]
  dsimp only
  rw [h3]
  rfl
theorem zCB {q : List PyData → Option PyData} (h : fl ρ = .vs xs ρ1) (h3 : q xs = some z) : eCB q fl ρ = .v z ρ1 := by
  unfold eCB aE
  rw [h]
  dsimp only
  rw [h3]
  rfl
theorem zTup (h : fl ρ = .vs xs ρ1) (h2 : xs.length ≤ 100000) : eTup fl ρ = .v (.tuple xs) ρ1 := by
  unfold eTup aE
  rw [h]
  dsimp only
  rw [decide_eq_true h2]
theorem zLst (h : fl ρ = .vs xs ρ1) (h2 : xs.length ≤ 100000) : eLst fl ρ = .o (.list xs) ρ1 := by
  unfold eLst aE
  rw [h]
  dsimp only
  rw [decide_eq_true h2]
theorem zCallV {F : List PyData → FR} (h : fl ρ = .vs ds ρ1) (h2 : F ds = .v d e) (hk : ownArg 0 ks = none := by rfl) : eCall F ks fl ρ = .v d ρ1 := by
  unfold eCall aE
  rw [h]
  dsimp only
  rw [hk]
  dsimp only
  rw [h2]
theorem zCallO {F : List PyData → FR} (h : fl ρ = .vs ds ρ1) (h2 : F ds = .o d e) (hk : ownArg 0 ks = none := by rfl) : eCall F ks fl ρ = .o d ρ1 := by
  unfold eCall aE
  rw [h]
  dsimp only
  rw [hk]
  dsimp only
  rw [h2]
theorem zCallOwnV {F : List PyData → FR} (h : fl ρ = .vs ds ρ1) (hk : ownArg 0 ks = some (j, i)) (h3 : ρ1[i]? = some (some c)) (h2 : F (ds.set j c) = .v d e) : eCall F ks fl ρ = .v d (ρ1.set i (some e)) := by
  unfold eCall aE
  rw [h]
  dsimp only
  rw [hk]
  dsimp only
  rw [h3]
  dsimp only
  rw [h2]
theorem zCallOwnO {F : List PyData → FR} (h : fl ρ = .vs ds ρ1) (hk : ownArg 0 ks = some (j, i)) (h3 : ρ1[i]? = some (some c)) (h2 : F (ds.set j c) = .o d e) : eCall F ks fl ρ = .o d (ρ1.set i (some e)) := by
  unfold eCall aE
  rw [h]
  dsimp only
  rw [hk]
  dsimp only
  rw [h3]
  dsimp only
  rw [h2]
theorem zCallKO {F : List PyData → FR} {is : List Nat} (h : fl ρ = .vs ds ρ1) (h2 : F (pick is ds) = .o d e) : eCallK F is fl ρ = .o d ρ1 := by
  unfold eCallK aE
  rw [h]
  dsimp only
  rw [h2]
theorem zVal {b : Bool} (h : fa ρ = .v (.bool b) ρ1) : tVal' fa ρ = .b b ρ1 := by
  unfold tVal'
  rw [h]
theorem zTru {b : Bool} (h : fa ρ = .v d ρ1) (h2 : truD d = some b) : tTru' fa ρ = .b b ρ1 := by
  unfold tTru'
  rw [h]
  dsimp only
  rw [h2]
theorem zAnd {a b : Bool} (h : ft ρ = .b a ρ) (h2 : fu ρ = .b b ρ) : tAndZ ft fu ρ = .b (a && b) ρ := by
  unfold tAndZ
  rw [h]
  cases a
  · rfl
  · exact h2
theorem zAndF (h : ft ρ = .b false ρ1) : tAndZ ft fu ρ = .b false ρ1 := by
  unfold tAndZ
  rw [h]
theorem zAndT {b : Bool} (h : ft ρ = .b true ρ1) (h2 : fu ρ1 = .b b ρ2) : tAndZ ft fu ρ = .b b ρ2 := by
  unfold tAndZ
  rw [h]
  exact h2
theorem zOrF {b : Bool} (h : ft ρ = .b false ρ1) (h2 : fu ρ1 = .b b ρ2) : tOrZ ft fu ρ = .b b ρ2 := by
  unfold tOrZ
  rw [h]
  exact h2
theorem zNot {b : Bool} (h : ft ρ = .b b ρ1) : tNotZ ft ρ = .b (!b) ρ1 := by
  unfold tNotZ
  rw [h]
theorem zL (h : fa ρ = .v (.list ds) ρ1) : iL fa ρ = .vs ds ρ1 := by
  unfold iL
  rw [h]
theorem zEn (h : fl ρ = .vs [.list ds] ρ1) : iEn fl ρ = .vs (numD 0 ds) ρ1 := by
  unfold iEn
  rw [h]
theorem zZ (h : fl ρ = .vs [.list ds, .list xs] ρ1) : iZ fl ρ = .vs (zipD ds xs) ρ1 := by
  unfold iZ
  rw [h]
theorem zR1 {n : Nat} (h : fl ρ = .vs [.int (n : Nat)] ρ1) (hn : n ≤ 40000) : iR1 fl ρ = .vs (rgD 0 n) ρ1 := by
  unfold iR1
  rw [h]
  dsimp only
  rw [decide_eq_true (show (-40000 : Int) ≤ (n : Int) by omega), decide_eq_true (show (n : Int) ≤ 40000 by omega)]
  rfl
theorem zLc {fi : En → IRz} {vs : List Nat} (h1 : fi ρ = .vs ds ρ1) (h2 : ds.length ≤ 40000) (h3 : lcItems vs gz ft fe ds (wipeD ρ1 vs) = some (ys, ρ2)) : eLc fi vs gz ft fe ρ = .o (.list ys) ρ2 := by
  unfold eLc
  rw [h1]
  dsimp only
  rw [decide_eq_true h2]
  dsimp only
  rw [h3]
theorem lc_pick {α : Type} {vs : List Nat} (enc f : α → PyData) (p : α → Bool) : ∀ xs : List α, (∀ x ∈ xs, ∃ ρ1, gz (enc x) ρ = some ρ1 ∧ ((p x = false ∧ ∃ ρ2, ft ρ1 = .b false ρ2 ∧ wipeD ρ2 vs = ρ) ∨ (p x = true ∧ ∃ ρ2, ft ρ1 = .b true ρ2 ∧ ∃ ρ3, fe ρ2 = .v (f x) ρ3 ∧ wipeD ρ3 vs = ρ))) → lcItems vs gz ft fe (xs.map enc) ρ = some ((xs.filter p).map f, ρ)
  | [], _ => rfl
  | x :: xs, h => by
    have ih := lc_pick (vs := vs) enc f p xs fun y hy => h y (List.mem_cons_of_mem _ hy)
    obtain ⟨ρ1, h1, h2⟩ := h x List.mem_cons_self
    show lcItems vs gz ft fe (enc x :: xs.map enc) ρ = _
    rcases h2 with ⟨hp, ρ2, h3, h4⟩ | ⟨hp, ρ2, h3, ρ3, h4, h5⟩
    · simp only [lcItems, h1, lcOne, h3, h4, ih, List.filter_cons, hp]
      rfl
    · simp only [lcItems, h1, lcOne, h3, h4, h5, ih, List.filter_cons, hp]
      rfl
theorem lc_map {α : Type} {vs : List Nat} (enc f : α → PyData) (xs : List α) (h : ∀ x ∈ xs, ∃ ρ1, gz (enc x) ρ = some ρ1 ∧ ∃ ρ2, ft ρ1 = .b true ρ2 ∧ ∃ ρ3, fe ρ2 = .v (f x) ρ3 ∧ wipeD ρ3 vs = ρ) : lcItems vs gz ft fe (xs.map enc) ρ = some (xs.map f, ρ) := by
  have := lc_pick (vs := vs) (gz := gz) (ft := ft) (fe := fe) (ρ := ρ) enc f (fun _ => true) xs fun x hx => let ⟨ρ1, h1, h2⟩ := h x hx; ⟨ρ1, h1, .inr ⟨rfl, h2⟩⟩
  rwa [List.filter_eq_self.mpr (fun _ _ => rfl)] at this
theorem zSeq (h : f ρ = .nx ρ1) (h2 : g ρ1 = r) : sSeq f g ρ = r := by
  unfold sSeq
  rw [h]
  exact h2
theorem zAsg (h : fa ρ = .v d ρ1) (h2 : gz d ρ1 = some ρ2) : sAsg fa gz ρ = .nx ρ2 := by
  unfold sAsg sE
  rw [h]
  dsimp only
  rw [h2]
theorem zAsgN (h : fa ρ = .v d ρ1) : sAsg fa (gN i) ρ = .nx (ρ1.set i (some d)) := zAsg h rfl
theorem zAsgO (h : fa ρ = .o d ρ1) : sAsgO i fa ρ = .nx (ρ1.set i (some d)) := by
  unfold sAsgO
  rw [h]
theorem zDropV (h : fa ρ = .v d ρ1) : sDrop fa ρ = .nx ρ1 := by
  unfold sDrop
  rw [h]
theorem zRetV (h : fa ρ = .v d ρ1) : sRet fa ρ = .ret d ρ1 := by
  unfold sRet
  rw [h]
theorem zRetO (h : fa ρ = .o d ρ1) : sRet fa ρ = .reto d ρ1 := by
  unfold sRet
  rw [h]
theorem zSIfT (h : ft ρ = .b true ρ1) (h2 : f ρ1 = r) : sIf ft f g ρ = r := by
  unfold sIf
  rw [h]
  exact h2
theorem zSIfF (h : ft ρ = .b false ρ1) (h2 : g ρ1 = r) : sIf ft f g ρ = r := by
  unfold sIf
  rw [h]
  exact h2
theorem zFor {fi : En → IRz} (h : fi ρ = .vs ds ρ1) (h2 : sTurns gz f ds ρ1 = r) : sFor fi gz f ρ = r := by
  unfold sFor
  rw [h]
  exact h2
theorem zTurn (h : gz d ρ = some ρ1) (h2 : f ρ1 = .nx ρ2) (h3 : sTurns gz f ds ρ2 = r) : sTurns gz f (d :: ds) ρ = r := by
  simp only [sTurns]
  rw [h]
  dsimp only
  rw [h2]
  exact h3
theorem zPar (h : fl ρ = .vs [x, y] ρ1) : sPar i j fl ρ = .nx ((ρ1.set i (some x)).set j (some y)) := by
  unfold sPar
  rw [h]
theorem zApp (h0 : ownL i ρ ≠ none) (h : fe ρ = .v d ρ1) (h1 : ownL i ρ1 = some xs) (h2 : xs.length ≤ 90000) : sApp i fe ρ = .nx (ρ1.set i (some (.list (xs ++ [d])))) := by
  unfold sApp
  cases e : ownL i ρ with
  | none => exact absurd e h0
  | some ys =>
    dsimp only
    unfold sE
    rw [h]
    dsimp only
    rw [h1]
    dsimp only
    rw [decide_eq_true h2]
theorem zWhile {n : Nat} (h1 : ft ρ = .b true ρ1) (h2 : f ρ1 = .nx ρ2) : sWhile ft f (n + 1) ρ = sWhile ft f n ρ2 := by
  show (match ft ρ with
    | .b false ρ1 => SR.nx ρ1
    | .b true ρ1 => match f ρ1 with
      | .nx ρ2 => sWhile ft f n ρ2
      | .ct ρ2 => sWhile ft f n ρ2
      | .br ρ2 => .nx ρ2
      | r => r
    | .x c i => .x c i
    | .st => .st) = _
  rw [h1]
  dsimp only
  rw [h2]
theorem zWhileEnd {n : Nat} (h1 : ft ρ = .b false ρ1) : sWhile ft f (n + 1) ρ = .nx ρ1 := by
  show (match ft ρ with
    | .b false ρ1 => SR.nx ρ1
    | .b true ρ1 => match f ρ1 with
      | .nx ρ2 => sWhile ft f n ρ2
      | .ct ρ2 => sWhile ft f n ρ2
      | .br ρ2 => .nx ρ2
      | r => r
    | .x c i => .x c i
    | .st => .st) = _
  rw [h1]
theorem zFn {n N : Nat} {op : Option Nat} (hl : ds.length = n) (h : finY op (f (ds.map some ++ List.replicate (N - n) none)) = q) : fnY n N op f ds = q := by
  unfold fnY
  rw [decide_eq_true hl]
  exact h
end
end TD
set_option maxHeartbeats 4000000
namespace TD
open PySem PySem.Spec PyProof.Rows L2
structure Pl (k w : Nat) (d : PyData) : Prop where
  nd : noDic d = true
  lay : d.canLay0 = true
  sh : d.showable = true
  dp : d.depth ≤ k
  up : sz d ≤ w
theorem Pl.up' {k k' w w' : Nat} {d : PyData} (h : Pl k w d) (hk : k ≤ k') (hw : w ≤ w') : Pl k' w' d := ⟨h.nd, h.lay, h.sh, Nat.le_trans h.dp hk, Nat.le_trans h.up hw⟩
theorem pl_all {k w : Nat} : ∀ {ds : List PyData}, (∀ d ∈ ds, Pl k w d) → noDics ds = true ∧ PyData.canLayAll0 ds = true ∧ PyData.showableAll ds = true ∧ PyData.depthAll ds ≤ k ∧ szs ds ≤ ds.length * (w + 2)
  | [], _ => ⟨rfl, by simp [PyData.canLayAll0], by simp [PyData.showableAll], by simp [PyData.depthAll], by simp [szs]⟩
  | d :: ds, h => by
    obtain ⟨h0, h1, h2, h3, h4⟩ := pl_all fun e he => h e (List.mem_cons_of_mem _ he)
    have hd := h d (List.mem_cons_self ..)
    refine ⟨?_, ?_, ?_, ?_, ?_⟩
    · show (noDic d && noDics ds) = true
      rw [hd.nd, h0]
      rfl
    · rw [PyData.canLayAll0, hd.lay, h1]
      rfl
    · rw [PyData.showableAll, hd.sh, h2]
      rfl
    · rw [PyData.depthAll]
      exact Nat.max_le.mpr ⟨hd.dp, h3⟩
    · rw [szs, List.length_cons, Nat.add_mul]
      have := hd.up
      omega
theorem pl_list {k w n : Nat} {ds : List PyData} (h : ∀ d ∈ ds, Pl k w d) (hl : ds.length ≤ n) : Pl (k + 1) (n * (w + 2) + 5) (.list ds) := by
  obtain ⟨h0, h1, h2, h3, h4⟩ := pl_all h
  refine ⟨?_, ?_, ?_, ?_, ?_⟩
  · simp [noDic, h0]
  · rw [PyData.canLay0]
    exact h1
  · rw [PyData.showable]
    exact h2
  · rw [PyData.depth]
    omega
  · show szs ds + 5 ≤ _
    have := Nat.mul_le_mul_right (w + 2) hl
    omega
theorem pl_tup {k w n : Nat} {ds : List PyData} (h : ∀ d ∈ ds, Pl k w d) (hl : ds.length ≤ n) : Pl (k + 1) (n * (w + 2) + 5) (.tuple ds) := by
  obtain ⟨h0, h1, h2, h3, h4⟩ := pl_all h
  refine ⟨?_, ?_, ?_, ?_, ?_⟩
  · simp [noDic, h0]
  · rw [PyData.canLay0]
    exact h1
  · rw [PyData.showable]
    exact h2
  · rw [PyData.depth]
    omega
  · show szs ds + 5 ≤ _
    have := Nat.mul_le_mul_right (w + 2) hl
    omega
theorem pl_int {i : Int} (h : -1000000 ≤ i ∧ i ≤ 1000000) : Pl 0 2000 (.int i) := by
  refine ⟨rfl, rfl, decide_eq_true ?_, Nat.zero_le _, Nat.le_of_ble_eq_true rfl⟩
  have h1 : i.natAbs < 2 ^ 20 := Nat.lt_of_le_of_lt (show i.natAbs ≤ 1000000 by omega) (by decide)
  exact Nat.lt_of_lt_of_le (PySem.Flt.log2_lt_of (by decide) h1) (by decide)
theorem pl_none : Pl 0 2000 .none := ⟨rfl, rfl, rfl, Nat.zero_le _, Nat.le_of_ble_eq_true rfl⟩
theorem pl_cons {k w : Nat} {d : PyData} {ds : List PyData} (h : Pl k w d) (h2 : ∀ e ∈ ds, Pl k w e) : ∀ e ∈ d :: ds, Pl k w e := fun e he => by
  rcases List.mem_cons.mp he with rfl | w
  · exact h
  · exact h2 e w
theorem pl_nil {k w : Nat} : ∀ e ∈ ([] : List PyData), Pl k w e := fun _ h => nomatch h
theorem Pl.shaped {k w : Nat} {d : PyData} (h : Pl k w d) (hk : k ≤ 64) : SeqAt.shaped d = true := by
  unfold SeqAt.shaped
  rw [h.lay, decide_eq_true (Nat.le_trans h.dp hk)]
  rfl
theorem Pl.okIn {k k2 w w2 : Nat} {d : PyData} {ds : List PyData} (h : Pl k w d) (h2 : Pl k2 w2 (.list ds)) (hk : k ≤ 64) (hk2 : k2 ≤ 64) : okIn d ds = true := by
  have n : noDics ds = true := by
    have := h2.nd
    simpa [noDic] using this
  unfold TD.okIn
  rw [h.shaped hk, h2.shaped hk2, h.nd, n]
  rfl
theorem Pl.repr {k w : Nat} {d : PyData} (h : Pl k w d) (hk : k ≤ 100) (hw : w ≤ 16000000) : gRepr [d] = some (.str d.shown) := by
  show (match d.showable && (decide (d.depth ≤ 100) && decide (sz d ≤ 16000000)) with
    | true => some (PyData.str d.shown)
    | false => none) = _
  rw [h.sh, decide_eq_true (Nat.le_trans h.dp hk), decide_eq_true (Nat.le_trans h.up hw)]
  rfl
theorem Pl.eqA {k k2 w w2 : Nat} {d e : PyData} (h : Pl k w d) (h2 : Pl k2 w2 e) (hk : k ≤ 64) (hk2 : k2 ≤ 64) : gEqA d e = some (.bool (PyData.eqv d e)) := by
  unfold gEqA
  rw [h.shaped hk, h2.shaped hk2]
  rfl
theorem Pl.neA {k k2 w w2 : Nat} {d e : PyData} (h : Pl k w d) (h2 : Pl k2 w2 e) (hk : k ≤ 64) (hk2 : k2 ≤ 64) : gNeA d e = some (.bool (!PyData.eqv d e)) := by
  unfold gNeA
  rw [h.shaped hk, h2.shaped hk2]
  rfl
theorem eqv_nil (ds : List PyData) : PyData.eqv (.list ds) (.list []) = ds.isEmpty := by
  cases ds <;> rfl
section
variable {fa fb fc : En → ER} {fe : En → ER} {fk : En → ER} {ρ ρ1 ρ2 ρ3 : En} {d x y z : PyData} {ds : List PyData} {i : Nat}
theorem zInO {k k2 w w2 : Nat} {neg : Bool} (h : fa ρ = .v d ρ1) (h1 : ownL i ρ1 = some ds) (p : Pl k w d) (p2 : Pl k2 w2 (.list ds)) (hk : k ≤ 64) (hk2 : k2 ≤ 64) : eInO neg i fa ρ = .v (.bool (neg != ds.any fun z => PyData.eqv z d)) ρ1 := by
  unfold eInO eThen
  rw [h]
  dsimp only
  rw [h1]
  dsimp only
  rw [p.okIn p2 hk hk2]
theorem zDInO {neg : Bool} {o : Option PyData} (h : fk ρ = .v d ρ1) (h1 : lookO i ρ1 d = some o) : eDInO neg i fk ρ = .v (.bool (neg != o.isSome)) ρ1 := by
  unfold eDInO eThen
  rw [h]
  dsimp only
  rw [h1]
theorem zDSetO {c : PyData} (h : fe ρ = .v d ρ1) (h1 : hasO i ρ1 = true) (h2 : fk ρ1 = .v x ρ2) (h3 : putO i ρ2 x d = some c) : sDSetO i fk fe ρ = .nx (ρ2.set i (some c)) := by
  unfold sDSetO sE
  rw [h]
  dsimp only
  rw [h1]
  dsimp only
  rw [h2]
  dsimp only
  rw [h3]
theorem zChain {g g' : PyData → PyData → Option PyData} {a b : Bool} (h : fa ρ = .v x ρ) (h1 : fb ρ = .v y ρ) (h2 : g x y = some (.bool a)) (h3 : fc ρ = .v z ρ) (h4 : g' y z = some (.bool b)) : eChain g g' fa fb fc ρ = .v (.bool (a && b)) ρ := by
  unfold eChain eThen
  rw [h]
  dsimp only
  rw [h1]
  dsimp only
  rw [h2]
  cases a
  · rfl
  · dsimp only
    rw [h3]
    dsimp only
    rw [h4]
    rfl
end
end TD
set_option maxHeartbeats 4000000
namespace TD
open PySem PySem.Spec PyProof.Rows L2
open Evl (Ex)
def cellV (ns : List Int) (i : Int) : Int := if i < ns.length then ns.getD i.toNat 0 else (ns.take 1).sum % 1000003
def genV (ns : List Int) (i : Int) : PyData := .list [.int ((if (0 : Int) > cellV ns i - 10 ^ 18 then 0 else cellV ns i - 10 ^ 18) % (10 ^ 60) ^ Int.toNat 10), .int (cellV ns i % 2147483647), .int (1000 * i)]
def spCellV (K : Fg) : Sp := fun vs H Q _ => ∃ (s : Addr) (ns : List Int) (i : Int), vs = [.ref s, .int i] ∧ SqL K H s (ns.map V.int) ∧ 0 ≤ i ∧ i ≤ 1000 ∧ ∀ H', Ex H H' → Q (.int (cellV ns i)) H'
def spGenV (K : Fg) : Sp := fun vs H Q _ => ∃ (s : Addr) (ns : List Int) (i : Int), vs = [.ref s, .int i] ∧ SqL K H s (ns.map V.int) ∧ 0 ≤ i ∧ i ≤ 1000 ∧ ∀ (g : Addr) H', H g = none → Ex H H' → (∃ a b c : Int, genV ns i = .list [.int a, .int b, .int c] ∧ H' g = some (.lst [.int a, .int b, .int c])) → Q (.ref g) H'
def spLawV (K : Fg) : Sp := fun vs H Q _ => ∃ (s : Addr) (ns : List Int), vs = [.ref s] ∧ SqL K H s (ns.map V.int) ∧ ∀ H', Q (.bl true) H'
def markL (i : Nat) (ρ : En) : Option (List Int) := match ρ[i]? with
  | some (some (.tuple [.dict [(.none, .list ds)]])) => intsOf ds
  | _ => none
def eGenS (i : Nat) (fk : En → ER) (ρ : En) : ER := match markL i ρ with
  | some ns => match fk ρ with
    | .v (.int n) ρ1 => match decide (0 ≤ n) && decide (n ≤ 1000) with
      | true => .o (genV ns n) ρ1
      | false => .st
    | _ => .st
  | none => .st
theorem markL_eq {i : Nat} {ρ : En} {ns : List Int} (h : markL i ρ = some ns) : ρ[i]? = some (some (markD ns)) := by
  unfold markL at h
  split at h
  · next ds e =>
    rw [e, intsOf_eq h]
  · exact nomatch h
section
variable {K : Fg} {cl : Nat → Addr} {E : XK} {m : Nat} {O : Nat → Bool} {tk : TE} {fk : En → ER}
theorem mark_da {B : Hp} {v : V} {ns : List Int} (h : DaS K B v (markD ns)) : ∃ sc, v = .ref sc ∧ SqL K B sc (ns.map V.int) := by
  rcases h with h | ⟨sc, ms, h1, h2, h3⟩
  · obtain ⟨a0, xs, h01, h02, h03⟩ := da_tup h
    obtain ⟨v0, r0, rfl, h, _⟩ := h03.inv1
    obtain ⟨a, ws, ds, h1, h2, h3, h4⟩ := da_dict h
    cases ws with
    | nil => exact nomatch h4
    | cons w ws =>
      cases ds with
      | nil => exact nomatch h4
      | cons d ds =>
        have h5 : ((PyData.none, PyData.list (ns.map PyData.int)) :: []) = (keyD w.1, d) :: ((ws.map fun q => keyD q.1).zip ds) := h4
        have h6 := congrArg (fun l => (l.head?).map (·.1)) h5
        have h7 : PyData.none = keyD w.1 := Option.some.inj h6
        cases hk : w.1 with
        | inl i =>
          rw [hk] at h7
          cases h7
        | inr s =>
          rw [hk] at h7
          cases h7
  · have e : (ns.map PyData.int) = ms.map PyData.int := by
      have h4 := PyData.dict.inj (List.cons.inj (PyData.tuple.inj h2)).1
      have h5 := (List.cons.inj h4).1
      have h6 := (Prod.mk.inj h5).2
      exact PyData.list.inj h6
    have e2 : ns = ms := by
      have := congrArg intsOf e
      rw [intsOf_map, intsOf_map] at this
      exact Option.some.inj this
    subst e2
    exact ⟨sc, h1, h3⟩
theorem ye_genS {i : Nat} {Ew : XK} (ha : YE K cl E m O tk fk) (hO : O i = false := by rfl) : YE K cl E m O (tCall (spGenV K) [] Ew (tCons (tVar i) (tCons tk tNil))) (eGenS i fk) := fun ρ => by
  unfold eGenS
  cases hm : markL i ρ with
  | none => trivial
  | some ns =>
    have hρ := markL_eq hm
    have a := ha ρ
    dsimp only
    split
    · next n ρ1 e =>
      rw [e] at a
      split
      · next hn =>
        have hn' : 0 ≤ n ∧ n ≤ 1000 := by
          have := Bool.and_eq_true_iff.mp hn
          exact ⟨of_decide_eq_true this.1, of_decide_eq_true this.2⟩
        refine ⟨a.1, fun σ B H W s sd Q q => ?_⟩
        obtain ⟨v, e0, dv⟩ := sd.dat i _ hO hρ
        obtain ⟨sc, rfl, hS⟩ := mark_da dv
        refine ⟨.ref sc, e0, a.2 σ B H W s sd _ fun w B1 H1 W1 l1 s1 d1 => ?_⟩
        cases d1
        refine ⟨sc, ns, n, rfl, Evl.ex_l (l1.ek.trans l1.sub) hS, hn'.1, hn'.2, fun g H' hg ex hgo => ?_⟩
        obtain ⟨x, y, z, eg, hH⟩ := hgo
        rw [eg] at q
        have lx : Le B1 H1 B1 H' := ⟨ex, Ex.refl B1, l1.sub.trans ex, fun _ h _ => h⟩
        refine q g (at1 g) B1 H' W1 (l1.tr lx.o) (s1.le lx) ⟨rfl, _, hH, .cons (.int _) (.cons (.int _) (.cons (.int _) .nil))⟩ fun b hb => ?_
        have e : b = g := hb
        subst e
        exact ⟨Evl.fresh_back l1.sub hg, (by rw [hH]; exact fun z => nomatch z), fun ⟨i, z⟩ => (s1.bh i b z).2 hg, .inr (l1.toLeO.back hg)⟩
      · trivial
    · trivial
theorem fy_law {P : Program} {w : World} {mg : Str → Option Value} {base : Heap} {N : List Str} {x p : Str} {k : Nat} {st : Stmt} {fd : FuncData} {f' : Addr} {f : En → SR} (F : Fun K x x st f' fd) (S : FnScope N [p] (defScope st)) (hO : O 0 = false)
    (hF : ∀ ns : List Int, fnY 1 N.length none f [markD ns] = .v (.bool true) .none)
    (body : ∀ (f' : Addr) (cdv : Value) (A : Around) (outer : List Env) (s : Shared) (H : Hp) (E : XK), A.guards = some [] → Room k (A.deeper (envOfC x (defScope st) s.heap.objs.size f' cdv)) →
      Takes (cxOf (L2.CX P w) P w K mg base N x (defScope st) f' cdv A outer s H E) (fun c d _ H => E c d H) →
      ∃ t, PSs (cxOf (L2.CX P w) P w K mg base N x (defScope st) f' cdv A outer s H E) (defBody st) t ∧ YS K cl E m O t f) : FnG P w K mg base (L2.CX P w) (k + 1) f' fd [p] (spLawV K) := by
  refine fnG F S ?_ ?_
  · rintro vs H Q E ⟨s, ns, rfl, _⟩
    rfl
  intro cdv A outer s H vs Q E gu hr ⟨sc, ns, ev, hS, q⟩
  subst ev
  obtain ⟨t, ht, hy⟩ := body f' cdv A outer s H E gu hr (takes_of rfl rfl rfl rfl)
  refine ⟨t, ht, ?_⟩
  have ent : ∀ {i : Nat} {d : PyData}, (some (markD ns) :: List.replicate (N.length - 1) none)[i]? = some (some d) → i = 0 ∧ d = markD ns := fun {i d} e => by
    cases i with
    | zero =>
      cases e
      exact ⟨rfl, rfl⟩
    | succ i =>
      rw [List.getElem?_cons_succ, List.getElem?_replicate] at e
      split at e <;> cases e
  have nl : N.length = 1 + (N.length - 1) := by
    have : 1 ≤ N.length := by
      cases N with
      | nil => exact nomatch S.pre
      | cons _ _ => exact Nat.succ_le_succ (Nat.zero_le _)
    omega
  have sd : SDo K O (L2.start N [.ref sc]) H H (some (markD ns) :: List.replicate (N.length - 1) none) (fun _ _ => False) := by
    refine ⟨?_, fun i d h1 h2 => ?_, fun i d h1 h2 => ?_, fun _ _ z => z.elim, fun _ _ _ z => z.elim⟩
    · unfold L2.start
      simp only [List.length_append, List.length_map, List.length_cons, List.length_replicate, List.length_nil]
      omega
    · obtain ⟨rfl, rfl⟩ := ent h2
      exact ⟨.ref sc, rfl, .inr ⟨sc, ns, rfl, rfl, hS⟩⟩
    · obtain ⟨rfl, rfl⟩ := ent h2
      rw [hO] at h1
      exact nomatch h1
  have hz := hy (some (markD ns) :: List.replicate (N.length - 1) none)
  have rF : finY none (f (some (markD ns) :: List.replicate (N.length - 1) none)) = .v (.bool true) .none := hF ns
  refine hz.2 _ H H _ _ (Ex.refl H) sd ?_
  cases e : f (some (markD ns) :: List.replicate (N.length - 1) none) with
  | ret d ρ' =>
    rw [e] at rF
    have rF' : FR.v d (endOf none ρ') = .v (.bool true) .none := rF
    cases rF'
    exact fun v σ' B' H' W' l s' k hd => by
      cases hd
      exact q H'
  | st => rw [e] at rF; exact nomatch rF
  | br _ => rw [e] at rF; exact nomatch rF
  | ct _ => rw [e] at rF; exact nomatch rF
  | nx ρ' => rw [e] at rF; exact nomatch rF
  | reto d ρ' => rw [e] at rF; exact nomatch rF
  | x c i => rw [e] at rF; exact nomatch rF
end
end TD
set_option maxHeartbeats 4000000
namespace TD
open PySem PySem.Spec PyProof.Rows L2
section
variable {P : Program} {w : World} {A : Around} {E : Value → Shared → Prop} {s : Shared}
def ZpG (xs ys : Array Value) (h : Heap) (as : List Addr) : Prop := ∀ (j : Nat) (T : Addr), as[j]? = some T → ∃ (x y : Value), xs[j]? = some x ∧ ys[j]? = some y ∧ h.get? T = some { cls := Value.type "tuple", data := Data.seq #[x, y] }
theorem ZpG.keep {xs ys : Array Value} {h h' : Heap} {as : List Addr} (g : ZpG xs ys h as) (k : ∀ (b : Addr) (o : Obj), b ∈ as → h.get? b = some o → h'.get? b = some o) : ZpG xs ys h' as := fun j T e => by
  obtain ⟨x, y, e1, e2, e3⟩ := g j T e
  exact ⟨x, y, e1, e2, k T _ (List.mem_of_getElem? e) e3⟩
theorem ZpG.more {xs ys : Array Value} {h : Heap} {as : List Addr} {T : Addr} {x y : Value} (g : ZpG xs ys h as) (hx : xs[as.length]? = some x) (hy : ys[as.length]? = some y) (ht : h.get? T = some { cls := Value.type "tuple", data := Data.seq #[x, y] }) : ZpG xs ys h (as ++ [T]) := fun j T' e => by
  by_cases z : j < as.length
  · rw [List.getElem?_append_left z] at e
    exact g j T' e
  · rw [List.getElem?_append_right (by omega)] at e
    have : j = as.length := by
      rcases Nat.lt_or_ge (j - as.length) 1 with w | w
      · omega
      · rw [List.getElem?_eq_none (by simpa using w)] at e
        cases e
    subst this
    simp at e
    subst e
    exact ⟨x, y, hx, hy, ht⟩
structure ZpD (S z TI TO i1 i2 l1 l2 : Addr) : Prop where
  ap : ZipApart z TI TO i1 i2 l1 l2
  Sz : S ≠ z
  STI : S ≠ TI
  STO : S ≠ TO
  S1 : S ≠ i1
  S2 : S ≠ i2
  l1S : l1 ≠ S
  l2S : l2 ≠ S
end
end TD
set_option maxHeartbeats 4000000
namespace TD
open PySem PySem.Spec PyProof.Rows L2
open Evl (Ex)
section
variable {X : Cx}
end
end TD
set_option maxHeartbeats 4000000
namespace TD
open PySem PySem.Spec PyProof.Rows L2
open Evl (Ex)
section
variable {K : Fg} {cl : Nat → Addr} {E : XK} {m : Nat} {O : Nat → Bool} {ta tb tc te : TE} {fa fb fc fe : En → ER} {tt tu : TT} {ft fu : En → TR} {al : TA} {fl : En → AR} {ks : List AK} {ρ ρ' ρ1 : En}
end
end TD
set_option maxHeartbeats 4000000
namespace TD
open PySem PySem.Spec PyProof.Rows L2
open Evl (Ex)
section
variable {X : Cx}
end
end TD
set_option maxHeartbeats 4000000
namespace TD
open PySem PySem.Spec PyProof.Rows L2
open Evl (Ex)
section
variable {K : Fg} {cl : Nat → Addr} {E E' : XK} {m : Nat} {O : Nat → Bool} {tk tv : TE} {fk fv : En → ER} {tt : TT} {ft : En → TR} {tg : TG} {gz : PyData → En → Option En} {ρ : En} {T : Bool} {W : OW}
end
end TD
set_option maxHeartbeats 4000000
namespace TD
open PySem PySem.Spec PyProof.Rows L2
open Evl (Ex)
def topI : Int → List Int → Int
  | a, [] => a
  | a, n :: ns => topI (if a < n then n else a) ns
theorem topI_ge : ∀ (ns : List Int) (a : Int), a ≤ topI a ns ∧ ∀ n ∈ ns, n ≤ topI a ns
  | [], a => ⟨Int.le_refl a, fun _ h => nomatch h⟩
  | n :: ns, a => by
    obtain ⟨h1, h2⟩ := topI_ge ns (if a < n then n else a)
    have h3 : a ≤ (if a < n then n else a) ∧ n ≤ (if a < n then n else a) := by
      split <;> omega
    refine ⟨Int.le_trans h3.1 h1, fun k hk => ?_⟩
    rcases List.mem_cons.mp hk with w | w
    · rw [w]
      exact Int.le_trans h3.2 h1
    · exact h2 k w
theorem topI_in : ∀ (ns : List Int) (a : Int), topI a ns = a ∨ topI a ns ∈ ns
  | [], a => .inl rfl
  | n :: ns, a => by
    show topI (if a < n then n else a) ns = a ∨ topI (if a < n then n else a) ns ∈ n :: ns
    rcases topI_in ns (if a < n then n else a) with w | w
    · rw [w]
      split
      · exact .inr List.mem_cons_self
      · exact .inl rfl
    · exact .inr (List.mem_cons_of_mem _ w)
def gMaxL : List PyData → Option PyData
  | [.list ds] => match intsOf ds with
    | some (n :: ns) => some (.int (topI n ns))
    | _ => none
  | _ => none
section
variable {K : Fg}
theorem c_maxL : OpC K (rMax K) gMaxL := fun xs z h => by
  unfold gMaxL at h
  split at h
  · split at h
    · next ds n ns e =>
      cases h
      intro vs B H s hv Q q
      obtain ⟨v, r, rfl, d, t⟩ := hv.inv1
      cases t
      cases d with
      | lst ha hs =>
        rw [intsOf_eq e] at hs
        rw [ydas_ints hs] at ha
        refine ⟨_, n :: ns, rfl, SqL.of (s _ _ ha), Nat.succ_pos _, fun m hm hle => ?_⟩
        have e1 := topI_ge ns n
        have e2 : m ≤ topI n ns := by
          rcases List.mem_cons.mp hm with w | w
          · rw [w]; exact e1.1
          · exact e1.2 m w
        have e3 : topI n ns ≤ m := by
          rcases topI_in ns n with w | w
          · rw [w]; exact hle n List.mem_cons_self
          · exact hle _ (List.mem_cons_of_mem _ w)
        rw [Int.le_antisymm e2 e3]
        exact q _ B H (Le.rfl' s) (.int _)
    · exact nomatch h
  · exact nomatch h
end
section
variable {K : Fg} {cl : Nat → Addr} {E : XK} {m : Nat} {O : Nat → Bool} {ta tb te : TE} {fa fb fe : En → ER} {al ak : TA} {fl fk : En → AR} {ks : List AK} {ρ : En}
theorem FrA.go {W W1 W2 : OW} {H B1 H1 B2 H2 : Hp} {A : Addr → Prop} (n : FrA W H W1 B1 H1 A) (l : Go W1 B1 H1 W2 B2 H2) : FrA W H W2 B2 H2 A := fun a z =>
  let ⟨n1, n2, n3, n4⟩ := n a z
  ⟨l.old a n1 n2 n3, l.dom a n2, fun w => (l.own a w).elim n3 n2, n4⟩
theorem tup_le {B H : Hp} {t : Addr} {xs : List V} (sx : Ex B H) (ht : H t = none) : Le B H B (upd H t (.tup xs)) := ⟨Ex.new ht, Ex.refl B, sx.trans (Ex.new ht), fun _ h _ => h⟩
def sParOD (i j : Nat) (fa fb : En → ER) (ρ : En) : SR := match fa ρ with
  | .o d ρ1 => match fb ρ1 with
    | .v c ρ2 => .nx ((ρ2.set i (some d)).set j (some c))
    | _ => .st
  | _ => .st
def sParDO (i j : Nat) (fa fb : En → ER) (ρ : En) : SR := match fa ρ with
  | .v c ρ1 => match fb ρ1 with
    | .o d ρ2 => .nx ((ρ2.set j (some d)).set i (some c))
    | _ => .st
  | _ => .st
end
end TD
set_option maxHeartbeats 4000000
namespace TD
open PySem PySem.Spec PyProof.Rows L2
open Evl (Ex)
section
variable {K : Fg} {cl : Nat → Addr} {E Ew : XK} {m : Nat} {O : Nat → Bool} {ta te : TE} {fa fe : En → ER} {al : TA} {fl : En → AR} {ks : List AK} {ρ : En} {W : OW}
def fillK (ρ : En) : List AK → List PyData → Option (List PyData)
  | [], [] => some []
  | .o i :: ks, _ :: ds => match ρ[i]? with
    | some (some (.list xs)) => match fillK ρ ks ds with
      | some r => some (.list xs :: r)
      | none => none
    | _ => none
  | .d :: ks, d :: ds => match fillK ρ ks ds with
    | some r => some (d :: r)
    | none => none
  | .s _ :: ks, d :: ds => match fillK ρ ks ds with
    | some r => some (d :: r)
    | none => none
  | _, _ => none
def eCallB (F : List PyData → FR) (ks : List AK) (fl : En → AR) (ρ : En) : ER := aE (fl ρ) fun ds ρ1 => match fillK ρ1 ks ds with
  | some rs => match F rs with
    | .v d _ => match flatD d with
      | true => .v d ρ1
      | false => .st
    | _ => .st
  | none => .st
theorem flat_da {B B' : Hp} {v : V} {d : PyData} (h : Da K B v d) (f : flatD d = true) : Da K B' v d := by
  cases h with
  | non => exact .non
  | bl b => exact .bl b
  | int i => exact .int i
  | str x => exact .str x
  | _ => exact nomatch f
def ownsOk (O : Nat → Bool) (ks : List AK) : Bool := ks.all fun k => match k with
  | .o i => O i
  | _ => true
theorem ownsOk.all {O : Nat → Bool} {ks : List AK} (h : ownsOk O ks = true) (i : Nat) (z : AK.o i ∈ ks) : O i = true := List.all_eq_true.mp h _ z
def eIsiLO (i : Nat) (ρ : En) : ER := match ownL i ρ with
  | some _ => .v (.bool true) ρ
  | none => .st
end
end TD
set_option maxHeartbeats 4000000
namespace TD
open PySem PySem.Spec PyProof.Rows L2
open Evl (Ex)
open PySem.W (AllAlike Sortable dataLe alike)
section
variable {K : Fg} {cl : Nat → Addr} {E : XK} {m : Nat} {O : Nat → Bool} {ρ : En}
end
end TD
set_option maxHeartbeats 4000000
namespace TD
open PySem PySem.Spec PyProof.Rows L2
open Evl (Ex)
section
variable {K : Fg} {cl : Nat → Addr} {E : XK} {m : Nat} {O : Nat → Bool} {tk : TE} {fk : En → ER} {ρ ρ1 : En}
end
def eCatO (fa fb : En → ER) (ρ : En) : ER := match fa ρ with
  | .v (.list ds) ρ1 => match fb ρ1 with
    | .v (.list es) ρ2 => match decide (ds.length + es.length ≤ 100000) with
      | true => .o (.list (ds ++ es)) ρ2
      | false => .st
    | .x c i => .x c i
    | _ => .st
  | .x c i => .x c i
  | _ => .st
section
variable {K : Fg} {cl : Nat → Addr} {E : XK} {m : Nat} {O : Nat → Bool} {ta tb : TE} {fa fb : En → ER} {ρ : En}
theorem zCatO {ρ1 ρ2 : En} {ds es : List PyData} (h : fa ρ = .v (.list ds) ρ1) (h2 : fb ρ1 = .v (.list es) ρ2) (h3 : ds.length + es.length ≤ 100000) : eCatO fa fb ρ = .o (.list (ds ++ es)) ρ2 := by
  unfold eCatO
  rw [h]
  dsimp only
  rw [h2]
  dsimp only
  rw [decide_eq_true h3]
end
end TD
set_option maxHeartbeats 4000000
namespace TD
open PySem PySem.Spec PyProof.Rows L2
open Evl (Ex)
section
variable {K : Fg} {cl : Nat → Addr} {E : XK} {m : Nat} {O : Nat → Bool} {ta tb : TE} {fa fb : En → ER} {ρ : En}
end
end TD
set_option maxHeartbeats 4000000
namespace TD
open PySem PySem.Spec PyProof.Rows L2
open Evl (Ex)
def eCallBO (F : List PyData → FR) (ks : List AK) (fl : En → AR) (ρ : En) : ER := aE (fl ρ) fun ds ρ1 => match fillK ρ1 ks ds with
  | some rs => match F rs with
    | .o (.list xs) _ => match xs.all flatD with
      | true => .o (.list xs) ρ1
      | false => .st
    | _ => .st
  | none => .st
section
variable {K : Fg} {cl : Nat → Addr} {E Ew : XK} {m : Nat} {O : Nat → Bool} {al : TA} {fl : En → AR} {ks : List AK} {ρ ρ1 : En}
theorem zCallBO {F : List PyData → FR} {ds rs xs : List PyData} {e : PyData} (h : fl ρ = .vs ds ρ1) (hf : fillK ρ1 ks ds = some rs) (h2 : F rs = .o (.list xs) e) (hd : xs.all flatD = true) : eCallBO F ks fl ρ = .o (.list xs) ρ1 := by
  unfold eCallBO aE
  rw [h]
  dsimp only
  rw [hf]
  dsimp only
  rw [h2]
  dsimp only
  rw [hd]
end
end TD
set_option maxHeartbeats 4000000
namespace TD
open PySem PySem.Spec PyProof.Rows L2
open Evl (Ex)
def gIsB (neg : Bool) (x y : PyData) : Option PyData := match x, y with
  | .bool a, .bool b => some (.bool (neg != decide (a = b)))
  | _, _ => none
section
variable {K : Fg}
theorem o_notB : Op2 K (fun x y H Q => ∃ a b, x = .bl a ∧ y = .bl b ∧ Q (.bl (!decide (a = b))) H) (gIsB true) := fun x y z h => by
  intro v w B H s h1 h2 Q q
  unfold gIsB at h
  split at h
  · cases h
    cases h1
    cases h2
    exact ⟨_, _, rfl, rfl, by simpa using q _ B H (Le.rfl' s) (.bl _)⟩
  · exact nomatch h
end
end TD
set_option maxHeartbeats 4000000
namespace TD
open PySem PySem.Spec PyProof.Rows L2
open Evl (Ex)
def plain : PyData → Option PyData
  | .list ds => some (.list ds)
  | .dict kvs => some (.dict kvs)
  | .tuple [.list ls] => some (.list ls)
  | _ => none
def frAll (os : List Nat) : Nat → En → En
  | _, [] => []
  | i, o :: ρ => (match os.contains i with
    | true => o.bind plain
    | false => o) :: frAll os (i + 1) ρ
theorem frAll_len {os : List Nat} : ∀ {ρ : En} {i : Nat}, (frAll os i ρ).length = ρ.length
  | [], _ => rfl
  | o :: ρ, i => by
    show (frAll os (i + 1) ρ).length + 1 = ρ.length + 1
    rw [frAll_len]
theorem frAll_at {os : List Nat} : ∀ {ρ : En} {i j : Nat} {d : PyData}, (frAll os i ρ)[j]? = some (some d) → (os.contains (i + j) = false ∧ ρ[j]? = some (some d)) ∨ (os.contains (i + j) = true ∧ ∃ e, ρ[j]? = some (some e) ∧ plain e = some d)
  | o :: ρ, i, 0, d, h => by
    have h : some (match os.contains i with | true => o.bind plain | false => o) = some (some d) := h
    rw [Nat.add_zero]
    cases e : os.contains i with
    | false =>
      rw [e] at h
      exact .inl ⟨rfl, h⟩
    | true =>
      rw [e] at h
      have h : o.bind plain = some d := Option.some.inj h
      obtain ⟨x, h1, h2⟩ := Option.bind_eq_some_iff.mp h
      exact .inr ⟨rfl, x, by rw [h1]; rfl, h2⟩
  | o :: ρ, i, j + 1, d, h => by
    have h : (frAll os (i + 1) ρ)[j]? = some (some d) := h
    have w := frAll_at h
    rw [show i + 1 + j = i + (j + 1) by omega] at w
    exact w
def ePure (os : List Nat) (f : En → ER) (ρ : En) : ER := match f (frAll os 0 ρ) with
  | .v d _ => match flatD d with
    | true => .v d ρ
    | false => .st
  | _ => .st
def unls : List PyData → Option (List (List PyData))
  | [] => some []
  | .list r :: ls => match unls ls with
    | some rs => some (r :: rs)
    | none => none
  | _ => none
theorem unls_cons {r : List PyData} {ls : List PyData} {rs : List (List PyData)} (h : unls (.list r :: ls) = some rs) : ∃ ts, unls ls = some ts ∧ rs = r :: ts := by
  have h' : (match unls ls with | some rs => some (r :: rs) | none => none) = some rs := h
  cases e : unls ls with
  | none => rw [e] at h'; exact nomatch h'
  | some ts => rw [e] at h'; exact ⟨ts, rfl, (Option.some.inj h').symm⟩
theorem unls_eq : ∀ {ls : List PyData} {rs : List (List PyData)}, unls ls = some rs → ls = rs.map PyData.list
  | [], rs, h => by
    cases h
    rfl
  | .list r :: ls, rs, h => by
    obtain ⟨ts, e, rfl⟩ := unls_cons h
    rw [unls_eq e]
    rfl
  | .none :: _, _, h => nomatch h
  | .int _ :: _, _, h => nomatch h
  | .str _ :: _, _, h => nomatch h
  | .bool _ :: _, _, h => nomatch h
  | .tuple _ :: _, _, h => nomatch h
  | .dict _ :: _, _, h => nomatch h
theorem unls_map : ∀ rs : List (List PyData), unls (rs.map PyData.list) = some rs
  | [] => rfl
  | r :: rs => by
    show (match unls (rs.map PyData.list) with | some rs => some (r :: rs) | none => none) = some (r :: rs)
    rw [unls_map rs]
theorem map_list_inj : ∀ {rs ts : List (List PyData)}, rs.map PyData.list = ts.map PyData.list → rs = ts
  | [], [], _ => rfl
  | r :: rs, t :: ts, h => by
    injection h with h1 h2
    injection h1 with h1
    rw [h1, map_list_inj h2]
  | [], _ :: _, h => nomatch h
  | _ :: _, [], h => nomatch h
def ownR (i : Nat) (ρ : En) : Option (List (List PyData)) := match ρ[i]? with
  | some (some (.tuple [.list ls])) => unls ls
  | _ => none
theorem ownR_eq {i : Nat} {ρ : En} {rs : List (List PyData)} (h : ownR i ρ = some rs) : ρ[i]? = some (some (rD rs)) := by
  unfold ownR at h
  split at h
  · next ls e => rw [e, unls_eq h]
  · exact nomatch h
def lcOneR (ft : En → TR) (fe : En → ER) (ρ1 : En) : Option (Option (List PyData) × En) := match ft ρ1 with
  | .b true ρ2 => match fe ρ2 with
    | .o (.list r) ρ3 => some (some r, ρ3)
    | _ => none
  | .b false ρ2 => some (none, ρ2)
  | _ => none
def lcItR (vs : List Nat) (g : PyData → En → Option En) (ft : En → TR) (fe : En → ER) : List PyData → En → Option (List (List PyData) × En)
  | [], ρ => some ([], ρ)
  | d :: ds, ρ => match g d ρ with
    | none => none
    | some ρ1 => match lcOneR ft fe ρ1 with
      | none => none
      | some (o, ρ2) => match lcItR vs g ft fe ds (wipeD ρ2 vs) with
        | none => none
        | some (ys, ρ3) => some (match o with
          | some y => y :: ys
          | none => ys, ρ3)
def eLcR (fi : En → IRz) (vs : List Nat) (g : PyData → En → Option En) (ft : En → TR) (fe : En → ER) (ρ : En) : ER := match fi ρ with
  | .vs ds ρ1 => match decide (ds.length ≤ 40000) with
    | true => match lcItR vs g ft fe ds (wipeD ρ1 vs) with
      | some (ys, ρ2) => .o (rD ys) ρ2
      | none => .st
    | false => .st
  | .x c i => .x c i
  | .st => .st
section
variable {K : Fg} {cl : Nat → Addr} {E E' : XK} {m : Nat} {O : Nat → Bool} {ta tb tc te tk : TE} {fa fb fc fe fk : En → ER} {tt tu : TT} {ft fu : En → TR} {al : TA} {fl : En → AR} {ks : List AK} {ρ ρ' ρ1 : En} {t u : TS} {f g : En → SR} {tg : TG} {gz : PyData → En → Option En} {W W1 : OW} {os : List Nat}
theorem own_plain {B H : Hp} {p : Addr} {A : Addr → Prop} {d e : PyData} (s : Ex B H) (o : Own K B H p A e) (h : plain e = some d) : Da K H (.ref p) d := by
  match e, h, o with
  | .list ds, h, ⟨_, vs, hp, hv⟩ =>
    cases h
    exact .lst hp (hv.ex s)
  | .dict kvs, h, ⟨_, ws, ds, hp, hv, e⟩ =>
    cases h
    rw [e]
    exact .dic hp (hv.ex s)
  | .tuple [.list ls], h, ⟨_, qs, rs, e, hp, _, r⟩ =>
    cases h
    rw [e]
    exact .lst hp (r.das s fun _ _ => rfl)
theorem sd_plain {σ : L2.St} {B H : Hp} (s : Ex B H) (sd : SDo K O σ B H ρ W) (hO : O = fun i => os.contains i) : SDo K (fun _ => false) σ H H (frAll os 0 ρ) (fun _ _ => False) := by
  refine ⟨sd.len.trans frAll_len.symm, fun i d _ h => ?_, (fun _ _ h => nomatch h), fun _ _ z => z.elim, fun _ _ _ z => z.elim⟩
  rcases frAll_at h with ⟨h1, h2⟩ | ⟨h1, e, h2, h3⟩
  · rw [Nat.zero_add] at h1
    obtain ⟨v, a, b⟩ := sd.dat i d (by rw [hO]; exact h1) h2
    exact ⟨v, a, b.ex s⟩
  · rw [Nat.zero_add] at h1
    obtain ⟨p, a, b⟩ := sd.own i e (by rw [hO]; exact h1) h2
    exact ⟨.ref p, a, .inl (own_plain s b h3)⟩
theorem ye_pure (h : YE K cl E m (fun _ => false) te fe) (hO : O = fun i => os.contains i := by rfl) : YE K cl E m O te (ePure os fe) := fun ρ => by
  have a := h (frAll os 0 ρ)
  unfold ePure
  cases e : fe (frAll os 0 ρ) with
  | st => trivial
  | o d ρ1 => trivial
  | x c i => trivial
  | v d ρ1 =>
    rw [e] at a
    show EOy K cl E m O te ρ (match flatD d with | true => ER.v d ρ | false => .st)
    cases hf : flatD d with
    | false => trivial
    | true =>
      refine ⟨trivial, fun σ B H W s sd Q q => a.2 σ H H _ (Ex.refl H) (sd_plain s sd hO) Q fun v B' H' W' l s' d' => ?_⟩
      have up : Ex H H' := fun b o hb => l.ex b o hb fun ⟨_, z⟩ => z
      have l2 : Le B H B H' := ⟨up, Ex.refl B, s.trans up, fun _ h _ => h⟩
      exact q v B H' W l2.o (sd.le l2) (flat_da d' hf)
def YP (K : Fg) (O : Nat → Bool) (te : TE) (g : En → Option PyData) : Prop := ∀ ρ d, g ρ = some d → ∀ σ B H W, Ex B H → SDo K O σ B H ρ W → ∀ Q : VK, (∀ v B' H', Le B H B' H' → Da K B' v d → Q v H') → te σ H Q
def gPure (os : List Nat) (f : En → ER) (ρ : En) : Option PyData := match f (frAll os 0 ρ) with
  | .v d _ => match flatD d with
    | true => some d
    | false => none
  | _ => none
theorem yp_pure (h : YE K cl E m (fun _ => false) te fe) (hO : O = fun i => os.contains i := by rfl) : YP K O te (gPure os fe) := fun ρ d hd σ B H W s sd Q q => by
  have a := h (frAll os 0 ρ)
  unfold gPure at hd
  cases e : fe (frAll os 0 ρ) with
  | st => rw [e] at hd; exact nomatch hd
  | o d ρ1 => rw [e] at hd; exact nomatch hd
  | x c i => rw [e] at hd; exact nomatch hd
  | v d' ρ1 =>
    rw [e] at hd a
    dsimp only at hd
    cases hf : flatD d' with
    | false => rw [hf] at hd; exact nomatch hd
    | true =>
      rw [hf] at hd
      cases hd
      refine a.2 σ H H _ (Ex.refl H) (sd_plain s sd hO) Q fun v B' H' W' l s' d' => ?_
      have up : Ex H H' := fun b o hb => l.ex b o hb fun ⟨_, z⟩ => z
      exact q v B H' ⟨up, Ex.refl B, s.trans up, fun _ h _ => h⟩ (flat_da d' hf)
theorem Rows.len {B H : Hp} {A : Addr → Prop} : ∀ {qs : List Addr} {rs : List (List PyData)}, Rows K B H A qs rs → qs.length = rs.length
  | [], [], _ => rfl
  | q :: qs, r :: rs, ⟨_, t⟩ => by rw [List.length_cons, List.length_cons, Rows.len t]
theorem Rows.get {B H : Hp} {A : Addr → Prop} : ∀ {qs : List Addr} {rs : List (List PyData)} {n : Nat} {r : List PyData}, Rows K B H A qs rs → rs[n]? = some r → ∃ q vs, qs[n]? = some q ∧ A q ∧ H q = some (.lst vs) ∧ Das K B vs r
  | q :: qs, r :: rs, 0, r', ⟨⟨h1, _, vs, h2, h3⟩, _⟩, e => by
    cases e
    exact ⟨q, vs, rfl, h1, h2, h3⟩
  | q :: qs, r :: rs, n + 1, r', ⟨_, t⟩, e => Rows.get (qs := qs) (rs := rs) (n := n) t e
  | [], [], n, r', _, e => nomatch e
theorem Rows.nd {B H : Hp} {A : Addr → Prop} : ∀ {qs : List Addr} {rs : List (List PyData)}, Rows K B H A qs rs → qs.Nodup
  | [], [], _ => List.nodup_nil
  | q :: qs, r :: rs, ⟨⟨_, h, _⟩, t⟩ => List.nodup_cons.mpr ⟨h, Rows.nd t⟩
theorem Rows.app {B H : Hp} {A : Addr → Prop} {q : Addr} {r : List PyData} {vs : List V} (hA : A q) (h : H q = some (.lst vs)) (d : Das K B vs r) : ∀ {qs : List Addr} {rs : List (List PyData)}, q ∉ qs → Rows K B H A qs rs → Rows K B H A (qs ++ [q]) (rs ++ [r])
  | [], [], _, _ => ⟨⟨hA, (fun z => nomatch z), vs, h, d⟩, trivial⟩
  | p :: qs, s :: rs, n, ⟨⟨h1, h2, us, h3, h4⟩, t⟩ => ⟨⟨h1, fun z => by
      rcases List.mem_append.mp z with z | z
      · exact h2 z
      · exact n (by rw [List.mem_singleton.mp z]; exact List.mem_cons_self), us, h3, h4⟩, Rows.app hA h d (fun z => n (List.mem_cons_of_mem _ z)) t⟩
theorem Rows.off {B H : Hp} {A : Addr → Prop} {p : Addr} {o : HO} : ∀ {qs : List Addr} {rs : List (List PyData)}, p ∉ qs → Rows K B H A qs rs → Rows K B (upd H p o) A qs rs
  | [], [], _, _ => trivial
  | q :: qs, r :: rs, n, ⟨⟨h1, h2, vs, h3, h4⟩, t⟩ => ⟨⟨h1, h2, vs, by rw [upd_ne (fun z => n (by rw [← z]; exact List.mem_cons_self))]; exact h3, h4⟩, Rows.off (fun z => n (List.mem_cons_of_mem _ z)) t⟩
theorem Rows.set {B H : Hp} {A : Addr → Prop} {q : Addr} {vs : List V} {r : List PyData} (hv : Das K B vs r) : ∀ {qs : List Addr} {rs : List (List PyData)} {n : Nat}, Rows K B H A qs rs → qs[n]? = some q → Rows K B (upd H q (.lst vs)) A qs (rs.set n r)
  | p :: qs, s :: rs, 0, ⟨⟨h1, h2, us, h3, h4⟩, t⟩, e => by
    cases e
    exact ⟨⟨h1, h2, vs, upd_same, hv⟩, t.off h2⟩
  | p :: qs, s :: rs, n + 1, ⟨⟨h1, h2, us, h3, h4⟩, t⟩, e => by
    have e' : qs[n]? = some q := e
    exact ⟨⟨h1, h2, us, by rw [upd_ne (fun z => h2 (by rw [z]; exact List.mem_of_getElem? e'))]; exact h3, h4⟩, Rows.set hv t e'⟩
  | [], [], n, _, e => nomatch e
theorem own_rows {i : Nat} {rs : List (List PyData)} {σ : L2.St} {B H : Hp} (sd : SDo K O σ B H ρ W) (hO : O i = true) (h : ownR i ρ = some rs) : ∃ p qs, σ[i]? = some (some (.ref p)) ∧ W i p ∧ H p = some (.lst (qs.map V.ref)) ∧ p ∉ qs ∧ Rows K B H (W i) qs rs := by
  obtain ⟨p, e, q, qs, ts, e2, hp, n, r⟩ := sd.own i _ hO (ownR_eq h)
  rw [← map_list_inj e2] at r
  exact ⟨p, qs, e, q, hp, n, r⟩
def LIr (K : Fg) (O : Nat → Bool) (σ : L2.St) (B H : Hp) (W : OW) (D : Addr) (vs : List Nat) (gz : PyData → En → Option En) (ft : En → TR) (fe : En → ER) (ds : List PyData) (ys : List (List PyData)) (ρe : En) (i : Nat) (H' : Hp) : Prop :=
  ∃ B' ρ' W' qs out rest, Go W B H W' B' H' ∧ SDo K O (L2.wipe σ vs) B' H' ρ' W' ∧ ¬ WA W' D ∧ B' D = none ∧ H' D = some (.lst (qs.map V.ref)) ∧ D ∉ qs ∧ (∀ q ∈ qs, B' q = none ∧ ¬ WA W' q ∧ (WA W q ∨ H q = none)) ∧ Rows K B' H' (fun a => a ∈ qs) qs out ∧ lcItR vs gz ft fe (ds.drop i) ρ' = some (rest, ρe) ∧ out ++ rest = ys ∧ out.length ≤ i ∧ wipeD ρ' vs = ρ'
theorem lcItR_cons {vs : List Nat} {d : PyData} {ds : List PyData} {out : List (List PyData) × En} (h : lcItR vs gz ft fe (d :: ds) ρ = some out) : ∃ ρ1 o ρ2 rs ρ3, gz d ρ = some ρ1 ∧ lcOneR ft fe ρ1 = some (o, ρ2) ∧ lcItR vs gz ft fe ds (wipeD ρ2 vs) = some (rs, ρ3) ∧ out = (match (generalizing := false) o with | some y => y :: rs | none => rs, ρ3) := by
  unfold lcItR at h
  split at h
  · exact nomatch h
  · next ρ1 e1 =>
    split at h
    · exact nomatch h
    · next o ρ2 e2 =>
      split at h
      · exact nomatch h
      · next rs ρ3 e3 => exact ⟨ρ1, o, ρ2, rs, ρ3, e1, e2, e3, (Option.some.inj h).symm⟩
theorem lcOneR_no {ρ1 ρ2 : En} (h : lcOneR ft fe ρ1 = some (none, ρ2)) : ft ρ1 = .b false ρ2 := by
  unfold lcOneR at h
  split at h
  · split at h
    · exact nomatch (congrArg Prod.fst (Option.some.inj h))
    · exact nomatch h
  · next e =>
    cases h
    exact e
  · exact nomatch h
theorem lcOneR_yes {ρ1 ρ3 : En} {y : List PyData} (h : lcOneR ft fe ρ1 = some (some y, ρ3)) : ∃ ρ2, ft ρ1 = .b true ρ2 ∧ fe ρ2 = .o (.list y) ρ3 := by
  unfold lcOneR at h
  split at h
  · next ρ2 e =>
    split at h
    · next y' ρ3' e2 =>
      cases h
      exact ⟨ρ2, e, e2⟩
    · exact nomatch h
  · exact nomatch (congrArg Prod.fst (Option.some.inj h))
  · exact nomatch h
theorem rows_keep {B H B1 H1 : Hp} {N : Addr → Prop} {qs : List Addr} {out : List (List PyData)} (l : Go W B H W1 B1 H1) (n : ∀ q ∈ qs, B q = none ∧ ¬ WA W q ∧ N q) (r : Rows K B H (fun a => a ∈ qs) qs out) : (∀ q ∈ qs, B1 q = none ∧ ¬ WA W1 q ∧ N q) ∧ Rows K B1 H1 (fun a => a ∈ qs) qs out := by
  refine ⟨fun q hq => ?_, r.up l.toLeO fun a h => (n a h).2.1⟩
  obtain ⟨n1, n2, n3⟩ := n q hq
  have hs : H q ≠ none := by
    obtain ⟨k, hk⟩ := List.getElem?_of_mem hq
    have kl : k < out.length := by
      rw [← r.len]
      exact (List.getElem?_eq_some_iff.mp hk).1
    obtain ⟨q', vs, e1, _, e2, _⟩ := r.get (List.getElem?_eq_getElem kl)
    rw [hk] at e1
    cases e1
    rw [e2]
    exact fun z => nomatch z
  exact ⟨l.old q n1 hs n2, fun z => (l.own q z).elim n2 hs, n3⟩
theorem lr_turn {vs : List Nat} (hg : ZGw K O vs tg gz) (ht : YT K cl E' 0 O tt ft) (he : YE K cl E' 0 O te fe) {σ : L2.St} {B H H' : Hp} {D : Addr} {ds : List PyData} {ys : List (List PyData)} {ρe : En} {i : Nat} (hD : H D = none) (hz : ds.length ≤ 40000) (w : LIr K O σ B H W D vs gz ft fe ds ys ρe i H') {d : PyData} (hi : ds[i]? = some d) {v : V} {H'' : Hp} (hd : ∀ B', Ex B B' → Ex B' H' → ∃ B'', Le B' H' B'' H'' ∧ Da K B'' v d) :
    tg v (L2.wipe σ vs) H'' fun σ2 H2 => L2.wipe σ2 vs = L2.wipe σ vs ∧ tt σ2 H2 fun b H3 =>
      if b = true then te σ2 H3 fun y H4 => ∃ acc, H4 D = some (.lst acc) ∧ acc.length < sizeLine ∧ LIr K O σ B H W D vs gz ft fe ds ys ρe (i + 1) (upd H4 D (.lst (acc ++ [y]))) else LIr K O σ B H W D vs gz ft fe ds ys ρe (i + 1) H3 := by
  obtain ⟨B', ρ', W', qs, out, rest, l, s, o, nD, eD, Dq, nq, rw_, hr, ho, hl, hwp⟩ := w
  have il : i < ds.length := (List.getElem?_eq_some_iff.mp hi).1
  rw [drop_cons hi] at hr
  obtain ⟨ρ1, o1, ρ2, rs, ρ3, e1, e2, e4, er⟩ := lcItR_cons hr
  obtain ⟨B1, l1, d1⟩ := hd B' l.ek l.sub
  have s1 := s.le l1
  obtain ⟨eD1, o1', nD1⟩ := (l1.o (W := W')).keep eD o nD
  obtain ⟨nq1, rw1⟩ := rows_keep (l1.o (W := W')) nq rw_
  refine hg d ρ' ρ1 e1 (L2.wipe σ vs) v B1 H'' W' l1.sub s1 d1 _ fun σ2 s2 k2 => ⟨k2.trans (wipe_none vs), ?_⟩
  have kk : L2.wipe σ2 vs = L2.wipe σ vs := k2.trans (wipe_none vs)
  have lA : Go W B H W' B1 H'' := l.tr l1.o
  have at1 := ht ρ1
  have back : L2.wipe (L2.wipe σ vs) vs = L2.wipe σ2 vs := by rw [wipe_none, kk]
  cases o1 with
  | none =>
    rw [lcOneR_no e2] at at1
    refine at1.2 σ2 B1 H'' W' l1.sub s2 _ fun B3 H3 W3 l3 s3 => ?_
    obtain ⟨e3, o3, n3⟩ := l3.keep eD1 o1' nD1
    obtain ⟨nq3, rw3⟩ := rows_keep l3 nq1 rw1
    have er : (rest, ρe) = (rs, ρ3) := er
    cases er
    exact ⟨B3, wipeD ρ2 vs, W3, qs, out, rest, lA.tr l3, s3.wiped back, o3, n3, e3, Dq, nq3, rw3, e4, ho, by omega, wipeD_two⟩
  | some y =>
    obtain ⟨ρt, q1, q2⟩ := lcOneR_yes e2
    have b1 := he ρt
    rw [q1] at at1
    rw [q2] at b1
    have er : (rest, ρe) = (y :: rs, ρ3) := er
    cases er
    refine at1.2 σ2 B1 H'' W' l1.sub s2 _ fun B3 H3 W3 l3 s3 => ?_
    show te σ2 H3 _
    obtain ⟨e3, o3, n3⟩ := l3.keep eD1 o1' nD1
    obtain ⟨nq3, rw3⟩ := rows_keep l3 nq1 rw1
    refine b1.2 σ2 B3 H3 W3 l3.sub s3 _ fun u A B4 H4 W4 l4 s4 o4w n4w => ?_
    obtain ⟨e4', o4, n4⟩ := l4.keep e3 o3 n3
    obtain ⟨nq4, rw4⟩ := rows_keep l4 nq3 rw3
    have l14 : Go W B H W4 B4 H4 := (lA.tr l3).tr l4
    obtain ⟨uA, vs4, hu, dv⟩ := o4w
    obtain ⟨u1, u2, u3, u4⟩ := n4w u uA
    have uD : u ≠ D := fun z => by
      subst z
      rcases u4 with w | w
      · exact o3 w
      · rw [e3] at w
        cases w
    have uq : u ∉ qs := fun z => by
      rcases u4 with w | w
      · exact (nq3 u z).2.1 w
      · obtain ⟨k, hk⟩ := List.getElem?_of_mem z
        have kl : k < out.length := by
          rw [← rw3.len]
          exact (List.getElem?_eq_some_iff.mp hk).1
        obtain ⟨q', vs', f1, _, f2, _⟩ := rw3.get (List.getElem?_eq_getElem kl)
        rw [hk] at f1
        cases f1
        rw [f2] at w
        cases w
    have lD : Go W B H W4 B4 (upd H4 D (.lst (qs.map V.ref ++ [.ref u]))) := by
      refine ⟨⟨fun b x hb nb => ?_, fun b hb => ?_, l14.ek, fun b x hb => ?_, l14.old⟩, l14.own⟩
      · rw [upd_ne (fun z => by rw [z, hD] at hb; cases hb)]
        exact l14.ex b x hb nb
      · by_cases z : b = D
        · rw [z, upd_same]
          exact fun z => nomatch z
        · rw [upd_ne z]
          exact l14.dom b hb
      · rw [upd_ne (ne_of_none hb n4)]
        exact l14.sub b x hb
    have sD : SDo K O σ2 B4 (upd H4 D (.lst (qs.map V.ref ++ [.ref u]))) ρ2 W4 := s4.up (X := fun p => p = D) ⟨fun b x hb nb => by rw [upd_ne nb]; exact hb, fun b hb => by
        by_cases z : b = D
        · rw [z, upd_same]
          exact fun z => nomatch z
        · rw [upd_ne z]
          exact hb, Ex.refl B4, fun b x hb => by rw [upd_ne (ne_of_none hb n4)]; exact l4.sub b x hb, fun b h1 _ _ => h1⟩ fun p z => by
        rw [z]
        exact o4
    have rw5 : Rows K B4 (upd H4 D (.lst (qs.map V.ref ++ [.ref u]))) (fun a => a ∈ qs ++ [u]) (qs ++ [u]) (out ++ [y]) :=
      (Rows.app (A := fun a => a ∈ qs ++ [u]) (List.mem_append_right _ List.mem_cons_self) hu dv uq (rw4.mono fun a h => List.mem_append_left _ h)).off fun z => by
        rcases List.mem_append.mp z with z | z
        · exact Dq z
        · exact uD (List.mem_singleton.mp z).symm
    refine ⟨qs.map V.ref, e4', Evl.sz_lt (by rw [List.length_map, rw4.len]; omega), B4, wipeD ρ2 vs, W4, qs ++ [u], out ++ [y], rs, lD, sD.wiped back, o4, n4, ?_, ?_, fun q hq => ?_, rw5, e4, by rw [← ho, List.append_assoc]; rfl, by rw [List.length_append, List.length_singleton]; omega, wipeD_two⟩
    · rw [upd_same, List.map_append]
      rfl
    · intro z
      rcases List.mem_append.mp z with z | z
      · exact Dq z
      · exact uD (List.mem_singleton.mp z).symm
    · rcases List.mem_append.mp hq with z | z
      · exact nq4 q z
      · rw [List.mem_singleton.mp z]
        exact ⟨u1, u3, u4.elim (fun w => (lA.tr l3).own u w) fun w => .inr ((lA.tr l3).toLeO.back w)⟩
end
end TD
set_option maxHeartbeats 4000000
namespace TD
open PySem PySem.Spec PyProof.Rows L2
open Evl (Ex)
section
variable {K : Fg} {cl : Nat → Addr} {E E' : XK} {m : Nat} {O : Nat → Bool} {ta tb tc te tk : TE} {fa fb fc fe fk : En → ER} {tt tu : TT} {ft fu : En → TR} {al : TA} {fl : En → AR} {ks : List AK} {ρ ρ' ρ1 : En} {t u : TS} {f g : En → SR} {tg : TG} {gz : PyData → En → Option En} {W W1 : OW} {os : List Nat}
theorem Rows.at_ {B H : Hp} {A A2 : Addr → Prop} : ∀ {qs : List Addr} {rs : List (List PyData)}, (∀ q ∈ qs, A2 q) → Rows K B H A qs rs → Rows K B H A2 qs rs
  | [], [], _, _ => trivial
  | q :: qs, r :: rs, h, ⟨⟨h1, h2, vs, h3, h4⟩, t⟩ => ⟨⟨h q List.mem_cons_self, h2, vs, h3, h4⟩, Rows.at_ (fun x m => h x (List.mem_cons_of_mem _ m)) t⟩
theorem ye_lcR {ti : TI} {fi : En → IRz} {vs : List Nat} (hi : YI K cl E m O ti fi) (hg : ZGw K O vs tg gz) (ht : YT K cl E' 0 O tt ft) (he : YE K cl E' 0 O te fe) (hb : Blk O vs = true := by rfl) : YE K cl E m O (tLc ti tg tt te vs) (eLcR fi vs gz ft fe) := fun ρ => by
  have a := hi ρ
  unfold eLcR
  cases h : fi ρ with
  | st => trivial
  | x c i =>
    rw [h] at a
    exact ⟨a.1, fun σ B H W s sd v hv w Q => a.2 σ B H W s sd v hv w _⟩
  | vs ds ρ1 =>
    rw [h] at a
    show EOy K cl E m O _ ρ (match decide (ds.length ≤ 40000) with | true => (match lcItR vs gz ft fe ds (wipeD ρ1 vs) with | some (ys, ρ2) => .o (rD ys) ρ2 | none => .st) | false => .st)
    cases h2 : decide (ds.length ≤ 40000) with
    | false => trivial
    | true =>
      have hz := of_decide_eq_true h2
      show EOy K cl E m O _ ρ (match lcItR vs gz ft fe ds (wipeD ρ1 vs) with | some (ys, ρ2) => .o (rD ys) ρ2 | none => .st)
      cases h3 : lcItR vs gz ft fe ds (wipeD ρ1 vs) with
      | none => trivial
      | some out =>
        obtain ⟨ys, ρe⟩ := out
        refine ⟨trivial, fun σ B H W s sd Q q => a.2 σ B H W s sd _ fun J B1 H1 W1 l1 s1 hw D hD => ?_⟩
        have hoD : ¬ WA W1 D := fun ⟨i, z⟩ => (s1.bh i D z).2 hD
        refine ⟨fun i n H' => n = ds.length - i ∧ LIr K O σ B1 H1 W1 D vs gz ft fe ds ys ρe i H', ⟨ds.length, rfl, B1, wipeD ρ1 vs, W1, [], [], ys, ⟨⟨fun b x hb _ => Ex.new hD b x hb, fun b hb => ?_, Ex.refl B1, l1.sub.trans (Ex.new hD), fun _ h _ _ => h⟩, fun _ z => .inl z⟩, ?_, hoD, Evl.fresh_back l1.sub hD, upd_same, (fun z => nomatch z), (fun _ z => nomatch z), trivial, by rw [List.drop_zero]; exact h3, rfl, Nat.le_refl _, wipeD_two⟩, ?_⟩
        · by_cases z : b = D
          · rw [z, upd_same]
            exact fun z => nomatch z
          · rw [upd_ne z]
            exact hb
        · exact (s1.le ⟨Ex.new hD, Ex.refl B1, l1.sub.trans (Ex.new hD), fun _ h _ => h⟩).wiped (wipe_none vs)
        rintro i n H' ⟨rfl, w⟩
        obtain ⟨B', ρ', W', qs, out, rest, l, s', o, nD, eD, Dq, nq, r, hr, ho, hl, hwp⟩ := id w
        obtain ⟨w1, w2⟩ := hw i B' H' l.ek l.sub
        cases hd : ds[i]? with
        | none =>
          refine .inl ⟨w1 hd, ?_⟩
          rw [drop_all (List.getElem?_eq_none_iff.mp hd)] at hr
          have hr : ([], ρ') = (rest, ρe) := Option.some.inj hr
          cases hr
          rw [List.append_nil] at ho
          subst ho
          refine q D (fun a => a = D ∨ a ∈ qs) B' H' W' (l1.tr l) ?_ ⟨.inl rfl, qs, out, rfl, eD, Dq, r.mono fun _ h => .inr h⟩ fun b hb => ?_
          · have w9 := s'.wiped (σ' := σ) (vs := vs) (wipe_none vs).symm
            rwa [hwp] at w9
          · rcases hb with e | hb
            · subst e
              exact ⟨nD, (by rw [eD]; exact fun z => nomatch z), o, .inr (l1.toLeO.back hD)⟩
            · obtain ⟨n1, n2, n3⟩ := nq b hb
              refine ⟨n1, ?_, n2, n3.elim (l1.own b) fun z => .inr (l1.toLeO.back z)⟩
              obtain ⟨k, hk⟩ := List.getElem?_of_mem hb
              have kl : k < out.length := by
                rw [← r.len]
                exact (List.getElem?_eq_some_iff.mp hk).1
              obtain ⟨q', us, f1, _, f2, _⟩ := r.get (List.getElem?_eq_getElem kl)
              rw [hk] at f1
              cases f1
              rw [f2]
              exact fun z => nomatch z
        | some d =>
          obtain ⟨w3, w4⟩ := w2 d hd
          have il : i < ds.length := (List.getElem?_eq_some_iff.mp hd).1
          refine .inr ⟨w3, LIr K O σ B1 H1 W1 D vs gz ft fe ds ys ρe (i + 1), fun H2 z => ⟨ds.length - (i + 1), by omega, rfl, z⟩, fun x H2 hy => ?_⟩
          exact lr_turn hg ht he hD hz w hd fun B2 k2 s2 => by
            obtain ⟨_, w5⟩ := (hw i B2 H' k2 s2).2 d hd
            exact w5 x H2 hy
theorem SDo.chgAt {σ : L2.St} {B H : Hp} {p q : Addr} {d d' : PyData} {o : HO} (s : SDo K O σ B H ρ W) (sx : Ex B H) (i : Nat) (hi : O i = true) (h : ρ[i]? = some (some d)) (hs : σ[i]? = some (some (.ref p))) (wq : W i q) (ho : Own K B (upd H q o) p (W i) d') : SDo K O σ B (upd H q o) (ρ.set i (some d')) W ∧ Go W B H W B (upd H q o) := by
  obtain ⟨bq, hq⟩ := s.bh i q wq
  have l : LeO (W i) B H B (upd H q o) := by
    refine ⟨fun b u hb n => by rw [upd_ne (fun z => n (by rw [z]; exact wq))]; exact hb, fun b hb => ?_, Ex.refl B, fun b u hb => ?_, fun a h1 _ _ => h1⟩
    · by_cases z : b = q
      · rw [z, upd_same]
        exact fun z => nomatch z
      · rw [upd_ne z]
        exact hb
    · rw [upd_ne (ne_of_none hb bq)]
      exact sx b u hb
  obtain ⟨a, b⟩ := s.chgG i hi h hs l (A := W i) (fun a z => ⟨(s.bh i a z).1, l.dom a (s.bh i a z).2, .inl z⟩) ho
  have e : W.put i (W i) = W := by
    funext j a
    apply propext
    constructor
    · rintro (⟨rfl, z⟩ | ⟨_, z⟩) <;> exact z
    · intro z
      by_cases q : j = i
      · subst q
        exact .inl ⟨rfl, z⟩
      · exact .inr ⟨q, z⟩
  rw [e] at a b
  exact ⟨a, b⟩
def sSetR (i : Nat) (ga gb ge : En → Option PyData) (ρ : En) : SR := match ge ρ with
  | none => .st
  | some d => match ga ρ with
    | some (.int (.ofNat a)) => match gb ρ with
      | some (.int (.ofNat b)) => match ownR i ρ with
        | some rs => match rs[a]? with
          | some r => match decide (b < r.length) with
            | true => .nx (ρ.set i (some (rD (rs.set a (r.set b d)))))
            | false => .st
          | none => .st
        | none => .st
      | _ => .st
    | _ => .st
theorem ys_setR {i : Nat} {ga gb ge : En → Option PyData} (he : YP K O te ge) (ha : YP K O ta ga) (hb : YP K O tb gb) (hO : O i = true := by rfl) : YS K cl E m O (tAsg te (gSub (tOp (rIxL K) (tVar i) ta) tb rSetL)) (sSetR i ga gb ge) := fun ρ => by
  unfold sSetR
  split
  · exact .stuck
  · next d hd =>
    split
    · next a hha =>
      split
      · next b hhb =>
        split
        · next rs hr =>
          split
          · next r hrr =>
            split
            · next hlt =>
              have hlt := of_decide_eq_true hlt
              refine ⟨fun _ _ h => (nomatch h), fun σ B H W D s sd q => he ρ d hd σ B H W s sd _ fun v B1 H1 l1 d1 => ?_⟩
              have s1 := sd.le l1
              obtain ⟨p, qs, e, wp, hp, np, ro⟩ := own_rows s1 hO hr
              refine ⟨.ref p, e, ha ρ _ hha σ B1 H1 W l1.sub s1 _ fun y B2 H2 l2 d2 => ?_⟩
              cases d2
              obtain ⟨qa, vs, e1, wq, hq, hv⟩ := ro.get hrr
              refine ⟨p, _, _, .ref qa, rfl, rfl, SqL.of (l2.ex _ _ hp), atI_nat (by rw [List.getElem?_map, e1]; rfl), ?_⟩
              refine hb ρ _ hhb σ B2 H2 W l2.sub (s1.le l2) _ fun z B3 H3 l3 d3 => ?_
              cases d3
              have s3 := (s1.le l2).le l3
              have up : ∀ {x o}, H1 x = some o → H3 x = some o := fun h => l3.ex _ _ (l2.ex _ _ h)
              have l13 := l2.tr l3
              refine ⟨qa, vs, _, b, rfl, rfl, up hq, ixN_nat (by rw [hv.len]; exact hlt), ?_⟩
              have np' : p ≠ qa := fun z => np (by rw [z]; exact List.mem_of_getElem? e1)
              obtain ⟨s4, l4⟩ := s3.chgAt (q := qa) (d' := rD (rs.set a (r.set b d))) (o := .lst (vs.set b v)) l3.sub i hO (ownR_eq hr) e wq ⟨wp, qs, _, rfl, by rw [upd_ne np']; exact up hp, np, Rows.set (Das.set (hv.ex l13.ek) (d1.ex l13.ek)) (ro.up (X := fun _ => False) l13.lo fun _ _ z => z) e1⟩
              exact q σ B3 _ W (((l1.o).tr l13.o).tr l4) s4 fun _ _ => rfl
            · exact .stuck
          · exact .stuck
        · exact .stuck
      · exact .stuck
    · exact .stuck
def sAppR (i : Nat) (ga ge : En → Option PyData) (ρ : En) : SR := match ga ρ with
  | some (.int (.ofNat a)) => match ge ρ with
    | some d => match ownR i ρ with
      | some rs => match rs[a]? with
        | some r => match decide (r.length ≤ 90000) with
          | true => .nx (ρ.set i (some (rD (rs.set a (r ++ [d])))))
          | false => .st
        | none => .st
      | none => .st
    | _ => .st
  | _ => .st
end
end TD
set_option maxHeartbeats 4000000
namespace TD
open PySem PySem.Spec PyProof.Rows L2
open Evl (Ex)
section
variable {K : Fg} {cl : Nat → Addr} {E : XK} {m : Nat} {O : Nat → Bool} {te : TE} {ρ ρ' ρ1 : En} {W W1 : OW}
theorem SDo.drop {σ : L2.St} {B H : Hp} (s : SDo K O σ B H ρ W) (j : Nat) (v : V) (hj : O j = false) : SDo K O (σ.set j (some v)) B H (ρ.set j none) W := by
  have ne : ∀ {i : Nat} {e : PyData}, (ρ.set j none)[i]? = some (some e) → i ≠ j ∧ ρ[i]? = some (some e) := fun {i e} h => by
    by_cases z : i = j
    · subst z
      by_cases l : i < ρ.length
      · rw [List.getElem?_set_self l] at h
        cases h
      · rw [List.getElem?_eq_none (by rw [List.length_set]; omega)] at h
        cases h
    · rw [List.getElem?_set_ne (Ne.symm z)] at h
      exact ⟨z, h⟩
  refine ⟨by rw [List.length_set, List.length_set]; exact s.len, fun i e h1 hi => ?_, fun i e h1 hi => ?_, s.bh, s.dis⟩
  · rw [List.getElem?_set_ne (Ne.symm (ne hi).1)]
    exact s.dat i e h1 (ne hi).2
  · rw [List.getElem?_set_ne (Ne.symm (ne hi).1)]
    exact s.own i e h1 (ne hi).2
end
end TD
set_option maxHeartbeats 4000000
namespace TD
open PySem PySem.Spec PyProof.Rows L2
open Evl (Ex)
section
variable {X : Cx} {e st : Expr} {te ts : TE} {p2 pos p : Pos} {x : Str} {k : Nat} {sp : Sp} {E : L2.St → XK}
end
section
variable {K : Fg} {cl : Nat → Addr} {E : XK} {m : Nat} {O : Nat → Bool} {ta ts : TE} {fa fs : En → ER} {ρ : En}
end
end TD
set_option maxHeartbeats 4000000
namespace TD
open PySem PySem.Spec PyProof.Rows L2
open Evl (Ex)
def sParOO (i j : Nat) (fa fb : En → ER) (ρ : En) : SR := match fa ρ with
  | .o d ρ1 => match fb ρ1 with
    | .o c ρ2 => .nx ((ρ2.set i (some d)).set j (some c))
    | _ => .st
  | _ => .st
section
variable {K : Fg} {cl : Nat → Addr} {E : XK} {m : Nat} {O : Nat → Bool} {ta tb : TE} {fa fb : En → ER} {ρ : En} {W W1 W2 : OW}
theorem put_not {W : OW} {i : Nat} {A : Addr → Prop} {a : Addr} (h : WA (W.put i A) a) : A a ∨ WA W a := by
  obtain ⟨j, h⟩ := h
  rcases h with ⟨_, h⟩ | ⟨_, h⟩
  · exact .inl h
  · exact .inr ⟨j, h⟩
theorem par_fin2 {σ : L2.St} {B H B2 H2 : Hp} {ρ2 : En} {i j : Nat} {p p2 : Addr} {A A2 : Addr → Prop} {d c : PyData} {Q : L2.St → Hp → Prop} (l : Go W B H W2 B2 H2) (s2 : SDo K O σ B2 H2 ρ2 W2) (o : Own K B2 H2 p A d) (n : FrA W H W2 B2 H2 A) (o2 : Own K B2 H2 p2 A2 c) (n2 : FrA W H W2 B2 H2 A2) (dis : ∀ a, A a → ¬ A2 a) (hi : m ≤ i) (hj : m ≤ j) (oi : O i = true) (oj : O j = true) (q : PN K m O σ B H W ((ρ2.set i (some d)).set j (some c)) Q) : Q ((σ.set i (some (.ref p))).set j (some (.ref p2))) H2 := by
  have n3 : FrA W H (W2.put i A) B2 H2 A2 := fun a z => by
    obtain ⟨z1, z2, z3, z4⟩ := n2 a z
    exact ⟨z1, z2, fun w => (put_not w).elim (fun y => dis a y z) z3, z4⟩
  exact q _ B2 H2 _ ((l.give n).give n3) ((s2.putO i oi o n.fr).putO j oj o2 n3.fr) fun k hk => by rw [List.getElem?_set_ne (by omega), List.getElem?_set_ne (by omega)]
theorem parOO {i j : Nat} {t : TS} (ha : YE K cl E m O ta fa) (hb : YE K cl E m O tb fb) {R : Ends → L2.St → V → V → Hp → Prop} (ht : ∀ (D : Ends) (σ : L2.St) (H : Hp), ta σ H (fun x H1 => tb σ H1 fun y H2 => R D σ x y H2) → t D σ H) (hR : ∀ (D : Ends) (σ : L2.St) (x y : V) (H2 : Hp), D.nx ((σ.set i (some x)).set j (some y)) H2 → (∀ u, H2 u = none → D.nx ((σ.set i (some x)).set j (some y)) (upd H2 u (.tup [x, y]))) → R D σ x y H2) (hi : m ≤ i) (hj : m ≤ j) (oi : O i = true) (oj : O j = true) : YS K cl E m O t (sParOO i j fa fb) := fun ρ => by
  have a := ha ρ
  unfold sParOO
  cases e : fa ρ with
  | st => exact .stuck
  | v d ρ1 => exact .stuck
  | x c' k => exact .stuck
  | o d ρ1 =>
    rw [e] at a
    have b := hb ρ1
    show SOy K cl E m O t ρ (match fb ρ1 with | .o c ρ2 => SR.nx ((ρ2.set i (some d)).set j (some c)) | _ => .st)
    cases e2 : fb ρ1 with
    | st => exact .stuck
    | v d ρ2 => exact .stuck
    | x c' k => exact .stuck
    | o c ρ2 =>
      rw [e2] at b
      refine ⟨fun _ _ h => (nomatch h), fun σ B H W D s sd q => ht D σ H (a.2 σ B H W s sd _ fun p A1 B1 H1 W1 l1 s1 o n => b.2 σ B1 H1 W1 l1.sub s1 _ fun p2 A2 B2 H2 W2 l2 s2 oo nn => ?_)⟩
      have o2 := o.up l2.toLeO fun a z => (n a z).2.2.1
      have n2 := n.go l2
      have dis : ∀ a, A1 a → ¬ A2 a := fun a z y => (nn a y).2.2.2.elim (n a z).2.2.1 (n a z).2.1
      have l := l1.tr l2
      have nn2 := nn.behind l1
      refine hR D σ _ _ H2 (par_fin2 l s2 o2 n2 oo nn2 dis hi hj oi oj q) fun t ht => ?_
      have lt := tup_le (xs := [.ref p, .ref p2]) l2.sub ht
      exact par_fin2 (l.tr lt.o) (s2.le lt) (o2.up (X := fun _ => False) lt.lo fun _ _ z => z) (n2.le lt) (oo.up (X := fun _ => False) lt.lo fun _ _ z => z) (nn2.le lt) dis hi hj oi oj q
theorem ys_parOO {i j : Nat} (ha : YE K cl E m O ta fa) (hb : YE K cl E m O tb fb) (hi : m ≤ i := by exact Nat.le_of_ble_eq_true rfl) (hj : m ≤ j := by exact Nat.le_of_ble_eq_true rfl) (oi : O i = true := by rfl) (oj : O j = true := by rfl) : YS K cl E m O (tPar i j (tCons ta (tCons tb tNil))) (sParOO i j fa fb) := parOO ha hb (R := fun D σ x y H2 => ∃ v w, [x, y] = [v, w] ∧ D.nx ((σ.set i (some v)).set j (some w)) H2) (fun D σ H h => h) (fun D σ x y H2 q _ => ⟨x, y, rfl, q⟩) hi hj oi oj
end
end TD
set_option maxHeartbeats 4000000
namespace TD
open PySem PySem.Spec PyProof.Rows L2
open Evl (Ex)
section
variable {K : Fg} {cl : Nat → Addr} {E : XK} {m : Nat} {O : Nat → Bool} {te : TE} {fe : En → ER} {ρ ρ1 : En} {W W1 : OW}
def sExt (i : Nat) (fe : En → ER) (ρ : En) : SR := match ownL i ρ with
  | none => .st
  | some _ => sE (fe ρ) fun d ρ1 => match d with
    | .list es => match ownL i ρ1 with
      | none => .st
      | some xs => match decide (xs.length ≤ 50000 ∧ es.length ≤ 40000) with
        | true => .nx (ρ1.set i (some (.list (xs ++ es))))
        | false => .st
    | _ => .st
end
end TD
set_option maxHeartbeats 4000000
namespace TD
open PySem PySem.Spec PyProof.Rows L2
open Evl (Ex)
def GTup (K : Fg) (a : Addr) (w : Str) : Prop := ∃ (o : Obj) (t : Tok) (n : Nat), K.lookup a = some o ∧ o.cls = .type "tuple" ∧ o.data = .seq #[.str w t] n
structure GP (K : Fg) (mg : Str → Option Value) (a : Addr) : Prop where
  PRESS : mg "PRESS" = some (.ref a)
  tup : GTup K a "press"
section
variable {X : Cx} {K : Fg} {cl : Nat → Addr} {E : XK} {m : Nat} {O : Nat → Bool} {te : TE} {fe : En → ER}
end
end TD
set_option maxHeartbeats 4000000
namespace TD
open PySem PySem.Spec PyProof.Rows L2
open Evl (Ex)
section
variable {K : Fg} {cl : Nat → Addr} {E : XK} {m : Nat} {O : Nat → Bool} {ta tb : TE} {fa fb : En → ER} {ρ : En} {W W1 W2 : OW} {B H : Hp} {A : Addr → Prop} {p : Addr}
end
end TD
set_option maxHeartbeats 4000000
namespace TD
open PySem PySem.Spec PyProof.Rows L2
open Evl (Ex)
section
variable {K : Fg} {cl : Nat → Addr} {E : XK} {m : Nat} {O : Nat → Bool} {te : TE} {fe : En → ER} {ρ : En} {W W1 : OW} {os : List Nat}
end
end TD
set_option maxHeartbeats 4000000
namespace TD
open PySem PySem.Spec PyProof.Rows L2
open Evl (Ex)
section
variable {K : Fg} {cl : Nat → Addr} {E Ew : XK} {m : Nat} {O : Nat → Bool} {al : TA} {fl : En → AR} {ks : List AK} {ρ ρ1 : En} {W : OW}
mutual
theorem Da.tups {B B2 : Hp} (k : ∀ b vs, B b = some (.tup vs) → B2 b = some (.tup vs)) : ∀ {v : V} {d : PyData}, noL d = true → Da K B v d → Da K B2 v d
  | _, _, _, .non => .non
  | _, _, _, .bl b => .bl b
  | _, _, _, .int i => .int i
  | _, _, _, .str x => .str x
  | _, _, h, .lst _ _ => nomatch h
  | _, _, h, .tup e t => .tup (k _ _ e) (Das.tups k h t)
  | _, _, h, .dic _ _ => nomatch h
theorem Das.tups {B B2 : Hp} (k : ∀ b vs, B b = some (.tup vs) → B2 b = some (.tup vs)) : ∀ {vs : List V} {ds : List PyData}, noLs ds = true → Das K B vs ds → Das K B2 vs ds
  | _, _, _, .nil => .nil
  | _, _, h, .cons a t => by
    have h : (noL _ && noLs _) = true := h
    rw [Bool.and_eq_true] at h
    exact .cons (Da.tups k h.1 a) (Das.tups k h.2 t)
end
def eCallBr (F : List PyData → FR) (ks : List AK) (fl : En → AR) (ρ : En) : ER := aE (fl ρ) fun ds ρ1 => match fillK ρ1 ks ds with
  | some rs => match F rs with
    | .o (.list xs) _ => match noLs xs with
      | true => .o (.list xs) ρ1
      | false => .st
    | _ => .st
  | none => .st
theorem zCallBr {F : List PyData → FR} {ds rs xs : List PyData} {e : PyData} (h : fl ρ = .vs ds ρ1) (hf : fillK ρ1 ks ds = some rs) (h2 : F rs = .o (.list xs) e) (hd : noLs xs = true) : eCallBr F ks fl ρ = .o (.list xs) ρ1 := by
  unfold eCallBr aE
  rw [h]
  dsimp only
  rw [hf]
  dsimp only
  rw [h2]
  dsimp only
  rw [hd]
end
end TD
set_option maxHeartbeats 4000000
namespace TD
open PySem PySem.Spec PyProof.Rows L2
open Evl (Ex)
section
variable {K : Fg} {cl : Nat → Addr} {E : XK} {m : Nat} {O : Nat → Bool} {ta tb : TE} {fa fb : En → ER}
end
end TD
set_option maxHeartbeats 4000000
namespace TD
open PySem PySem.Spec PyProof.Rows L2
open Evl (Ex)
section
variable {K : Fg} {cl : Nat → Addr} {E : XK} {m : Nat} {O : Nat → Bool}
end
end TD
set_option maxHeartbeats 4000000
namespace TD
open PySem PySem.Spec PyProof.Rows L2
open Evl (Ex)
section
variable {K : Fg} {cl : Nat → Addr} {E E' : XK} {m : Nat} {O : Nat → Bool} {te : TE} {fe : En → ER} {tt : TT} {ft : En → TR} {ρ : En} {tg : TG} {gz : PyData → En → Option En} {W W1 : OW} {w : World}
end
end TD
set_option maxHeartbeats 4000000
namespace TD
open PySem PySem.Spec PyProof.Rows L2
open Evl (Ex)
section
variable {K : Fg} {B : Hp} {S : Addr → (Addr → Prop) → PyData → Prop}
end
end TD
set_option maxHeartbeats 4000000
namespace TD
open PySem PySem.Spec PyProof.Rows L2
open Evl (Ex)
section
variable {K : Fg} {cl : Nat → Addr} {E : XK} {m : Nat} {O : Nat → Bool} {te : TE} {fe : En → ER} {ρ : En} {W : OW} {σ : L2.St} {B H : Hp} {A : Addr → Prop}
variable {S S2 : Addr → (Addr → Prop) → PyData → Prop}
end
end TD
set_option maxHeartbeats 4000000
namespace TD
open PySem PySem.Spec PyProof.Rows L2
open Evl (Ex)
section
variable {K : Fg} {cl : Nat → Addr} {E : XK} {m : Nat} {O : Nat → Bool} {te : TE} {fe : En → ER} {ρ : En} {W : OW} {σ : L2.St} {B H : Hp} {A : Addr → Prop}
end
end TD
set_option maxHeartbeats 4000000
namespace TD
open PySem PySem.Spec PyProof.Rows L2
open Evl (Ex)
section
variable (P : Program) (w : World) (K : Fg) (mg : Str → Option Value) (base : Heap)
end
section
variable {P : Program} {w : World} {K : Fg} {mg : Str → Option Value} {base : Heap} {cl : Nat → Addr} {m k : Nat} {O : Nat → Bool} {x y : Str} {N ps : List Str} {st : Stmt} {C : Addr}
end
section
variable {X : Cx} {C : Addr} {x : Str} {ps : List Str} {k : Nat} {sp : Sp} {pos apos : Pos} {ta : TE} {t : TA} {o e : Expr} {es : List Expr}
end
section
variable {K : Fg} {cl : Nat → Addr} {E : XK} {m : Nat} {O : Nat → Bool} {ρ : En} {W : OW} {al : TA} {f : En → ER} {f' : En → AR}
end
end TD
set_option maxHeartbeats 4000000
namespace TD
open PySem PySem.Spec PyProof.Rows L2
open Evl (Ex)
section
variable {K : Fg} {B H : Hp} {S : Addr → (Addr → Prop) → PyData → Prop}
end
section
variable {K : Fg} {cl : Nat → Addr} {E : XK} {m : Nat} {O : Nat → Bool} {te : TE} {fe : En → ER} {ρ : En} {W : OW}
end
end TD
set_option maxHeartbeats 4000000
namespace TD
open PySem PySem.Spec PyProof.Rows L2
open Evl (Ex)
section
variable {P : Program} {w : World} {K : Fg} {mg : Str → Option Value} {base : Heap}
end
section
variable (P : Program) (w : World) (K : Fg) (mg : Str → Option Value) (base : Heap)
end
section
variable {P : Program} {w : World} {K : Fg} {mg : Str → Option Value} {base : Heap} {cl : Nat → Addr} {m k : Nat} {O : Nat → Bool} {x y : Str} {N ps : List Str} {st : Stmt} {C : Addr} {dvs : List V}
end
section
variable {X : Cx} {C : Addr} {x : Str} {ps : List Str} {k : Nat} {sp : Sp} {p pos : Pos} {t : TA} {e : Expr} {es : List Expr} {dvs : List V}
end
end TD
set_option maxHeartbeats 4000000
namespace TD
open PySem PySem.Spec PyProof.Rows L2
open Evl (Ex)
end TD
set_option maxHeartbeats 4000000
namespace TD
open PySem PySem.Spec PyProof.Rows L2
open Evl (Ex)
def sPar3M (i j l : Nat) (fa fb fc : En → ER) (ρ : En) : SR := match fa ρ with
  | .v d ρ1 => match fb ρ1 with
    | .o c ρ2 => match fc ρ2 with
      | .v e ρ3 => .nx (((ρ3.set i (some d)).set j (some c)).set l (some e))
      | _ => .st
    | _ => .st
  | _ => .st
section
variable {K : Fg} {cl : Nat → Addr} {E : XK} {m : Nat} {O : Nat → Bool} {ta tb tc : TE} {fa fb fc : En → ER} {ρ : En} {W W1 W2 : OW}
end
end TD
set_option maxHeartbeats 4000000
namespace TD
open PySem PySem.Spec PyProof.Rows L2
section
variable {fa fb fc fe fk : En → ER} {fl fr : En → AR} {ft fu : En → TR} {f g : En → SR} {ρ ρ' ρ1 ρ2 ρ3 ρ4 : En} {d e x y z c : PyData} {ds ds' xs ys zs : List PyData} {i j l : Nat} {ks : List AK} {r r1 : SR} {gz : PyData → En → Option En} {er er1 : ER}
theorem set_z {α : Type} {a x : α} {l : List α} : (a :: l).set 0 x = x :: l := rfl
theorem set_s {α : Type} {a x : α} {l l' : List α} {n : Nat} (h : l.set n x = l') : (a :: l).set (n + 1) x = a :: l' := by rw [List.set_cons_succ, h]
theorem wipe_n : wipeD ρ [] = ρ := rfl
theorem wipe_c {v : Nat} {vs : List Nat} (h : wipeD ρ vs = ρ1) (h2 : ρ1.set v none = ρ2) : wipeD ρ (v :: vs) = ρ2 := by
  show (wipeD ρ vs).set v none = ρ2
  rw [h, h2]
theorem wC : eC d ρ = .v d ρ := rfl
theorem wVar (h : ρ[i]? = some (some d)) (n : isMark d = false) : eVar i ρ = .v d ρ := zVar h n
theorem wMove (h : ρ[i]? = some (some d)) (hs : ρ.set i none = ρ1) : eMove i ρ = .o d ρ1 := hs ▸ zMove h
def fzK : ER → ER
  | .o (.list ds) ρ' => .v (.list ds) ρ'
  | .o (.dict ds) ρ' => .v (.dict ds) ρ'
  | .o (.tuple [.list ls]) ρ' => .v (.list ls) ρ'
  | .v d ρ' => .v d ρ'
  | .x c i => .x c i
  | _ => .st
theorem wFz (h : fa ρ = er1) (h2 : fzK er1 = er) : eFz fa ρ = er := by
  subst h
  subst h2
  unfold eFz fzK
  rfl
theorem wNil : aNil ρ = .vs [] ρ := rfl
theorem wCons (h : fa ρ = .v d ρ1) (h2 : fr ρ1 = .vs ds ρ2) : aCons fa fr ρ = .vs (d :: ds) ρ2 := zCons h h2
theorem wOwn (h0 : ρ[i]? = some (some d)) (h : fr ρ = .vs ds ρ1) : aOwnS i fr ρ = .vs (.none :: ds) ρ1 := zOwn h0 h
theorem wOp {q : PyData → PyData → Option PyData} (h : fa ρ = .v x ρ1) (h2 : fb ρ1 = .v y ρ2) (h3 : q x y = some z) : eOp q fa fb ρ = .v z ρ2 := zOp h h2 h3
theorem wUn {q : PyData → Option PyData} (h : fa ρ = .v x ρ1) (h3 : q x = some z) : eUn q fa ρ = .v z ρ1 := zUn h h3
theorem wCB {q : List PyData → Option PyData} (h : fl ρ = .vs xs ρ1) (h3 : q xs = some z) : eCB q fl ρ = .v z ρ1 := zCB h h3
theorem wTup (h : fl ρ = .vs xs ρ1) (h2 : xs.length ≤ 100000) : eTup fl ρ = .v (.tuple xs) ρ1 := zTup h h2
theorem wLst (h : fl ρ = .vs xs ρ1) (h2 : xs.length ≤ 100000) : eLst fl ρ = .o (.list xs) ρ1 := zLst h h2
def erOk : ER → Bool
  | .st => false
  | _ => true
def callK : FR → En → ER
  | .v d _, ρ => .v d ρ
  | .o d _, ρ => .o d ρ
  | _, _ => .st
def endK : FR → PyData
  | .v _ e => e
  | .o _ e => e
  | _ => .none
theorem wCall0 {F : List PyData → FR} {q : FR} (hk : ownArg 0 ks = none) (h : fl ρ = .vs ds ρ1) (h2 : F ds = q) (h3 : callK q ρ1 = er) (h4 : erOk er = true) : eCall F ks fl ρ = er := by
  unfold eCall aE
  rw [h]
  dsimp only
  rw [hk]
  dsimp only
  rw [h2]
  subst h3
  cases q with
  | v d e => rfl
  | o d e => rfl
  | st => rfl
  | x c j => exact nomatch h4
theorem wCall1 {F : List PyData → FR} {q : FR} (hk : ownArg 0 ks = some (j, i)) (h : fl ρ = .vs ds ρ1) (h3 : ρ1[i]? = some (some c)) (hd : ds.set j c = ds') (h2 : F ds' = q) (he : endK q = e) (hs : ρ1.set i (some e) = ρ2) (hr : callK q ρ2 = er) (h4 : erOk er = true) : eCall F ks fl ρ = er := by
  unfold eCall aE
  rw [h]
  dsimp only
  rw [hk]
  dsimp only
  rw [h3]
  dsimp only
  rw [hd, h2]
  subst hr he hs
  cases q with
  | v d e => rfl
  | o d e => rfl
  | st => rfl
  | x c j => exact nomatch h4
theorem wCallK {F : List PyData → FR} {q : FR} {is : List Nat} (h : fl ρ = .vs ds ρ1) (hd : pick is ds = ds') (h2 : F ds' = q) (hr : callK q ρ1 = er) (h4 : erOk er = true) : eCallK F is fl ρ = er := by
  unfold eCallK aE
  rw [h]
  dsimp only
  rw [hd, h2]
  subst hr
  cases q with
  | v d e => rfl
  | o d e => rfl
  | st => rfl
  | x c j => exact nomatch h4
theorem wCallB {F : List PyData → FR} {rs : List PyData} (h : fl ρ = .vs ds ρ1) (hf : fillK ρ1 ks ds = some rs) (h2 : F rs = .v d e) (hd : flatD d = true) : eCallB F ks fl ρ = .v d ρ1 := by
  unfold eCallB aE
  rw [h]
  dsimp only
  rw [hf]
  dsimp only
  rw [h2]
  dsimp only
  rw [hd]
theorem wCallBO {F : List PyData → FR} {rs : List PyData} (h : fl ρ = .vs ds ρ1) (hf : fillK ρ1 ks ds = some rs) (h2 : F rs = .o (.list xs) e) (hd : xs.all flatD = true) : eCallBO F ks fl ρ = .o (.list xs) ρ1 := zCallBO h hf h2 hd
theorem wCallBr {F : List PyData → FR} {rs : List PyData} (h : fl ρ = .vs ds ρ1) (hf : fillK ρ1 ks ds = some rs) (h2 : F rs = .o (.list xs) e) (hd : noLs xs = true) : eCallBr F ks fl ρ = .o (.list xs) ρ1 := zCallBr h hf h2 hd
theorem wIfT (h : ft ρ = .b true ρ1) (h2 : fa ρ1 = er) : eIf ft fa fb ρ = er := by
  unfold eIf tThen
  rw [h]
  exact h2
theorem wIfF (h : ft ρ = .b false ρ1) (h2 : fb ρ1 = er) : eIf ft fa fb ρ = er := by
  unfold eIf tThen
  rw [h]
  exact h2
theorem wEAndT {b : Bool} (h : fa ρ = .v (.bool true) ρ1) (h2 : fb ρ1 = .v (.bool b) ρ2) : eAnd fa fb ρ = .v (.bool b) ρ2 := by
  unfold eAnd eThen
  rw [h]
  dsimp only
  rw [h2]
  rfl
theorem wEAndF (h : fa ρ = .v (.bool false) ρ1) : eAnd fa fb ρ = .v (.bool false) ρ1 := by
  unfold eAnd eThen
  rw [h]
theorem wEOrF {b : Bool} (h : fa ρ = .v (.bool false) ρ1) (h2 : fb ρ1 = .v (.bool b) ρ2) : eOr fa fb ρ = .v (.bool b) ρ2 := by
  unfold eOr eThen
  rw [h]
  dsimp only
  rw [h2]
  rfl
theorem wEOrT (h : fa ρ = .v (.bool true) ρ1) : eOr fa fb ρ = .v (.bool true) ρ1 := by
  unfold eOr eThen
  rw [h]
theorem wChainT {q q' : PyData → PyData → Option PyData} {b : Bool} (h : fa ρ = .v x ρ1) (h1 : fb ρ1 = .v y ρ2) (h2 : q x y = some (.bool true)) (h3 : fc ρ2 = .v z ρ3) (h4 : q' y z = some (.bool b)) : eChain q q' fa fb fc ρ = .v (.bool b) ρ3 := by
  unfold eChain eThen
  rw [h]
  dsimp only
  rw [h1]
  dsimp only
  rw [h2]
  dsimp only
  rw [h3]
  dsimp only
  rw [h4]
theorem wChainF {q q' : PyData → PyData → Option PyData} (h : fa ρ = .v x ρ1) (h1 : fb ρ1 = .v y ρ2) (h2 : q x y = some (.bool false)) : eChain q q' fa fb fc ρ = .v (.bool false) ρ2 := by
  unfold eChain eThen
  rw [h]
  dsimp only
  rw [h1]
  dsimp only
  rw [h2]
theorem wIsi {T : String} (h : fa ρ = .v d ρ1) : eIsi T fa ρ = .v (.bool (isT T d)) ρ1 := by
  unfold eIsi eThen
  rw [h]
theorem wIsiLO (h : ownL i ρ = some xs) : eIsiLO i ρ = .v (.bool true) ρ := by
  unfold eIsiLO
  rw [h]
theorem wLenO (h : ownL i ρ = some xs) : eLenO i ρ = .v (.int (xs.length : Nat)) ρ := by
  unfold eLenO
  rw [h]
theorem wIxO {n : Nat} (h : fk ρ = .v (.int (n : Nat)) ρ1) (h0 : ownL i ρ = some ys) (h1 : ownL i ρ1 = some xs) (h2 : xs[n]? = some d) : eIxO i fk ρ = .v d ρ1 := by
  unfold eIxO
  rw [h0]
  dsimp only
  unfold eThen
  rw [h]
  show (match ownL i ρ1 with | some xs => _ | none => _) = _
  rw [h1]
  dsimp only
  rw [h2]
theorem cutTo (k : Nat) : cutD ds none (some (k : Int)) = ds.take k := by
  unfold cutD
  rw [HT.sIx_nat, HT.sIx_none, Nat.sub_zero]
  show ds.take (min k ds.length) = _
  by_cases h : k ≤ ds.length
  · rw [Nat.min_eq_left h]
  · rw [Nat.min_eq_right (by omega), List.take_of_length_le (Nat.le_refl _), List.take_of_length_le (by omega)]
theorem cutFrom (k : Nat) : cutD ds (some (k : Int)) none = ds.drop k := by
  unfold cutD
  rw [HT.sIx_nat, HT.sIx_none]
  by_cases h : k ≤ ds.length
  · rw [Nat.min_eq_left h]
    exact List.take_of_length_le (by rw [List.length_drop]; exact Nat.le_refl _)
  · rw [Nat.min_eq_right (by omega), List.drop_eq_nil_of_le (Nat.le_refl _), List.drop_eq_nil_of_le (by omega), List.take_nil]
theorem wSlT {n : Nat} (h : fa ρ = .v (.list ds) ρ1) (h2 : fk ρ1 = .v (.int (n : Nat)) ρ2) : eSl fa none (some fk) ρ = .v (.list (ds.take n)) ρ2 := by
  unfold eSl
  rw [h]
  have e : sB (some fk) ρ1 = some (some (n : Int), ρ2) := by
    show (match fk ρ1 with | .v (.int i) ρ1 => some (some i, ρ1) | _ => none) = _
    rw [h2]
  show (match sB (some fk) ρ1 with | some (u, ρ3) => ER.v (PyData.list (cutD ds none u)) ρ3 | none => .st) = _
  rw [e]
  show ER.v (PyData.list (cutD ds none (some (n : Int)))) ρ2 = _
  rw [cutTo]
theorem wSlF {n : Nat} (h : fa ρ = .v (.list ds) ρ1) (h2 : fk ρ1 = .v (.int (n : Nat)) ρ2) : eSl fa (some fk) none ρ = .v (.list (ds.drop n)) ρ2 := by
  unfold eSl
  rw [h]
  have e : sB (some fk) ρ1 = some (some (n : Int), ρ2) := by
    show (match fk ρ1 with | .v (.int i) ρ1 => some (some i, ρ1) | _ => none) = _
    rw [h2]
  show (match sB (some fk) ρ1 with | some (l, ρ2) => (match sB none ρ2 with | some (u, ρ3) => ER.v (PyData.list (cutD ds l u)) ρ3 | none => .st) | none => .st) = _
  rw [e]
  show ER.v (PyData.list (cutD ds (some (n : Int)) none)) ρ2 = _
  rw [cutFrom]
theorem wListOf (h : fa ρ = .v (.list ds) ρ1) : eListOf fa ρ = .o (.list ds) ρ1 := by
  unfold eListOf
  rw [h]
theorem wCatO (h : fa ρ = .v (.list ds) ρ1) (h2 : fb ρ1 = .v (.list xs) ρ2) (h3 : ds.length + xs.length ≤ 100000) : eCatO fa fb ρ = .o (.list (ds ++ xs)) ρ2 := zCatO h h2 h3
theorem wPure {os : List Nat} (hf : frAll os 0 ρ = ρ1) (h : fa ρ1 = .v d ρ2) (hd : flatD d = true) : ePure os fa ρ = .v d ρ := by
  unfold ePure
  rw [hf, h]
  dsimp only
  rw [hd]
theorem wGPure {os : List Nat} (hf : frAll os 0 ρ = ρ1) (h : fa ρ1 = .v d ρ2) (hd : flatD d = true) : gPure os fa ρ = some d := by
  unfold gPure
  rw [hf, h]
  dsimp only
  rw [hd]
theorem wL (h : fa ρ = .v (.list ds) ρ1) : iL fa ρ = .vs ds ρ1 := zL h
theorem wEn (h : fl ρ = .vs [.list ds] ρ1) : iEn fl ρ = .vs (numD 0 ds) ρ1 := zEn h
theorem wZ (h : fl ρ = .vs [.list ds, .list xs] ρ1) : iZ fl ρ = .vs (zipD ds xs) ρ1 := zZ h
theorem wR1 {n : Nat} (h : fl ρ = .vs [.int (n : Nat)] ρ1) (hn : n ≤ 40000) : iR1 fl ρ = .vs (rgD 0 n) ρ1 := zR1 h hn
theorem wLc {fi : En → IRz} {vs : List Nat} (h1 : fi ρ = .vs ds ρ1) (h2 : ds.length ≤ 40000) (hw : wipeD ρ1 vs = ρ2) (h3 : lcItems vs gz ft fe ds ρ2 = some (ys, ρ3)) : eLc fi vs gz ft fe ρ = .o (.list ys) ρ3 := zLc h1 h2 (by rw [hw]; exact h3)
theorem wLcR {fi : En → IRz} {vs : List Nat} {rs : List (List PyData)} (h1 : fi ρ = .vs ds ρ1) (h2 : ds.length ≤ 40000) (hw : wipeD ρ1 vs = ρ2) (h3 : lcItR vs gz ft fe ds ρ2 = some (rs, ρ3)) : eLcR fi vs gz ft fe ρ = .o (rD rs) ρ3 := by
  unfold eLcR
  rw [h1]
  dsimp only
  rw [decide_eq_true h2, hw]
  dsimp only
  rw [h3]
theorem wLc2 {fi : En → IRz} {vs vs1 : List Nat} {g1 : PyData → En → Option En} {ft1 : En → TR} {fi1 : En → IRz} (h1 : fi ρ = .vs ds ρ1) (hw : wipeD ρ1 vs = ρ2) (h3 : lcRows vs vs1 gz ft fi1 g1 ft1 fe ds ρ2 = some (ys, ρ3)) (h4 : ds.length ≤ 40000) (h2 : ys.length ≤ 40000) : eLc2 fi vs vs1 gz ft fi1 g1 ft1 fe ρ = .o (.list ys) ρ3 := by
  unfold eLc2
  rw [h1]
  dsimp only
  rw [hw, h3]
  first | (dsimp only; rw [decide_eq_true h2]) | (dsimp only; rw [decide_eq_true h4]; dsimp only; rw [decide_eq_true h2])
theorem wVal {b : Bool} (h : fa ρ = .v (.bool b) ρ1) : tVal' fa ρ = .b b ρ1 := zVal h
theorem wTru {b : Bool} (h : fa ρ = .v d ρ1) (h2 : truD d = some b) : tTru' fa ρ = .b b ρ1 := zTru h h2
theorem wAndT {b : Bool} (h : ft ρ = .b true ρ1) (h2 : fu ρ1 = .b b ρ2) : tAndZ ft fu ρ = .b b ρ2 := zAndT h h2
theorem wAndF (h : ft ρ = .b false ρ1) : tAndZ ft fu ρ = .b false ρ1 := zAndF h
theorem wOrF {b : Bool} (h : ft ρ = .b false ρ1) (h2 : fu ρ1 = .b b ρ2) : tOrZ ft fu ρ = .b b ρ2 := zOrF h h2
theorem wOrT (h : ft ρ = .b true ρ1) : tOrZ ft fu ρ = .b true ρ1 := by
  unfold tOrZ
  rw [h]
theorem wNot {b b' : Bool} (h : ft ρ = .b b ρ1) (hb : (!b) = b') : tNotZ ft ρ = .b b' ρ1 := hb ▸ zNot h
theorem wN (hs : ρ.set i (some d) = ρ1) : gN i d ρ = some ρ1 := congrArg some hs
theorem wT {gs : List (PyData → En → Option En)} (h : gTs gs ds ρ = some ρ1) : gT gs (.tuple ds) ρ = some ρ1 := h
theorem wTn : gTs [] [] ρ = some ρ := rfl
theorem wTc {gs : List (PyData → En → Option En)} (h : gz d ρ = some ρ1) (h2 : gTs gs ds ρ1 = some ρ2) : gTs (gz :: gs) (d :: ds) ρ = some ρ2 := by
  unfold gTs
  rw [h]
  exact h2
def seqK (g : En → SR) : SR → SR
  | .nx ρ => g ρ
  | r => r
theorem wSeq (h : f ρ = r1) (k : seqK g r1 = r) : sSeq f g ρ = r := by
  subst h
  subst k
  unfold sSeq seqK
  rfl
theorem wSeqN (k : g ρ = r) : seqK g (.nx ρ) = r := k
theorem wNext : sNext ρ = .nx ρ := rfl
theorem wBr : sBr ρ = .br ρ := rfl
theorem wCt : sCt ρ = .ct ρ := rfl
theorem wAsg (h : fa ρ = .v d ρ1) (h2 : gz d ρ1 = some ρ2) : sAsg fa gz ρ = .nx ρ2 := zAsg h h2
theorem wAsgO (h : fa ρ = .o d ρ1) (hs : ρ1.set i (some d) = ρ2) : sAsgO i fa ρ = .nx ρ2 := hs ▸ zAsgO h
def dropK : ER → SR
  | .v _ ρ => .nx ρ
  | .o _ ρ => .nx ρ
  | .x c i => .x c i
  | .st => .st
def retK : ER → SR
  | .v d ρ => .ret d ρ
  | .o d ρ => .reto d ρ
  | .x c i => .x c i
  | .st => .st
theorem wDrop (h : fa ρ = er) (h2 : dropK er = r) : sDrop fa ρ = r := by
  subst h
  subst h2
  unfold sDrop dropK
  rfl
theorem wRet (h : fa ρ = er) (h2 : retK er = r) : sRet fa ρ = r := by
  subst h
  subst h2
  unfold sRet retK
  rfl
theorem wSIfT (h : ft ρ = .b true ρ1) (h2 : f ρ1 = r) : sIf ft f g ρ = r := zSIfT h h2
theorem wSIfF (h : ft ρ = .b false ρ1) (h2 : g ρ1 = r) : sIf ft f g ρ = r := zSIfF h h2
theorem wFor {fi : En → IRz} (h : fi ρ = .vs ds ρ1) (h2 : sTurns gz f ds ρ1 = r) : sFor fi gz f ρ = r := zFor h h2
theorem wPar (h : fl ρ = .vs [x, y] ρ1) (hs : ρ1.set i (some x) = ρ2) (ht : ρ2.set j (some y) = ρ3) : sPar i j fl ρ = .nx ρ3 := by
  subst hs ht
  exact zPar h
theorem wPar3 (h : fl ρ = .vs [x, y, z] ρ1) (hs : ρ1.set i (some x) = ρ2) (ht : ρ2.set j (some y) = ρ3) (hu : ρ3.set l (some z) = ρ4) : sPar3 i j l fl ρ = .nx ρ4 := by
  subst hs ht hu
  unfold sPar3
  rw [h]
theorem wParOD (h : fa ρ = .o d ρ1) (h2 : fb ρ1 = .v c ρ2) (hs : ρ2.set i (some d) = ρ3) (ht : ρ3.set j (some c) = ρ4) : sParOD i j fa fb ρ = .nx ρ4 := by
  subst hs ht
  unfold sParOD
  rw [h]
  dsimp only
  rw [h2]
theorem wParDO (h : fa ρ = .v c ρ1) (h2 : fb ρ1 = .o d ρ2) (hs : ρ2.set j (some d) = ρ3) (ht : ρ3.set i (some c) = ρ4) : sParDO i j fa fb ρ = .nx ρ4 := by
  subst hs ht
  unfold sParDO
  rw [h]
  dsimp only
  rw [h2]
theorem wParOO (h : fa ρ = .o d ρ1) (h2 : fb ρ1 = .o c ρ2) (hs : ρ2.set i (some d) = ρ3) (ht : ρ3.set j (some c) = ρ4) : sParOO i j fa fb ρ = .nx ρ4 := by
  subst hs ht
  unfold sParOO
  rw [h]
  dsimp only
  rw [h2]
theorem wParO (h : fa ρ = .o d ρ1) (hs : ρ1.set i (some d) = ρ2) (ht : ρ2.set j (some c) = ρ3) : sParO i j fa c ρ = .nx ρ3 := by
  subst hs ht
  unfold sParO
  rw [h]
theorem wPar3M {ρ5 ρ6 : En} (h : fa ρ = .v d ρ1) (h2 : fb ρ1 = .o c ρ2) (h3 : fc ρ2 = .v e ρ3) (hs : ρ3.set i (some d) = ρ4) (ht : ρ4.set j (some c) = ρ5) (hu : ρ5.set l (some e) = ρ6) : sPar3M i j l fa fb fc ρ = .nx ρ6 := by
  subst hs ht hu
  unfold sPar3M
  rw [h]
  dsimp only
  rw [h2]
  dsimp only
  rw [h3]
theorem wApp (h0 : ownL i ρ = some ys) (h : fe ρ = .v d ρ1) (h1 : ownL i ρ1 = some xs) (h2 : xs.length ≤ 90000) (hs : ρ1.set i (some (.list (xs ++ [d]))) = ρ2) : sApp i fe ρ = .nx ρ2 := hs ▸ zApp (by rw [h0]; exact fun w => nomatch w) h h1 h2
theorem wSetO {n : Nat} (h : fe ρ = .v d ρ1) (h0 : ownL i ρ1 = some ys) (hk : fk ρ1 = .v (.int (n : Nat)) ρ2) (h1 : ownL i ρ2 = some xs) (h2 : n < xs.length) (hs : ρ2.set i (some (.list (xs.set n d))) = ρ3) : sSetO i fk fe ρ = .nx ρ3 := by
  unfold sSetO sE
  rw [h]
  dsimp only
  rw [h0]
  dsimp only
  rw [hk]
  show (match ownL i ρ2 with | some xs => _ | none => _) = _
  rw [h1]
  dsimp only
  rw [decide_eq_true h2]
  dsimp only
  rw [hs]
theorem wAug {q : PyData → PyData → Option PyData} (h0 : ρ[i]? = some (some x)) (n : isMark x = false) (h : fa ρ = .v y ρ1) (h2 : q x y = some z) (hs : ρ1.set i (some z) = ρ2) : sAug i q fa ρ = .nx ρ2 := by
  unfold sAug
  rw [h0]
  split
  · next w =>
    cases w
    exact nomatch n
  · next x' _ hx =>
    cases hx
    unfold sE
    rw [h]
    dsimp only
    rw [h2]
    dsimp only
    rw [hs]
  · next w => exact (w x rfl).elim
theorem wAppR {ga ge : En → Option PyData} {a : Nat} {rs : List (List PyData)} {rw' : List PyData} (h : ga ρ = some (.int (a : Nat))) (h2 : ge ρ = some d) (h0 : ρ[i]? = some (some (rD rs))) (h3 : rs[a]? = some rw') (h4 : rw'.length ≤ 90000) (hs : ρ.set i (some (rD (rs.set a (rw' ++ [d])))) = ρ1) : sAppR i ga ge ρ = .nx ρ1 := by
  have o : ownR i ρ = some rs := by
    unfold ownR
    rw [h0]
    exact unls_map rs
  have ea : (PyData.int ((a : Nat) : Int)) = .int (Int.ofNat a) := rfl
  unfold sAppR
  rw [h, ea]
  dsimp only
  rw [h2]
  dsimp only
  rw [o]
  dsimp only
  rw [h3]
  dsimp only
  rw [decide_eq_true h4]
  dsimp only
  rw [hs]
theorem wExt (h0 : ownL i ρ = some ys) (h : fe ρ = .v (.list ds) ρ1) (h1 : ownL i ρ1 = some xs) (h2 : xs.length ≤ 50000 ∧ ds.length ≤ 40000) (hs : ρ1.set i (some (.list (xs ++ ds))) = ρ2) : sExt i fe ρ = .nx ρ2 := by
  unfold sExt
  rw [h0]
  dsimp only
  unfold sE
  rw [h]
  dsimp only
  rw [h1]
  dsimp only
  rw [decide_eq_true h2]
  dsimp only
  rw [hs]
def Rh {α : Type} (T : α → Prop) (r : α) : Prop := T r
theorem rEq {α : Type} {a b : α} (h : Rh (fun r => r = b) a) : a = b := h
section
variable {m n : Int} {p q : Nat}
theorem gLtT (h : m < n) : gB (fun i j => decide (i < j)) (.int m) (.int n) = some (.bool true) := congrArg (fun b => some (PyData.bool b)) (decide_eq_true h)
theorem gLtF (h : ¬ m < n) : gB (fun i j => decide (i < j)) (.int m) (.int n) = some (.bool false) := congrArg (fun b => some (PyData.bool b)) (decide_eq_false h)
theorem gLeT (h : m ≤ n) : gB (fun i j => decide (i ≤ j)) (.int m) (.int n) = some (.bool true) := congrArg (fun b => some (PyData.bool b)) (decide_eq_true h)
theorem gLeF (h : ¬ m ≤ n) : gB (fun i j => decide (i ≤ j)) (.int m) (.int n) = some (.bool false) := congrArg (fun b => some (PyData.bool b)) (decide_eq_false h)
theorem gGtT (h : n < m) : gB (fun i j => decide (j < i)) (.int m) (.int n) = some (.bool true) := congrArg (fun b => some (PyData.bool b)) (decide_eq_true h)
theorem gGtF (h : ¬ n < m) : gB (fun i j => decide (j < i)) (.int m) (.int n) = some (.bool false) := congrArg (fun b => some (PyData.bool b)) (decide_eq_false h)
theorem gGeT (h : n ≤ m) : gB (fun i j => decide (j ≤ i)) (.int m) (.int n) = some (.bool true) := congrArg (fun b => some (PyData.bool b)) (decide_eq_true h)
theorem gGeF (h : ¬ n ≤ m) : gB (fun i j => decide (j ≤ i)) (.int m) (.int n) = some (.bool false) := congrArg (fun b => some (PyData.bool b)) (decide_eq_false h)
theorem gEqT (h : m = n) : gEq (.int m) (.int n) = some (.bool true) := congrArg (fun b => some (PyData.bool b)) (decide_eq_true h)
theorem gEqF (h : ¬ m = n) : gEq (.int m) (.int n) = some (.bool false) := congrArg (fun b => some (PyData.bool b)) (decide_eq_false h)
theorem gNeT (h : ¬ m = n) : gNe (.int m) (.int n) = some (.bool true) := congrArg (fun b => some (PyData.bool (!b))) (decide_eq_false h)
theorem gNeF (h : m = n) : gNe (.int m) (.int n) = some (.bool false) := congrArg (fun b => some (PyData.bool (!b))) (decide_eq_true h)
theorem gEqS {s : Str} : gEq (.str s) (.str s) = some (.bool true) := congrArg (fun b => some (PyData.bool b)) (decide_eq_true rfl)
theorem gNeS {s : Str} : gNe (.str s) (.str s) = some (.bool false) := congrArg (fun b => some (PyData.bool (!b))) (decide_eq_true rfl)
theorem gAddN : gI (fun i j => i + j) (.int (p : Nat)) (.int (q : Nat)) = some (.int ((p + q : Nat) : Int)) := congrArg (fun z => some (PyData.int z)) (Int.natCast_add p q).symm
theorem gAdd1 : gI (fun i j => i + j) (.int (p : Nat)) (.int 1) = some (.int ((p + 1 : Nat) : Int)) := rfl
theorem g1Add : gI (fun i j => i + j) (.int 1) (.int (p : Nat)) = some (.int ((1 + p : Nat) : Int)) := congrArg (fun z => some (PyData.int z)) (Int.natCast_add 1 p).symm
theorem gSubN (h : q ≤ p) : gI (fun i j => i - j) (.int (p : Nat)) (.int (q : Nat)) = some (.int ((p - q : Nat) : Int)) := congrArg (fun z => some (PyData.int z)) (show (p : Int) - (q : Int) = ((p - q : Nat) : Int) by omega)
theorem gSub1 (h : 1 ≤ p) : gI (fun i j => i - j) (.int (p : Nat)) (.int 1) = some (.int ((p - 1 : Nat) : Int)) := congrArg (fun z => some (PyData.int z)) (show (p : Int) - 1 = ((p - 1 : Nat) : Int) by omega)
end
end
end TD
set_option maxHeartbeats 4000000
namespace TD
open PySem PySem.Spec PyProof.Rows L2
theorem wCn {k : Nat} {ρ : En} : eC (.int (OfNat.ofNat k : Int)) ρ = .v (.int ((k : Nat) : Int)) ρ := rfl
theorem callV {d e : PyData} {ρ : En} : callK (.v d e) ρ = .v d ρ := rfl
theorem callO {d e : PyData} {ρ : En} : callK (.o d e) ρ = .o d ρ := rfl
theorem fzV {d : PyData} {ρ : En} : fzK (.v d ρ) = .v d ρ := rfl
theorem fzL {ds : List PyData} {ρ : En} : fzK (.o (.list ds) ρ) = .v (.list ds) ρ := rfl
theorem fzR {rs : List (List PyData)} {ρ : En} : fzK (.o (rD rs) ρ) = .v (.list (rs.map PyData.list)) ρ := rfl
theorem endV {d e : PyData} : endK (.v d e) = e := rfl
theorem endO {d e : PyData} : endK (.o d e) = e := rfl
theorem dropV {d : PyData} {ρ : En} : dropK (.v d ρ) = .nx ρ := rfl
theorem dropO {d : PyData} {ρ : En} : dropK (.o d ρ) = .nx ρ := rfl
theorem retV {d : PyData} {ρ : En} : retK (.v d ρ) = .ret d ρ := rfl
theorem retO {d : PyData} {ρ : En} : retK (.o d ρ) = .reto d ρ := rfl
theorem fzG {a b : ER} (h : fzK a = b) : fzK a = b := h
theorem callG {a : FR} {ρ : En} {b : ER} (h : callK a ρ = b) : callK a ρ = b := h
theorem endG {a : FR} {b : PyData} (h : endK a = b) : endK a = b := h
theorem dropG {a : ER} {b : SR} (h : dropK a = b) : dropK a = b := h
theorem retG {a : ER} {b : SR} (h : retK a = b) : retK a = b := h
theorem seqG {g : En → SR} {a b : SR} (h : seqK g a = b) : seqK g a = b := h
theorem opG {o : Option PyData} {z : PyData} (h : o = some z) : o = some z := h
theorem slotG {ρ : En} {i : Nat} {d : PyData} (h : ρ[i]? = some (some d)) : ρ[i]? = some (some d) := h
theorem ownG {ρ : En} {i : Nat} {d : List PyData} (h : ownL i ρ = some d) : ownL i ρ = some d := h
theorem fillG {ρ : En} {ks : List AK} {ds : List PyData} {rs : List PyData} (h : fillK ρ ks ds = some rs) : fillK ρ ks ds = some rs := h
theorem argG {n : Nat} {ks : List AK} {o : Option (Nat × Nat)} (h : ownArg n ks = o) : ownArg n ks = o := h
theorem pickG {is : List Nat} {ds rs : List PyData} (h : pick is ds = rs) : pick is ds = rs := h
theorem frG {os : List Nat} {n : Nat} {ρ ρ1 : En} (h : frAll os n ρ = ρ1) : frAll os n ρ = ρ1 := h
theorem leG {a b : Nat} (h : a ≤ b) : a ≤ b := h
theorem ltG {a b : Nat} (h : a < b) : a < b := h
theorem boolG {a b : Bool} (h : a = b) : a = b := h
theorem wNotT {ft : En → TR} {ρ ρ1 : En} (h : ft ρ = .b false ρ1) : tNotZ ft ρ = .b true ρ1 := wNot h rfl
theorem wNotF {ft : En → TR} {ρ ρ1 : En} (h : ft ρ = .b true ρ1) : tNotZ ft ρ = .b false ρ1 := wNot h rfl
theorem wNotB {ft : En → TR} {ρ ρ1 : En} {b : Bool} (h : ft ρ = .b b ρ1) : tNotZ ft ρ = .b (!b) ρ1 := wNot h rfl
theorem rep_z {α : Type} {a : α} : List.replicate 0 a = [] := rfl
theorem rep_s {α : Type} {a : α} {n : Nat} {l : List α} (h : List.replicate n a = l) : List.replicate (n + 1) a = a :: l := by rw [List.replicate_succ, h]
def slotsOf : List PyData → Nat → En
  | [], n => List.replicate n none
  | d :: ds, n => some d :: slotsOf ds n
theorem slo_n {n : Nat} {l : En} (h : List.replicate n none = l) : slotsOf [] n = l := h
theorem slo_c {d : PyData} {ds : List PyData} {n : Nat} {l : En} (h : slotsOf ds n = l) : slotsOf (d :: ds) n = some d :: l := congrArg (some d :: ·) h
end TD
set_option maxHeartbeats 4000000
namespace TD
open PySem PySem.Spec PyProof.Rows L2
section
variable {gz : PyData → En → Option En} {f : En → SR} {ρ ρ1 : En}
end
end TD
set_option maxHeartbeats 4000000
namespace TD
open PySem PySem.Spec PyProof.Rows L2
open Evl (Ex)
section
variable {P : Program} {w : World} {A : Around} {E : Value → Shared → Prop} {s : Shared} {a : Addr}
structure OutL (s s2 : Shared) (p : Addr) (ks : List Int) : Prop where
  old : ∀ b u, s.heap.get? b = some u → s2.heap.get? b = some u
  gens : s2.gens = s.gens
  os : s2.os = s.os
  new : s.heap.objs.size ≤ p
  list : ∃ (os : Array Value) (c : Nat), s2.heap.get? p = some (seqObj "list" os c) ∧ IntsAre os.toList ks
end
section
variable {K : Fg} {cl : Nat → Addr} {E : XK} {m : Nat} {O : Nat → Bool} {ta : TE} {fa : En → ER}
end
end TD
set_option maxHeartbeats 4000000
namespace TD
open PySem PySem.Spec PyProof.Rows L2
open Evl (Ex)
section
variable {P : Program} {w : World} {A : Around} {E : Value → Shared → Prop} {s : Shared}
end
section
variable {P : Program} {w : World} {A : Around} {E : Value → Shared → Prop} {s : Shared}
end
section
variable {X : Cx} {e ed : Expr} {p p2 pos kp1 kp2 : Pos} {t : TE}
end
section
variable {P : Program} {w : World} {A : Around} {E : Value → Shared → Prop} {s : Shared}
end
end TD
set_option maxHeartbeats 4000000
namespace TD
open PySem PySem.Spec PyProof.Rows L2
open Evl (Ex)
section
variable {K : Fg} {cl : Nat → Addr} {E : XK} {m : Nat} {O : Nat → Bool} {ta tb : TE} {fa fb : En → ER}
end
end TD
set_option maxHeartbeats 4000000
namespace TD
open PySem PySem.Spec PyProof.Rows L2
open Evl (Ex)
abbrev pD (p : Int × Int) : PyData := .tuple [.int p.1, .int p.2]
def lxI (p q : Int × Int) : Prop := p.1 < q.1 ∨ (p.1 = q.1 ∧ p.2 < q.2)
instance (p q : Int × Int) : Decidable (lxI p q) := by unfold lxI; exact inferInstance
section
variable {K : Fg}
variable {cl : Nat → Addr} {E : XK} {m : Nat} {O : Nat → Bool} {ta : TE} {fa : En → ER}
end
end TD
set_option maxHeartbeats 4000000
namespace TD
open PySem PySem.Spec PyProof.Rows L2
open Evl (Ex)
section
variable {K : Fg} {cl : Nat → Addr} {E : XK} {m : Nat} {O : Nat → Bool} {ta tb : TE} {fa fb : En → ER}
end
end TD
set_option maxHeartbeats 4000000
namespace TD
open PySem PySem.Spec PyProof.Rows L2
open Evl (Ex)
open PySem.W (AllAlike Sortable dataLe alike)
section
variable {K : Fg} {cl : Nat → Addr} {E : XK} {m : Nat} {O : Nat → Bool}
end
end TD
set_option maxHeartbeats 4000000
namespace TD
open PySem PySem.Spec PyProof.Rows L2
open Evl (Ex)
abbrev TK := List (Addr × List Int)
structure Upto (ks : TK) (i : Nat) (L : TK) : Prop where
  sub : ∀ p ∈ L, p ∈ ks
  all : ∀ j p, j < i → ks[j]? = some p → p.2 ∈ L.map (·.2)
section
variable {P : Program} {w : World} {A : Around} {E : Value → Shared → Prop} {s : Shared}
end
end TD
set_option maxHeartbeats 4000000
namespace TD
open PySem PySem.Spec PyProof.Rows L2
open Evl (Ex)
section
variable {K : Fg} {cl : Nat → Addr} {E : XK} {m : Nat} {O : Nat → Bool} {ta : TE} {fa : En → ER}
end
end TD
set_option maxHeartbeats 4000000
namespace TD
open PySem PySem.Spec PyProof.Rows L2
open Evl (Ex)
section
variable {K : Fg} {cl : Nat → Addr} {E : XK} {m : Nat} {O : Nat → Bool} {ta tb tc tk : TE} {fa fb fc fk : En → ER} {ρ ρ1 : En} {W W1 W2 : OW}
def eDGet1O (i : Nat) (fk : En → ER) (ρ : En) : ER := match isDO i ρ with
  | false => .st
  | true => eThen (fk ρ) fun k ρ1 => match lookO i ρ1 k with
    | some (some d) => .v d ρ1
    | some none => .v .none ρ1
    | none => .st
theorem ye_dget1O {i : Nat} (hk : YE K cl E m O tk fk) (hO : O i = true := by rfl) : YE K cl E m O (tDGet1 (tVar i) tk) (eDGet1O i fk) := fun ρ => by
  unfold eDGet1O
  cases h0 : isDO i ρ with
  | false => trivial
  | true =>
    have start : ∀ {σ B H W}, SDo K O σ B H ρ W → ∃ p, σ[i]? = some (some (.ref p)) ∧ IsD H p := fun sd => isD_own sd hO h0
    have a := hk ρ
    show EOy K cl E m O _ ρ (eThen (fk ρ) _)
    unfold eThen
    cases h : fk ρ with
    | st => trivial
    | o d ρ1 => trivial
    | x c j =>
      rw [h] at a
      refine ⟨a.1, fun σ B H W s sd v hv w Q => ?_⟩
      obtain ⟨p, e, d⟩ := start sd
      exact ⟨.ref p, e, p, rfl, d, a.2 σ B H W s sd v hv w _⟩
    | v k ρ1 =>
      rw [h] at a
      dsimp only
      have go : ∀ (o : Option PyData) (r : PyData), lookO i ρ1 k = some o → r = o.getD .none → EOy K cl E m O (tDGet1 (tVar i) tk) ρ (.v r ρ1) := fun o r h3 hr => by
        refine ⟨a.1, fun σ B H W s sd Q q => ?_⟩
        obtain ⟨p, e, d⟩ := start sd
        refine ⟨.ref p, e, p, rfl, d, a.2 σ B H W s sd _ fun y B1 H1 W1 l1 s1 d1 => ?_⟩
        obtain ⟨p', ov, e1, g1, g2⟩ := look_own l1.sub s1 hO d1 h3
        rw [e] at e1
        cases e1
        refine ⟨ov, g1, q _ B1 H1 W1 l1 s1 ?_⟩
        subst hr
        cases o with
        | none =>
          cases ov with
          | none => exact .non
          | some _ => exact g2.elim
        | some d =>
          cases ov with
          | none => exact g2.elim
          | some u => exact g2
      cases h3 : lookO i ρ1 k with
      | none => trivial
      | some o =>
        cases o with
        | none => exact go none .none h3 rfl
        | some d => exact go (some d) d h3 rfl
theorem wDGet1 {i : Nat} {k d : PyData} {o : Option PyData} (h0 : isDO i ρ = true) (h : fk ρ = .v k ρ1) (h2 : lookO i ρ1 k = some o) (h3 : o.getD .none = d) : eDGet1O i fk ρ = .v d ρ1 := by
  unfold eDGet1O eThen
  rw [h0]
  dsimp only
  rw [h]
  dsimp only
  rw [h2]
  cases o with
  | none => subst h3; rfl
  | some e => subst h3; rfl
theorem ys_par3MT {i j l : Nat} (ha : YE K cl E m O ta fa) (hb : YE K cl E m O tb fb) (hc : YE K cl E m O tc fc) (hi : m ≤ i := by exact Nat.le_of_ble_eq_true rfl) (hj : m ≤ j := by exact Nat.le_of_ble_eq_true rfl) (hl : m ≤ l := by exact Nat.le_of_ble_eq_true rfl) (oi : O i = false := by rfl) (oj : O j = true := by rfl) (ol : O l = false := by rfl) : YS K cl E m O (tAsg (tTup (tCons ta (tCons tb (tCons tc tNil)))) (gTup K 3 (gCons (gName i) (gCons (gName j) (gCons (gName l) gNil))))) (sPar3M i j l fa fb fc) := fun ρ => by
  have a := ha ρ
  unfold sPar3M
  cases e : fa ρ with
  | st => exact .stuck
  | o d ρ1 => exact .stuck
  | x c' k => exact .stuck
  | v d ρ1 =>
    rw [e] at a
    have b := hb ρ1
    show SOy K cl E m O _ ρ (match fb ρ1 with | .o c ρ2 => (match fc ρ2 with | .v e ρ3 => SR.nx (((ρ3.set i (some d)).set j (some c)).set l (some e)) | _ => .st) | _ => .st)
    cases e2 : fb ρ1 with
    | st => exact .stuck
    | v d ρ2 => exact .stuck
    | x c' k => exact .stuck
    | o c ρ2 =>
      rw [e2] at b
      have g := hc ρ2
      show SOy K cl E m O _ ρ (match fc ρ2 with | .v e ρ3 => SR.nx (((ρ3.set i (some d)).set j (some c)).set l (some e)) | _ => .st)
      cases e3 : fc ρ2 with
      | st => exact .stuck
      | o d ρ2 => exact .stuck
      | x c' k => exact .stuck
      | v z ρ3 =>
        rw [e3] at g
        refine ⟨fun _ _ h => (nomatch h), fun σ B H W D s sd q => a.2 σ B H W s sd _ fun v1 B1 H1 W1 l1 s1 d1 => b.2 σ B1 H1 W1 l1.sub s1 _ fun p A2 B2 H2 W2 l2 s2 o n => g.2 σ B2 H2 W2 l2.sub s2 _ fun u B3 H3 W3 l3 s3 d3 => ?_⟩
        have o3 := o.up l3.toLeO fun a z => (n a z).2.2.1
        have n3 := (n.behind l1).go l3
        have lg := (l1.tr l2).tr l3
        refine ⟨(show 3 ≤ sizeLine by decide), fun t ht => ⟨t, [v1, .ref p, u], rfl, SqT.of upd_same, rfl, v1, [.ref p, u], rfl, .ref p, [u], rfl, u, [], rfl, rfl, ?_⟩⟩
        have lt : Le B3 H3 B3 (upd H3 t (.tup [v1, .ref p, u])) := ⟨Ex.new ht, Ex.refl B3, l3.sub.trans (Ex.new ht), fun _ h _ => h⟩
        have s4 := s3.le lt
        have o4 := o3.up (X := fun _ => False) lt.lo fun _ _ z => z
        exact q _ B3 _ _ ((lg.tr lt.o).give (n3.le lt)) (((s4.put i oi ((d1.ex l2.ek).ex l3.ek)).putO j oj o4 (n3.le lt).fr).put _ ol d3) fun k hk => by rw [List.getElem?_set_ne (by omega), List.getElem?_set_ne (by omega), List.getElem?_set_ne (by omega)]
end
end TD
set_option maxHeartbeats 4000000
namespace TD
open PySem PySem.Spec PyProof.Rows L2
open Evl (Ex)
section
variable {P : Program} {w : World} {A : Around} {E : Value → Shared → Prop} {s : Shared} {K : Type} [DecidableEq K] {knd : KeyKind P w K}
theorem ne_none {a b : Addr} {oa : Obj} {es : Array DictEntry} {ep : Nat} {Q : Value → Shared → Prop} (ha : (a == sysModules) = false) (hb : (b == sysModules) = false)
    (hoa : s.heap.get? a = some oa) (xa : oa.ExactDict) (da : oa.data = .dict es ep) (db : s.heap.DictOf knd b ([] : List (K × Value))) (hu : A.units < cLine)
    (h : Q (.bool (decide (es.size ≠ 0))) s) : wpAny (model P w) A (compareOp .NotEq (.ref a) (.ref b)) Q E s := by
  by_cases z : es.size = 0
  · have e0 : es = #[] := Array.eq_empty_of_size_eq_zero z
    subst e0
    have da' : s.heap.DictOf knd a ([] : List (K × Value)) := ⟨oa, #[], ep, hoa, xa, da, (fun e he => by simp at he), .nil, List.nodup_nil⟩
    refine PySem.W.keq_ne (knd := knd) (r := true) ha hb da' db hu (fun _ => .nil) ?_
    simpa using h
  · rw [decide_eq_true z] at h
    have ta : s.TypeIs (.ref a) "dict" := ⟨oa, hoa, xa.1⟩
    refine wpAny_richCompare_same_room (op := .NotEq) ta db.typeIs PySem.F.slot_dict_ne
      (wpAny_call_entry PySem.F.slot_dict_ne ta PySem.F.entry_dict_ne ?_ (PySem.F.args_dict_ne_2 _ _)) hu
    obtain ⟨ob, es', ep', hob, xb, hdb, _, hpb, _⟩ := id db
    have nb : es'.size = 0 := by
      have := hpb.length
      simpa using this
    show wpAny _ _ (Builtin.Dict.dictSlotArgs "__ne__" ⟨[.ref a, .ref b], []⟩ >>= _) _ _ s
    refine wpAny_bind ?_
    unfold Builtin.Dict.dictSlotArgs
    refine wpAny_bind (wpAny_notOrdered_dict ta ?_)
    show wpAny _ _ (pure (Value.ref a, Value.ref b)) _ _ s
    refine wpAny_pure (wpAny_bind
      (wpAny_isInstance (T := "dict") db.typeIs PySem.F.sub_dict_dict ?_))
    simp only [Bool.not_true, Bool.false_eq_true, if_false]
    refine wpAny_bind (wpAny_pure (wpAny_bind (wpAny_pure (wpAny_bind ?_))))
    unfold Builtin.Dict.samePairs Builtin.Dict.showsAll
    rw [if_neg (by rw [ha]; exact Bool.false_ne_true), if_neg (by rw [hb]; exact Bool.false_ne_true)]
    refine wpAny_bind (wpAny_pure (wpAny_bind (wpAny_pure (wpAny_bind
      (wpAny_dictEntries hoa da ?_)))))
    dsimp only
    refine wpAny_bind (wpAny_dictEntries hob hdb ?_)
    rw [if_pos (by rw [nb]; simpa using z)]
    refine wpAny_bind (wpAny_rule (wpAny_pure (wpAny_pure ⟨_, rfl, ?_, h⟩)))
    exact fun x => nomatch x
end
section
variable {X : Cx}
def rNeT : R2 := fun x y H Q => ∃ a b kvs, x = .ref a ∧ y = .ref b ∧ H a = some (.dT kvs) ∧ H b = some (.dK []) ∧ Q (.bl (!kvs.isEmpty)) H
theorem op_neT (hu : X.A.units < cLine) : OpR X (compareOp .NotEq) rNeT := by
  intro pins s σ H x y v u Q I rx ry h
  obtain ⟨a, b, kvs, rfl, rfl, ea, eb, q⟩ := h
  cases (show v = Value.ref a from rx)
  cases (show u = Value.ref b from ry)
  obtain ⟨_, ya, xs, pr, o, es, ep, h1, h2, h3, h4, _⟩ := (show ObjOk X.prog X.w H s.heap a (.dT kvs) from I.hok a _ ea)
  obtain ⟨_, yb, vb, rb, db⟩ := (show ObjOk X.prog X.w H s.heap b (.dK []) from I.hok b _ eb)
  have nb : vb = [] := by
    cases rb
    rfl
  subst nb
  have sz : es.size = kvs.length := by
    rw [← Array.length_toList, h4, List.length_map, Paired.length pr]
  refine ne_none (knd := mixKind X.prog X.w) ya yb h1 h2 h3 db hu (fin_bl I q ?_)
  rw [sz]
  cases kvs <;> simp
end
end TD
set_option maxHeartbeats 4000000
namespace TD
open PySem PySem.Spec PyProof.Rows L2
open Evl (Ex)
section
variable {K : Fg} {cl : Nat → Addr} {E : XK} {m : Nat} {O : Nat → Bool} {ρ : En}
def eNeE (i : Nat) (ρ : En) : ER := match ρ[i]? with
  | some (some (.tuple [.dict kvs])) => .v (.bool (!kvs.isEmpty)) ρ
  | _ => .st
theorem ye_neE {i : Nat} (hO : O i = true := by rfl) : YE K cl E m O (tOp rNeT (tVar i) tDNewK) (eNeE i) := fun ρ => by
  unfold eNeE
  split
  · next kvs e =>
    refine ⟨Mo.rfl', fun σ B H W s sd Q q => ?_⟩
    obtain ⟨p, a, b, ws, ds, c, hv, ekv⟩ := sd.own i _ hO e
    refine ⟨.ref p, a, fun p2 hp2 => ?_⟩
    have ne : p ≠ p2 := fun z => by rw [z, hp2] at c; exact nomatch c
    have l : Le B H B (upd H p2 (.dK [])) := ⟨Ex.new hp2, Ex.refl B, s.trans (Ex.new hp2), fun _ h _ => h⟩
    refine ⟨p, p2, ws, rfl, rfl, by rw [upd_ne ne]; exact c, upd_same, q _ B _ W l.o (sd.le l) ?_⟩
    have : (!ws.isEmpty) = (!kvs.isEmpty) := by
      have hl := hv.len
      rw [List.length_map] at hl
      subst ekv
      cases ws with
      | nil => rfl
      | cons w ws =>
        cases ds with
        | nil => exact nomatch hl
        | cons d ds => rfl
    rw [this]
    exact .bl _
  · trivial
def valG (kvs : List (PyData × PyData)) (q : PyData × PyData) : PyData := match lookT kvs q.1 with
  | some (some d) => d
  | _ => .none
def eVals (i j : Nat) (ρ : En) : ER := match ρ[i]? with
  | some (some (.tuple [.dict kvs])) => match decide (kvs.length ≤ 40000) && decide (j < ρ.length) with
    | true => .o (.list (kvs.map (valG kvs))) ρ
    | false => .st
  | _ => .st
theorem ye_vals {i j : Nat} (hij : i ≠ j := by decide) (hO : O i = true := by rfl) : YE K cl E m O (tLockE (tLc (iKeys (tVar i)) (gName j) tYes (tDGet (tVar i) (tVar j)) [j])) (eVals i j) := fun ρ => by
  unfold eVals
  split
  · next kvs e =>
    split
    · next hz =>
      rw [Bool.and_eq_true] at hz
      have hl := of_decide_eq_true hz.1
      have jl := of_decide_eq_true hz.2
      refine ⟨Mo.rfl', fun σ B H W s sd Q q => ?_⟩
      obtain ⟨p, a, b, ws, ds, c, hv, ekv⟩ := sd.own i _ hO e
      have jl : j < σ.length := by rw [sd.len]; exact jl
      have dl := hv.len
      rw [List.length_map] at dl
      have kl : kvs.length = ws.length := by
        rw [ekv, List.length_zip, List.length_map]
        omega
      have at_ : ∀ (n : Nat) (k : List Key) (v : V), ws[n]? = some (k, v) → ∃ u d, valV ws k = some u ∧ (kvs.map (valG kvs))[n]? = some d ∧ Da K B u d := fun n k v h => by
        have mem : (k, v) ∈ ws := List.mem_of_getElem? h
        have hn : n < ws.length := (List.getElem?_eq_some_iff.mp h).1
        rcases get_by (dec := isKeysD) (enc := encT) (fun k => isKeysD_encT) (k := k) hv with ⟨g1, _⟩ | ⟨u, d, g1, g2, g3⟩
        · have := valV_any k ws
          rw [g1, show (none : Option V).isSome = false from rfl, List.any_eq_false] at this
          exact absurd (decide_eq_true rfl) (this (k, v) mem)
        · refine ⟨u, d, g1, ?_, g3⟩
          have hn2 : n < ds.length := by omega
          have ek : kvs[n]? = some (encT k, ds[n]) := by
            rw [ekv, List.getElem?_zip_eq_some]
            refine ⟨?_, List.getElem?_eq_getElem hn2⟩
            rw [List.getElem?_map, h]
            rfl
          rw [List.getElem?_map, ek]
          show some (valG kvs (encT k, ds[n])) = some d
          unfold valG lookT
          dsimp only
          rw [isKeysD_encT]
          show some (match some (getBy isKeysD kvs k) with | some (some d) => d | _ => PyData.none) = some d
          rw [show getBy isKeysD kvs k = some d by rw [ekv]; exact g2]
      refine ⟨p, .dT ws, c, trivial, fun od => ⟨.ref p, a, p, od, rfl, .inr ⟨ws, upd_same, fun D hD => ?_⟩⟩⟩
      have pD : p ≠ D := fun z => by rw [← z, upd_same] at hD; exact nomatch hD
      have hD' : H D = none := by rw [upd_ne (Ne.symm pD)] at hD; exact hD
      refine ⟨fun n t H' => t = ws.length - n ∧ n ≤ ws.length ∧ ∃ acc, H' D = some (.lst acc) ∧ (∀ b, b ≠ D → H' b = upd H p (.frz od (.dT ws)) b) ∧ Das K B acc ((kvs.map (valG kvs)).take n), ⟨ws.length, by simp, Nat.zero_le _, [], upd_same, fun b hb => upd_ne hb, .nil⟩, ?_⟩
      rintro n t H' ⟨rfl, hn, acc, hacc, hb, hd⟩
      have hp : H' p = some (.frz od (.dT ws)) := by rw [hb p pD, upd_same]
      have al : acc.length ≤ n := by
        rw [hd.len, List.length_take]
        exact Nat.min_le_left _ _
      by_cases hlt : n < ws.length
      · refine .inr ⟨⟨hp, hlt⟩, fun H2 => n + 1 ≤ ws.length ∧ ∃ acc, H2 D = some (.lst acc) ∧ (∀ b, b ≠ D → H2 b = upd H p (.frz od (.dT ws)) b) ∧ Das K B acc ((kvs.map (valG kvs)).take (n + 1)), fun H2 z => ⟨ws.length - (n + 1), by omega, rfl, z⟩, fun x H2 hy => ?_⟩
        obtain ⟨rfl, k, v, qk, hk, rfl, hq⟩ := hy
        obtain ⟨u, d, h1, h2, h3⟩ := at_ n k v hk
        show wipe ((wipe σ [j]).set j (some (.ref qk))) [j] = wipe σ [j] ∧ _
        refine ⟨?_, ?_⟩
        · show (((σ.set j none).set j (some (V.ref qk))).set j none) = σ.set j none
          rw [List.set_set, List.set_set]
        · unfold tYes
          dsimp only
          rw [if_pos rfl]
          refine ⟨.ref p, ?_, .ref qk, ?_, p, u, rfl, .inr ⟨ws, k, qk, .inr ⟨od, hp⟩, rfl, hq, h1.symm⟩, acc, hacc, Evl.sz_lt (by omega), by omega, acc ++ [u], upd_same, fun b hb' => ?_, ?_⟩
          · show ((σ.set j none).set j (some (V.ref qk)))[i]? = _
            rw [List.getElem?_set_ne (Ne.symm hij), List.getElem?_set_ne (Ne.symm hij)]
            exact a
          · show ((σ.set j none).set j (some (V.ref qk)))[j]? = _
            rw [List.getElem?_set_self (by rw [List.length_set]; exact jl)]
          · rw [upd_ne hb']
            exact hb b hb'
          · rw [List.take_add_one, h2]
            exact hd.app (.cons h3 .nil)
      · refine .inl ⟨⟨hp, by omega⟩, hp, ?_⟩
        have tk : (kvs.map (valG kvs)).take n = kvs.map (valG kvs) := List.take_of_length_le (by rw [List.length_map]; omega)
        rw [tk] at hd
        have eH : upd H' p (.dT ws) = upd H D (.lst acc) := by
          funext b
          by_cases z : b = p
          · subst z
            rw [upd_same, upd_ne pD]
            exact c.symm
          · rw [upd_ne z]
            by_cases y : b = D
            · subst y
              rw [upd_same]
              exact hacc
            · rw [upd_ne y, hb b y, upd_ne z]
        show Q (.ref D) (upd H' p (.dT ws))
        rw [eH]
        exact po_new Mo.rfl' (Go.rfl' s) sd hd hD' q
    · trivial
  · trivial
end
end TD
set_option maxHeartbeats 4000000
namespace TD
open PySem PySem.Spec PyProof.Rows L2
open Evl (Ex)
def mkN (n : Nat) : PyData := .tuple [.str "mark", .int (n : Nat)]
section
variable {K : Fg} {cl : Nat → Addr} {E : XK} {m : Nat} {O : Nat → Bool} {ρ ρ1 : En} {W : OW}
theorem SDo.lessT {σ : L2.St} {B H : Hp} (s : SDo K O σ B H ρ W) (hl : ρ1.length = ρ.length) (h : ∀ (i : Nat) (d : PyData), ρ1[i]? = some (some d) → ρ[i]? = some (some d)) : SDo K O σ B H ρ1 W :=
  ⟨by rw [hl]; exact s.len, fun i d h1 h2 => s.dat i d h1 (h i d h2), fun i d h1 h2 => s.own i d h1 (h i d h2), s.bh, s.dis⟩
abbrev un2 (n w : Nat) (ρ : En) : En := (ρ.set n none).set w none
theorem un2_len (n w : Nat) (ρ : En) : (un2 n w ρ).length = ρ.length := by rw [List.length_set, List.length_set]
theorem un2_n {n w : Nat} {ρ : En} (h : n ≠ w) : (un2 n w ρ).set n none = un2 n w ρ := by
  unfold un2
  rw [List.set_comm none none (Ne.symm h), List.set_set]
theorem un2_w {n w : Nat} {ρ : En} : (un2 n w ρ).set w none = un2 n w ρ := by
  unfold un2
  rw [List.set_set]
theorem un2_told {n w : Nat} {ρ : En} {i : Nat} {d : PyData} (h : (un2 n w ρ)[i]? = some (some d)) : ρ[i]? = some (some d) := by
  have step : ∀ {ρ : En} {j : Nat}, (ρ.set j none)[i]? = some (some d) → ρ[i]? = some (some d) := fun {ρ j} h => by
    by_cases z : i = j
    · subst z
      by_cases l : i < ρ.length
      · rw [List.getElem?_set_self l] at h
        cases h
      · rw [List.getElem?_eq_none (by rw [List.length_set]; omega)] at h
        cases h
    · rwa [List.getElem?_set_ne (Ne.symm z)] at h
  exact step (step h)
abbrev tMark (n : Nat) : TE := tTup (tCons (tC (.str "mark")) (tCons (tVar n) tNil))
theorem t_mark {n k : Nat} {σ : L2.St} {H : Hp} {Q : VK} (h : σ[n]? = some (some (.int (k : Nat)))) (q : ∀ t, H t = none → Q (.ref t) (upd H t (.tup [.str "mark", .int (k : Nat)]))) : tMark n σ H Q :=
  ⟨_, h, (show 2 ≤ sizeLine by decide), q⟩
theorem tCons_eq (ta : TE) (tr : TA) (σ : L2.St) (H : Hp) (Q : List V → Hp → Prop) : tCons ta tr σ H Q = ta σ H fun x H1 => tr σ H1 fun xs H2 => Q (x :: xs) H2 := rfl
theorem toL_snoc {α : Type} (ts : List α) (t : α) (j : Nat) : ((ts ++ [t])[j]?).toList = if j = ts.length then [t] else (ts[j]?).toList := by
  by_cases h : j < ts.length
  · rw [List.getElem?_append_left h, if_neg (by omega)]
  · by_cases e : j = ts.length
    · subst e
      rw [if_pos rfl, List.getElem?_append_right (Nat.le_refl _), Nat.sub_self]
      rfl
    · rw [if_neg e, List.getElem?_eq_none (by rw [List.length_append, List.length_singleton]; omega), List.getElem?_eq_none (by omega)]
structure Al (H : Hp) (u : Addr) (as : List Addr) (cs : List (List V)) : Prop where
  at_ : H u = some (.lst (as.map V.ref))
  nd : as.Nodup
  nu : u ∉ as
  len : as.length = cs.length
  con : ∀ (j : Nat) (a : Addr) (c : List V), as[j]? = some a → cs[j]? = some c → H a = some (.lst c)
  sz : ∀ c ∈ cs, c.length ≤ 90000
structure Mk (K : Fg) (O : Nat → Bool) (σ : L2.St) (B H : Hp) (W : OW) (ρ : En) (n w u : Nat) (as : List Addr) (cs : List (List V)) (k : Nat) (σ' : L2.St) (H' B' : Hp) (ts : List V) : Prop where
  len : ts.length = k
  le : LeO (fun a => a ∈ as) B H B' H'
  sd : SDo K O σ' B' H' (un2 n w ρ) W
  at_ : H' u = some (.lst (as.map V.ref))
  con : ∀ (j : Nat) (a : Addr) (c : List V), as[j]? = some a → cs[j]? = some c → H' a = some (.lst (c ++ (ts[j]?).toList))
  das : Das K B' ts ((List.range k).map mkN)
  fr : ∀ i, i ≠ n → i ≠ w → σ'[i]? = σ[i]?
  sl : σ'.length = σ.length
  un : ∀ a, a = u ∨ a ∈ as → B' a = none
theorem mark_loop {r n w u : Nat} {as : List Addr} {cs : List (List V)} {σ : L2.St} {B H : Hp} (hnw : n ≠ w) (on : O n = false) (ow : O w = false) (rn : r ≠ n) (rw_ : r ≠ w) (nl : n < ρ.length) (wl : w < ρ.length)
    (s : Ex B H) (sd : SDo K O σ B H ρ W) (hr : σ[r]? = some (some (.ref u))) (al : Al H u as cs) (out : ∀ a, a = u ∨ a ∈ as → B a = none ∧ ¬ WA W a) {D : Ends}
    (nx : ∀ σ' H' B' ts, Mk K O σ B H W ρ n w u as cs as.length σ' H' B' ts → D.nx σ' H') :
    tFor (iEnum K (tCons (tVar r) tNil)) (gTup K 2 (gCons (gName n) (gCons (gName w) gNil))) (tDrop (tBM K "list" rAppend (tVar w) (tCons (tMark n) tNil))) D σ H := by
  refine ⟨.ref u, hr, u, _, rfl, SqL.of al.at_, ?_⟩
  refine ⟨fun k t σ' H' => t = as.length - k ∧ k ≤ as.length ∧ ∃ B' ts, Mk K O σ B H W ρ n w u as cs k σ' H' B' ts, ⟨as.length, rfl, Nat.zero_le _, B, [], rfl, LeO.rfl' s, sd.lessT (un2_len n w ρ) fun i d h => un2_told h, al.at_, fun j a c h1 h2 => by
    rw [show (([] : List V)[j]?).toList = [] by simp, List.append_nil]
    exact al.con j a c h1 h2, .nil, fun _ _ _ => rfl, rfl, fun a h => (out a h).1⟩, ?_⟩
  rintro k t σ' H' ⟨rfl, kle, B', ts, mk⟩
  cases hd : as[k]? with
  | none =>
    have ke : k = as.length := Nat.le_antisymm kle (List.getElem?_eq_none_iff.mp hd)
    subst ke
    exact .inl ⟨⟨_, SqL.of mk.at_, by rw [List.length_map]; exact Nat.le_refl _⟩, nx σ' H' B' ts mk⟩
  | some q =>
    have kl : k < as.length := (List.getElem?_eq_some_iff.mp hd).1
    have qm : q ∈ as := List.mem_of_getElem? hd
    obtain ⟨c, hc⟩ : ∃ c, cs[k]? = some c := ⟨_, List.getElem?_eq_getElem (by rw [← al.len]; exact kl)⟩
    have hv : (as.map V.ref)[k]? = some (.ref q) := by rw [List.getElem?_map, hd]; rfl
    refine .inr ⟨⟨_, _, SqL.of mk.at_, hv⟩, fun σ2 H2 => k + 1 ≤ as.length ∧ ∃ B' ts, Mk K O σ B H W ρ n w u as cs (k + 1) σ2 H2 B' ts, fun σ2 H2 z => ⟨as.length - (k + 1), by omega, rfl, z⟩, fun x H2 hy => ?_⟩
    obtain ⟨T, x', rfl, hT, rfl, f⟩ := hy
    have e2 := f _ (SqL.of mk.at_)
    rw [hv] at e2
    cases e2
    have lT : Le B' H' B' (upd H' T (.tup [.int ((k : Nat) : Int), .ref q])) := ⟨Ex.new hT, Ex.refl B', mk.le.sub.trans (Ex.new hT), fun _ h _ => h⟩
    refine ⟨T, [.int ((k : Nat) : Int), .ref q], rfl, SqT.of upd_same, rfl, _, _, rfl, _, _, rfl, rfl, ?_⟩
    have hq0 : H' q = some (.lst c) := by
      have := mk.con k q c hd hc
      rw [List.getElem?_eq_none (show ts.length ≤ k by rw [mk.len]; exact Nat.le_refl _)] at this
      simpa using this
    have hq2 := lT.ex _ _ hq0
    have nl' : n < σ'.length := by rw [mk.sl, sd.len]; exact nl
    have wl' : w < σ'.length := by rw [mk.sl, sd.len]; exact wl
    have s2 : SDo K O ((σ'.set n (some (.int ((k : Nat) : Int)))).set w (some (.ref q))) B' (upd H' T (.tup [.int ((k : Nat) : Int), .ref q])) (un2 n w ρ) W := by
      have := ((mk.sd.le lT).drop n (.int ((k : Nat) : Int)) on).drop w (.ref q) ow
      rwa [un2_n hnw, un2_w] at this
    refine ⟨.ref q, List.getElem?_set_self (by rw [List.length_set]; exact wl'), .inl ⟨rfl, c, SqL.of hq2⟩, ?_⟩
    refine (tCons_eq (tMark n) tNil _ _ _).mpr ?_
    refine t_mark (k := k) (by rw [List.getElem?_set_ne (Ne.symm hnw), List.getElem?_set_self nl']) fun t ht => ?_
    have l3 := Le.new (o := .tup [.str "mark", .int ((k : Nat) : Int)]) lT.sub ht
    have s3 := s2.le l3
    have hq3 := l3.ex _ _ hq2
    have cz : c.length ≤ 90000 := al.sz c (List.mem_of_getElem? hc)
    refine ⟨q, c, .ref t, rfl, rfl, hq3, Evl.sz_lt (by omega), ?_⟩
    show k + 1 ≤ as.length ∧ _
    refine ⟨kl, upd B' t (.tup [.str "mark", .int ((k : Nat) : Int)]), ts ++ [.ref t], ?_⟩
    have bq : (upd B' t (.tup [.str "mark", .int ((k : Nat) : Int)])) q = none := by
      have ne : q ≠ t := fun z => by
        have := congrArg (upd H' T (.tup [.int ((k : Nat) : Int), .ref q])) z
        rw [hq2, ht] at this
        exact nomatch this
      rw [upd_ne ne]
      exact mk.un q (.inr qm)
    have l4 : LeO (fun a => a ∈ as) (upd B' t (.tup [.str "mark", .int ((k : Nat) : Int)])) (upd (upd H' T (.tup [.int ((k : Nat) : Int), .ref q])) t (.tup [.str "mark", .int ((k : Nat) : Int)])) (upd B' t (.tup [.str "mark", .int ((k : Nat) : Int)])) (upd (upd (upd H' T (.tup [.int ((k : Nat) : Int), .ref q])) t (.tup [.str "mark", .int ((k : Nat) : Int)])) q (.lst (c ++ [.ref t]))) := by
      refine ⟨fun b o hb nb => by rw [upd_ne (fun z => nb (by rw [z]; exact qm))]; exact hb, fun b hb => ?_, Ex.refl _, fun b o hb => ?_, fun a h1 _ _ => h1⟩
      · by_cases z : b = q
        · rw [z, upd_same]
          exact fun z => nomatch z
        · rw [upd_ne z]
          exact hb
      · have nb : b ≠ q := fun z => by rw [z, bq] at hb; exact nomatch hb
        rw [upd_ne nb]
        exact l3.sub b o hb
    have old : ∀ (a : Addr) (o : HO), a ≠ q → H' a = some o → (upd (upd (upd H' T (.tup [.int ((k : Nat) : Int), .ref q])) t (.tup [.str "mark", .int ((k : Nat) : Int)])) q (.lst (c ++ [.ref t]))) a = some o := fun a o na ha => by
      rw [upd_ne na]
      exact l3.ex _ _ (lT.ex _ _ ha)
    refine ⟨by rw [List.length_append, mk.len]; rfl, ((mk.le.tr (lT.lo (A := fun _ => False)) fun p z => z.elim).tr (l3.lo (A := fun _ => False)) fun p z => z.elim).tr l4 fun p z => .inl z, s3.up l4 fun p hp hW => (out p (.inr hp)).2 hW, old u _ (fun z => al.nu (z ▸ qm)) mk.at_, fun j a c' h1 h2 => ?_, ?_, fun i h1 h2 => ?_, ?_, fun a ha => ?_⟩
    · rw [toL_snoc, mk.len]
      by_cases z : j = k
      · subst z
        rw [hd] at h1
        cases h1
        rw [hc] at h2
        cases h2
        rw [if_pos rfl]
        exact upd_same
      · rw [if_neg z]
        refine old a _ (fun y => ?_) (mk.con j a c' h1 h2)
        subst y
        obtain ⟨p1, e1⟩ := List.getElem?_eq_some_iff.mp h1
        obtain ⟨p2, e2⟩ := List.getElem?_eq_some_iff.mp hd
        exact z ((List.getElem_inj al.nd).mp (e1.trans e2.symm))
    · rw [List.range_succ, List.map_append]
      exact (mk.das.ex l3.ek).app (.cons (.tup upd_same (.cons (.str _) (.cons (.int _) .nil))) .nil)
    · rw [List.getElem?_set_ne (Ne.symm h2), List.getElem?_set_ne (Ne.symm h1)]
      exact mk.fr i h1 h2
    · rw [List.length_set, List.length_set]
      exact mk.sl
    · have ne : a ≠ t := fun z => by
        have : ∃ o, H' a = some o := by
          rcases ha with y | y
          · rw [y]; exact ⟨_, mk.at_⟩
          · obtain ⟨j, jl, e⟩ := List.getElem_of_mem y
            exact ⟨_, mk.con j a (cs[j]'(by rw [← al.len]; exact jl)) (by rw [List.getElem?_eq_getElem jl, e]) (List.getElem?_eq_getElem _)⟩
        obtain ⟨o, ho⟩ := this
        have := lT.ex _ _ ho
        rw [z, ht] at this
        exact nomatch this
      rw [upd_ne ne]
      exact mk.un a ha
end
end TD
set_option maxHeartbeats 4000000
namespace TD
open PySem PySem.Spec PyProof.Rows L2
open Evl (Ex)
def markR : Nat → List (List PyData) → List (List PyData)
  | _, [] => []
  | k, r :: rs => (r ++ [mkN k]) :: markR (k + 1) rs
def aliasD (rs : List (List PyData)) : PyData := .list (.list ((markR 1 rs).map PyData.list ++ [mkN 0]) :: (markR 1 rs).map PyData.list)
section
variable {K : Fg} {cl : Nat → Addr} {E : XK} {m : Nat} {O : Nat → Bool} {ρ ρ1 : En} {W : OW}
theorem das_at {B : Hp} {d : PyData} : ∀ {xs : List V} {ds : List PyData} {j : Nat}, Das K B xs ds → ds[j]? = some d → ∃ x, xs[j]? = some x ∧ Da K B x d
  | _, _, _, .nil, h => by simp at h
  | _ :: _, _ :: _, 0, .cons h _, e => by
    have e := Option.some.inj e
    subst e
    exact ⟨_, rfl, h⟩
  | _ :: _, _ :: _, j + 1, .cons _ t, e => by
    obtain ⟨x, h1, h2⟩ := das_at (j := j) t (by simpa using e)
    exact ⟨x, by simpa using h1, h2⟩
theorem das_rows {B : Hp} : ∀ (qs : List Addr) (rs : List (List PyData)) (k : Nat), qs.length = rs.length → (∀ (j : Nat) (q : Addr) (r : List PyData), qs[j]? = some q → rs[j]? = some r → Da K B (.ref q) (.list (r ++ [mkN (k + j)]))) → Das K B (qs.map V.ref) ((markR k rs).map PyData.list)
  | [], [], _, _, _ => .nil
  | [], _ :: _, _, h, _ => nomatch h
  | _ :: _, [], _, h, _ => nomatch h
  | q :: qs, r :: rs, k, h, f => .cons (f 0 q r rfl rfl) (das_rows qs rs (k + 1) (Nat.succ.inj h) fun j q' r' h1 h2 => by
      have := f (j + 1) q' r' (by simpa using h1) (by simpa using h2)
      rwa [show k + (j + 1) = k + 1 + j by omega] at this)
open Classical in
theorem frz_alias {n w u p : Nat} {qs : List Addr} {vss : List (List V)} {rs : List (List PyData)} {σ σ' : L2.St} {B H B' H' : Hp} {ts : List V}
    (mk : Mk K O σ B H W ρ n w u (p :: qs) (qs.map V.ref :: vss) (p :: qs).length σ' H' B' ts) (al : Al H u (p :: qs) (qs.map V.ref :: vss)) (out : ∀ a, a = u ∨ a ∈ p :: qs → B a = none ∧ ¬ WA W a)
    (lr : qs.length = rs.length) (rows : ∀ (j : Nat) (vs : List V) (r : List PyData), vss[j]? = some vs → rs[j]? = some r → Das K B vs r) :
    ∃ B2, LeO (fun a => a = u ∨ a ∈ p :: qs) B' H' B2 H' ∧ SDo K O σ' B2 H' (un2 n w ρ) W ∧ Da K B2 (.ref u) (aliasD rs) := by
  have sub : Ex B' H' := mk.le.sub
  have ex : Ex B' (fun b => if b = u ∨ b ∈ p :: qs then H' b else B' b) := fun b o hb => by
    show (if b = u ∨ b ∈ p :: qs then H' b else B' b) = some o
    split
    · exact sub b o hb
    · exact hb
  have l : LeO (fun a => a = u ∨ a ∈ p :: qs) B' H' (fun b => if b = u ∨ b ∈ p :: qs then H' b else B' b) H' := by
    refine ⟨fun _ _ h _ => h, fun _ h => h, ex, fun b o hb => ?_, fun a h1 _ h3 => ?_⟩
    · have hb : (if b = u ∨ b ∈ p :: qs then H' b else B' b) = some o := hb
      split at hb
      · exact hb
      · exact sub b o hb
    · show (if a = u ∨ a ∈ p :: qs then H' a else B' a) = none
      rw [if_neg h3]
      exact h1
  refine ⟨_, l, mk.sd.up l fun a h => (out a h).2, ?_⟩
  have at2 : ∀ {b : Addr} {o : HO}, (b = u ∨ b ∈ p :: qs) → H' b = some o → (fun b => if b = u ∨ b ∈ p :: qs then H' b else B' b) b = some o := fun {b o} h e => by
    show (if b = u ∨ b ∈ p :: qs then H' b else B' b) = some o
    rw [if_pos h]
    exact e
  have marks : ∀ j, j < (p :: qs).length → ∃ t, ts[j]? = some t ∧ Da K B' t (mkN j) := fun j hj => das_at mk.das (by rw [List.getElem?_map, List.getElem?_range hj]; rfl)
  have lv : qs.length = vss.length := by
    have := al.len
    simpa using this
  have rowsD : Das K (fun b => if b = u ∨ b ∈ p :: qs then H' b else B' b) (qs.map V.ref) ((markR 1 rs).map PyData.list) := das_rows qs rs 1 lr fun j q r h1 h2 => by
    have jl : j < qs.length := (List.getElem?_eq_some_iff.mp h1).1
    obtain ⟨t, e1, e2⟩ := marks (j + 1) (by rw [List.length_cons]; omega)
    have hv : vss[j]? = some (vss[j]'(by omega)) := List.getElem?_eq_getElem _
    have c := mk.con (j + 1) q (vss[j]'(by omega)) (by simpa using h1) (by simpa using hv)
    rw [e1] at c
    have d1 := rows j _ r hv h2
    rw [show 1 + j = j + 1 by omega]
    exact .lst (at2 (.inr (List.mem_cons_of_mem _ (List.mem_of_getElem? h1))) c) (((d1.ex mk.le.ek).ex ex).app (.cons (e2.ex ex) .nil))
  obtain ⟨t, e1, e2⟩ := marks 0 (by rw [List.length_cons]; omega)
  have c := mk.con 0 p (qs.map V.ref) rfl rfl
  rw [e1] at c
  exact .lst (at2 (.inl rfl) mk.at_) (.cons (.lst (at2 (.inr List.mem_cons_self) c) (rowsD.app (.cons (e2.ex ex) .nil))) rowsD)
abbrev catT (i : Nat) : TE := tOp rCat (tLst (tCons (tVar i) tNil)) (tVar i)
theorem cat_al {i p : Nat} {qs : List Addr} {σ : L2.St} {B H : Hp} {Q : VK} (s : Ex B H) (h : σ[i]? = some (some (.ref p))) (hp : H p = some (.lst (qs.map V.ref))) (hl : qs.length ≤ 90000)
    (k : ∀ u H1, Le B H B H1 → H u = none → H1 u = some (.lst ((p :: qs).map V.ref)) → Q (.ref u) H1) : catT i σ H Q := by
  refine ⟨.ref p, h, (show 1 ≤ sizeLine by decide), fun u0 h0 => ?_⟩
  have l0 : Le B H B (upd H u0 (.lst [.ref p])) := ⟨Ex.new h0, Ex.refl B, s.trans (Ex.new h0), fun _ h _ => h⟩
  refine ⟨.ref p, h, u0, p, [.ref p], qs.map V.ref, rfl, rfl, upd_same, l0.ex _ _ hp, ?_, fun u hu => ?_⟩
  · rw [List.length_map]
    exact Evl.sz_of (show 1 + qs.length ≤ 100000 by omega)
  · have l1 : Le B (upd H u0 (.lst [.ref p])) B (upd (upd H u0 (.lst [.ref p])) u (.lst ([.ref p] ++ qs.map V.ref))) := ⟨Ex.new hu, Ex.refl B, l0.sub.trans (Ex.new hu), fun _ h _ => h⟩
    refine k u _ (l0.tr l1) ?_ upd_same
    cases e : H u with
    | none => rfl
    | some o =>
      rw [l0.ex _ _ e] at hu
      exact nomatch hu
end
end TD
set_option maxHeartbeats 4000000
namespace TD
open PySem PySem.Spec PyProof.Rows L2
open Evl (Ex)
section
variable {K : Fg} {cl : Nat → Addr} {E : XK} {m : Nat} {O : Nat → Bool} {ρ ρ1 ρ2 : En} {W : OW}
theorem rows_vss {B H : Hp} {A : Addr → Prop} : ∀ {qs : List Addr} {rs : List (List PyData)}, Rows K B H A qs rs → ∃ vss : List (List V), qs.length = vss.length ∧ qs.length = rs.length ∧ (∀ (j : Nat) (q : Addr) (vs : List V), qs[j]? = some q → vss[j]? = some vs → H q = some (.lst vs)) ∧ (∀ (j : Nat) (vs : List V) (r : List PyData), vss[j]? = some vs → rs[j]? = some r → Das K B vs r) ∧ ∀ q ∈ qs, A q
  | [], [], _ => ⟨[], rfl, rfl, fun j q vs h => by simp at h, fun j vs r h => by simp at h, fun q h => nomatch h⟩
  | q :: qs, r :: rs, ⟨⟨h1, h2, vs, h3, h4⟩, t⟩ => by
    obtain ⟨vss, a, b, c, d, e⟩ := rows_vss t
    refine ⟨vs :: vss, by rw [List.length_cons, List.length_cons, a], by rw [List.length_cons, List.length_cons, b], fun j q' vs' e1 e2 => ?_, fun j vs' r' e1 e2 => ?_, fun q' hq => ?_⟩
    · cases j with
      | zero =>
        cases (Option.some.inj e1 : q = q')
        cases (Option.some.inj e2 : vs = vs')
        exact h3
      | succ j => exact c j q' vs' (by simpa using e1) (by simpa using e2)
    · cases j with
      | zero =>
        cases (Option.some.inj e1 : vs = vs')
        cases (Option.some.inj e2 : r = r')
        exact h4
      | succ j => exact d j vs' r' (by simpa using e1) (by simpa using e2)
    · rcases List.mem_cons.mp hq with z | z
      · rw [z]; exact h1
      · exact e q' z
def okR (rs : List (List PyData)) : Bool := decide (rs.length ≤ 80000) && rs.all fun r => decide (r.length ≤ 90000)
structure Xs (K : Fg) (B H : Hp) (A : Addr → Prop) (p : Addr) (qs : List Addr) (vss : List (List V)) (rs : List (List PyData)) : Prop where
  at_ : H p = some (.lst (qs.map V.ref))
  nd : (p :: qs).Nodup
  lv : qs.length = vss.length
  lr : qs.length = rs.length
  con : ∀ (j : Nat) (q : Addr) (vs : List V), qs[j]? = some q → vss[j]? = some vs → H q = some (.lst vs)
  das : ∀ (j : Nat) (vs : List V) (r : List PyData), vss[j]? = some vs → rs[j]? = some r → Das K B vs r
  inn : ∀ a ∈ p :: qs, A a
theorem Xs.here {B H : Hp} {A : Addr → Prop} {p : Addr} {qs : List Addr} {vss : List (List V)} {rs : List (List PyData)} (x : Xs K B H A p qs vss rs) : ∀ a ∈ p :: qs, ∃ o, H a = some o := fun a ha => by
  rcases List.mem_cons.mp ha with z | z
  · rw [z]; exact ⟨_, x.at_⟩
  · obtain ⟨j, jl, e⟩ := List.getElem_of_mem z
    exact ⟨_, x.con j a (vss[j]'(by rw [← x.lv]; exact jl)) (by rw [List.getElem?_eq_getElem jl, e]) (List.getElem?_eq_getElem _)⟩
theorem Xs.up {B H B1 H1 : Hp} {A X : Addr → Prop} {p : Addr} {qs : List Addr} {vss : List (List V)} {rs : List (List PyData)} (x : Xs K B H A p qs vss rs) (l : LeO X B H B1 H1) (n : ∀ a ∈ p :: qs, ¬ X a) : Xs K B1 H1 A p qs vss rs :=
  ⟨l.ex _ _ x.at_ (n p List.mem_cons_self), x.nd, x.lv, x.lr, fun j q vs e1 e2 => l.ex _ _ (x.con j q vs e1 e2) (n q (List.mem_cons_of_mem _ (List.mem_of_getElem? e1))), fun j vs r e1 e2 => (x.das j vs r e1 e2).ex l.ek, x.inn⟩
theorem xs_own {i : Nat} {rs : List (List PyData)} {σ : L2.St} {B H : Hp} (sd : SDo K O σ B H ρ W) (hO : O i = true) (h : ownR i ρ = some rs) : ∃ p qs vss, σ[i]? = some (some (.ref p)) ∧ Xs K B H (W i) p qs vss rs := by
  obtain ⟨p, qs, e, wp, hp, np, ro⟩ := own_rows sd hO h
  obtain ⟨vss, a, b, c, d, f⟩ := rows_vss ro
  exact ⟨p, qs, vss, e, hp, List.nodup_cons.mpr ⟨np, ro.nd⟩, a, b, c, d, fun a ha => by
    rcases List.mem_cons.mp ha with z | z
    · rw [z]; exact wp
    · exact f a z⟩
theorem Xs.al {B H : Hp} {A : Addr → Prop} {p u : Addr} {qs : List Addr} {vss : List (List V)} {rs : List (List PyData)} (x : Xs K B H A p qs vss rs) (ok : okR rs = true) (hu : H u = some (.lst ((p :: qs).map V.ref))) (nu : u ∉ p :: qs) : Al H u (p :: qs) (qs.map V.ref :: vss) := by
  unfold okR at ok
  rw [Bool.and_eq_true, List.all_eq_true] at ok
  have h1 := of_decide_eq_true ok.1
  refine ⟨hu, x.nd, nu, by rw [List.length_cons, List.length_cons, x.lv], fun j a c e1 e2 => ?_, fun c hc => ?_⟩
  · cases j with
    | zero =>
      cases (Option.some.inj e1 : p = a)
      cases (Option.some.inj e2 : qs.map V.ref = c)
      exact x.at_
    | succ j => exact x.con j a c (by simpa using e1) (by simpa using e2)
  · rcases List.mem_cons.mp hc with z | z
    · rw [z, List.length_map, x.lr]
      omega
    · obtain ⟨j, jl, e⟩ := List.getElem_of_mem z
      have jr : j < rs.length := by rw [← x.lr, x.lv]; exact jl
      have := x.das j c rs[j] (by rw [List.getElem?_eq_getElem jl, e]) (List.getElem?_eq_getElem jr)
      rw [this.len]
      exact of_decide_eq_true (ok.2 _ (List.getElem_mem jr))
def st7 (r n w : Nat) (rs : List (List PyData)) (ρ : En) : En := (un2 n w (ρ.set r none)).set r (some (aliasD rs))
theorem set_sameO {σ : L2.St} {r : Nat} {v : Option V} (h : σ[r]? = some v) : σ.set r v = σ := by
  refine List.ext_getElem? fun i => ?_
  by_cases z : i = r
  · subst z
    rw [List.getElem?_set_self (List.getElem?_eq_some_iff.mp h).1, h]
  · rw [List.getElem?_set_ne (Ne.symm z)]
theorem turn7 {r n w u p : Nat} {qs : List Addr} {vss : List (List V)} {rs : List (List PyData)} {t2 : TS} {f2 : En → SR} (h2 : YS K cl E m O t2 f2) {σ : L2.St} {B H : Hp} {A : Addr → Prop}
    (hnw : n ≠ w) (on : O n = false) (ow : O w = false) (or_ : O r = false) (rn : r ≠ n) (rw_ : r ≠ w) (rl : r < ρ.length) (nl : n < ρ.length) (wl : w < ρ.length) (mn : m ≤ n) (mw : m ≤ w)
    (s : Ex B H) (sd : SDo K O σ B H (ρ.set r none) W) (hr : σ[r]? = some (some (.ref u))) (x : Xs K B H A p qs vss rs) (ok : okR rs = true) (hu : H u = some (.lst ((p :: qs).map V.ref))) (nu : u ∉ p :: qs)
    (out : ∀ a, a = u ∨ a ∈ p :: qs → B a = none ∧ ¬ WA W a) (hf : f2 (st7 r n w rs ρ) = .nx ρ2) {D : Ends}
    (nx : ∀ σ3 B3 H3 W3, LeO (fun a => WA W a ∨ a = u ∨ a ∈ p :: qs) B H B3 H3 → (∀ a, WA W3 a → WA W a ∨ H a = none) → SDo K O σ3 B3 H3 ρ2 W3 → (∀ i, i < m → σ3[i]? = σ[i]?) → D.nx σ3 H3) :
    tSeq (tFor (iEnum K (tCons (tVar r) tNil)) (gTup K 2 (gCons (gName n) (gCons (gName w) gNil))) (tDrop (tBM K "list" rAppend (tVar w) (tCons (tMark n) tNil)))) t2 D σ H := by
  have al := x.al ok hu nu
  refine mark_loop (ρ := ρ.set r none) (W := W) hnw on ow rn rw_ (by rw [List.length_set]; exact nl) (by rw [List.length_set]; exact wl) s sd hr al out fun σ' H' B' ts mk => ?_
  obtain ⟨B2, l2, s2, d2⟩ := frz_alias mk al out x.lr x.das
  have hr' : σ'[r]? = some (some (.ref u)) := by rw [mk.fr r rn rw_]; exact hr
  have s3 := s2.put r or_ d2
  rw [set_sameO hr'] at s3
  have s3' : SDo K O σ' B2 H' (st7 r n w rs ρ) W := s3
  have a := (h2 (st7 r n w rs ρ)).2 σ' B2 H' W D l2.sub s3'
  rw [hf] at a
  refine a fun σ3 B3 H3 W3 l3 s4 k3 => ?_
  refine nx σ3 B3 H3 W3 (((mk.le.to fun a ha => .inl (.inr (.inr ha))).tr l2 fun a ha => .inl (.inr ha)).tr l3.toLeO fun a ha => .inl (.inl ha)) (fun a ha => ?_) s4 fun i hi => ?_
  · rcases l3.own a ha with z | z
    · exact .inl z
    · exact .inr (mk.le.back z)
  · rw [k3 i hi]
    exact mk.fr i (by omega) (by omega)
def len3 (r n w : Nat) (ρ : En) : Bool := decide (r < ρ.length) && (decide (n < ρ.length) && decide (w < ρ.length))
theorem len3_ok {r n w : Nat} {ρ : En} (h : len3 r n w ρ = true) : r < ρ.length ∧ n < ρ.length ∧ w < ρ.length := by
  unfold len3 at h
  rw [Bool.and_eq_true, Bool.and_eq_true] at h
  exact ⟨of_decide_eq_true h.1, of_decide_eq_true h.2.1, of_decide_eq_true h.2.2⟩
abbrev bas (iT iN : Nat) (ρ : En) : En := (ρ.set iT none).set iN none
def sMark7 (iT iN r n w : Nat) (f2 : En → SR) (ρ : En) : SR := match ownR iT ρ with
  | none => .st
  | some rsT => match ownR iN ρ with
    | none => .st
    | some rsN => match (okR rsT && okR rsN) && len3 r n w ρ with
      | false => .st
      | true => match f2 (st7 r n w rsT (bas iT iN ρ)) with
        | .nx ρ2 => match len3 r n w ρ2 with
          | false => .st
          | true => match f2 (st7 r n w rsN ρ2) with
            | .nx ρ3 => .nx ρ3
            | _ => .st
        | _ => .st
theorem for_list2 {ta tb : TE} {g : TG} {t : TS} {D : Ends} {σ : L2.St} {H : Hp} (h : ta σ H fun x H1 => tb σ H1 fun y H2 => [x, y].length ≤ sizeLine ∧ ∀ p, H2 p = none → ∃ a, V.ref p = V.ref a ∧ (∃ xs, SqL K (upd H2 p (.lst [x, y])) a xs) ∧
    (∃ Wf : Nat → Nat → L2.St → Hp → Prop, (∃ t, Wf 0 t σ (upd H2 p (.lst [x, y]))) ∧ ∀ i k σ' H', Wf i k σ' H' → ((Itl K a).stop i H' ∧ D.nx σ' H') ∨ ((Itl K a).go i H' ∧ ∃ N : L2.St → Hp → Prop, (∀ σ2 H3, N σ2 H3 → ∃ m', m' < k ∧ Wf (i + 1) m' σ2 H3) ∧ ∀ x H3, (Itl K a).yld i H' x H3 → g x σ' H3 fun σ2 H4 => t { D with nx := N, ct := N, bk := D.nx } σ2 H4))) :
    tFor (iList K (tLst (tCons ta (tCons tb tNil)))) g t D σ H := h
theorem ys_mark7 {iT iN r n w : Nat} {t2 : TS} {f2 : En → SR} (h2 : YS K cl E m O t2 f2) (hTN : iT ≠ iN := by decide) (hnw : n ≠ w := by decide) (rn : r ≠ n := by decide) (rw_ : r ≠ w := by decide) (oT : O iT = true := by rfl) (oN : O iN = true := by rfl) (on : O n = false := by rfl) (ow : O w = false := by rfl) (or_ : O r = false := by rfl)
    (mr : m ≤ r := by exact Nat.le_of_ble_eq_true rfl) (mn : m ≤ n := by exact Nat.le_of_ble_eq_true rfl) (mw : m ≤ w := by exact Nat.le_of_ble_eq_true rfl) :
    YS K cl E m O (tFor (iList K (tLst (tCons (catT iT) (tCons (catT iN) tNil)))) (gName r) (tSeq (tFor (iEnum K (tCons (tVar r) tNil)) (gTup K 2 (gCons (gName n) (gCons (gName w) gNil))) (tDrop (tBM K "list" rAppend (tVar w) (tCons (tMark n) tNil)))) t2)) (sMark7 iT iN r n w f2) := fun ρ => by
  unfold sMark7
  cases hT : ownR iT ρ with
  | none => exact .stuck
  | some rsT =>
  dsimp only
  cases hN : ownR iN ρ with
  | none => exact .stuck
  | some rsN =>
  dsimp only
  cases hz : (okR rsT && okR rsN) && len3 r n w ρ with
  | false => exact .stuck
  | true =>
  dsimp only
  cases f1 : f2 (st7 r n w rsT (bas iT iN ρ))
  case nx ρ2 =>
    dsimp only
    cases hz2 : len3 r n w ρ2 with
    | false => exact .stuck
    | true =>
    dsimp only
    cases f3 : f2 (st7 r n w rsN ρ2)
    case nx ρ3 =>
      dsimp only
      rw [Bool.and_eq_true, Bool.and_eq_true] at hz
      obtain ⟨⟨okT, okN⟩, ln⟩ := hz
      obtain ⟨rl, nl, wl⟩ := len3_ok ln
      obtain ⟨rl2, nl2, wl2⟩ := len3_ok hz2
      refine ⟨fun _ _ h => (nomatch h), fun σ B H W D s sd q => ?_⟩
      obtain ⟨pT, qsT, vT, eT, xT⟩ := xs_own sd oT hT
      obtain ⟨pN, qsN, vN, eN, xN⟩ := xs_own sd oN hN
      have szs : ∀ {rs : List (List PyData)}, okR rs = true → rs.length ≤ 90000 := fun h => by
        unfold okR at h
        rw [Bool.and_eq_true] at h
        have := of_decide_eq_true h.1
        omega
      refine for_list2 ?_
      refine cat_al s eT xT.at_ (by rw [xT.lr]; exact szs okT) fun uT H1 l1 fT aT => ?_
      refine cat_al l1.sub eN (l1.ex _ _ xN.at_) (by rw [xN.lr]; exact szs okN) fun uN H2 l2 fN aN => ?_
      refine ⟨(show 2 ≤ sizeLine by decide), fun u0 f0 => ?_⟩
      have l0 : Le B H2 B (upd H2 u0 (.lst [.ref uT, .ref uN])) := ⟨Ex.new f0, Ex.refl B, l2.sub.trans (Ex.new f0), fun _ h _ => h⟩
      have l5 := (l1.tr l2).tr l0
      have h0 : (upd H2 u0 (.lst [.ref uT, .ref uN])) u0 = some (.lst [.ref uT, .ref uN]) := upd_same
      have aT5 := l0.ex _ _ (l2.ex _ _ aT)
      have aN5 := l0.ex _ _ aN
      have fN' : H uN = none := by
        cases e : H uN with
        | none => rfl
        | some o => rw [l1.ex _ _ e] at fN; exact nomatch fN
      have f0' : H u0 = none := by
        cases e : H u0 with
        | none => rfl
        | some o => rw [l2.ex _ _ (l1.ex _ _ e)] at f0; exact nomatch f0
      have uTN : uT ≠ uN := fun z => by rw [z, fN] at aT; exact nomatch aT
      have u0T : u0 ≠ uT := fun z => by rw [z, l2.ex _ _ aT] at f0; exact nomatch f0
      have u0N : u0 ≠ uN := fun z => by rw [z, aN] at f0; exact nomatch f0
      generalize upd H2 u0 (.lst [.ref uT, .ref uN]) = H5 at l0 l5 h0 aT5 aN5 ⊢
      have new : ∀ {u : Addr}, H u = none → B u = none ∧ ¬ WA W u ∧ u ∉ pT :: qsT ∧ u ∉ pN :: qsN := fun {u} h => by
        refine ⟨none_of s h, fun ⟨i, z⟩ => (sd.bh i u z).2 h, fun z => ?_, fun z => ?_⟩
        · obtain ⟨o, ho⟩ := xT.here u z
          rw [h] at ho
          exact nomatch ho
        · obtain ⟨o, ho⟩ := xN.here u z
          rw [h] at ho
          exact nomatch ho
      have apart : ∀ a, a ∈ pT :: qsT → a ∈ pN :: qsN → False := fun a h k => hTN (sd.dis iT iN a (xT.inn a h) (xN.inn a k))
      let W0 : OW := fun i a => W i a ∧ i ≠ iT ∧ i ≠ iN
      have w0 : ∀ a, WA W0 a → WA W a ∧ a ∉ pT :: qsT ∧ a ∉ pN :: qsN := fun a ⟨i, z, h1, h2⟩ => ⟨⟨i, z⟩, fun y => h1 (sd.dis i iT a z (xT.inn a y)), fun y => h2 (sd.dis i iN a z (xN.inn a y))⟩
      have told : ∀ (i : Nat) (d : PyData), (bas iT iN ρ)[i]? = some (some d) → i ≠ iT ∧ i ≠ iN ∧ ρ[i]? = some (some d) := fun i d h => by
        have ne : ∀ {ρ : En} {j : Nat}, (ρ.set j none)[i]? = some (some d) → i ≠ j ∧ ρ[i]? = some (some d) := fun {ρ j} h => by
          by_cases z : i = j
          · subst z
            by_cases l : i < ρ.length
            · rw [List.getElem?_set_self l] at h
              cases h
            · rw [List.getElem?_eq_none (by rw [List.length_set]; omega)] at h
              cases h
          · rw [List.getElem?_set_ne (Ne.symm z)] at h
            exact ⟨z, h⟩
        obtain ⟨a, b⟩ := ne h
        obtain ⟨c, d⟩ := ne b
        exact ⟨c, a, d⟩
      have sd5 := sd.le l5
      have sd0 : SDo K O σ B H5 (bas iT iN ρ) W0 := ⟨by rw [List.length_set, List.length_set]; exact sd.len, fun i d h1 h2 => sd5.dat i d h1 (told i d h2).2.2, fun i d h1 h2 => by
        obtain ⟨n1, n2, e⟩ := told i d h2
        obtain ⟨p, a, b⟩ := sd5.own i d h1 e
        exact ⟨p, a, b.mono fun a z => ⟨z, n1, n2⟩⟩, fun i p z => sd5.bh i p z.1, fun i j p a b => sd.dis i j p a.1 b.1⟩
      have blen : (bas iT iN ρ).length = ρ.length := by rw [List.length_set, List.length_set]
      let S1 : L2.St → Hp → Prop := fun σ' H' => ∃ B3 W3, LeO (fun a => WA W0 a ∨ a = uT ∨ a ∈ pT :: qsT) B H5 B3 H' ∧ (∀ a, WA W3 a → WA W0 a ∨ H5 a = none) ∧ SDo K O σ' B3 H' ρ2 W3 ∧ ∀ i, i < m → σ'[i]? = σ[i]?
      let S2 : L2.St → Hp → Prop := fun σ' H' => H' u0 = some (.lst [.ref uT, .ref uN]) ∧ ∃ B4 W4, Go W B H W4 B4 H' ∧ SDo K O σ' B4 H' ρ3 W4 ∧ ∀ i, i < m → σ'[i]? = σ[i]?
      have x5T : Xs K B H5 (W iT) pT qsT vT rsT := xT.up (X := fun _ => False) l5.lo fun _ _ z => z
      have x5N : Xs K B H5 (W iN) pN qsN vN rsN := xN.up (X := fun _ => False) l5.lo fun _ _ z => z
      have nw0 : ¬ WA W0 u0 := fun z => (new f0').2.1 (w0 _ z).1
      have nwN : ¬ WA W0 uN := fun z => (new fN').2.1 (w0 _ z).1
      have bT : ∀ a, a ∈ pT :: qsT → B a = none := fun a h => (sd.bh iT a (xT.inn a h)).1
      have bN : ∀ a, a ∈ pN :: qsN → B a = none := fun a h => (sd.bh iN a (xN.inn a h)).1
      refine ⟨u0, rfl, ⟨_, SqL.of h0⟩, fun c t σ' H' => (c = 0 ∧ t = 2 ∧ σ' = σ ∧ H' = H5) ∨ (c = 1 ∧ t = 1 ∧ S1 σ' H') ∨ (c = 2 ∧ t = 0 ∧ S2 σ' H'), ⟨2, .inl ⟨rfl, rfl, rfl, rfl⟩⟩, ?_⟩
      rintro c t σ' H' (⟨rfl, rfl, rfl, rfl⟩ | ⟨rfl, rfl, z⟩ | ⟨rfl, rfl, z⟩)
      · refine .inr ⟨⟨_, .ref uT, SqL.of h0, rfl⟩, S1, fun σ2 H2 z => ⟨1, by decide, .inr (.inl ⟨rfl, rfl, z⟩)⟩, fun x Hx hy => ?_⟩
        obtain ⟨rfl, f⟩ := hy
        have ex := f _ (SqL.of h0)
        cases (show x = V.ref uT from (Option.some.inj ex).symm)
        show tSeq _ _ _ (σ'.set r (some (.ref uT))) _
        refine turn7 (ρ := bas iT iN ρ) (W := W0) h2 hnw on ow or_ rn rw_ (by rw [blen]; exact rl) (by rw [blen]; exact nl) (by rw [blen]; exact wl) mn mw l5.sub (sd0.drop r (.ref uT) or_) (List.getElem?_set_self (by rw [sd.len]; exact rl)) x5T okT aT5 (new fT).2.2.1 (fun a ha => ?_) f1 fun σ3 B3 H3 W3 l3 o3 s3 k3 => ?_
        · rcases ha with y | y
          · rw [y]
            exact ⟨(new fT).1, fun z => (new fT).2.1 (w0 _ z).1⟩
          · exact ⟨bT a y, fun z => (w0 a z).2.1 y⟩
        · exact ⟨B3, W3, l3, o3, s3, fun i hi => by rw [k3 i hi, List.getElem?_set_ne (by omega)]⟩
      · obtain ⟨B3, W3, l3, o3, s3, k3⟩ := z
        have a0 : ¬ (WA W0 u0 ∨ u0 = uT ∨ u0 ∈ pT :: qsT) := fun z => by
          rcases z with z | z | z
          · exact nw0 z
          · exact u0T z
          · exact (new f0').2.2.1 z
        have aN : ¬ (WA W0 uN ∨ uN = uT ∨ uN ∈ pT :: qsT) := fun z => by
          rcases z with z | z | z
          · exact nwN z
          · exact uTN z.symm
          · exact (new fN').2.2.1 z
        have aR : ∀ a ∈ pN :: qsN, ¬ (WA W0 a ∨ a = uT ∨ a ∈ pT :: qsT) := fun a h z => by
          rcases z with z | z | z
          · exact (w0 a z).2.2 h
          · exact (new fT).2.2.2 (z ▸ h)
          · exact apart a z h
        have h03 := l3.ex _ _ h0 a0
        refine .inr ⟨⟨_, .ref uN, SqL.of h03, rfl⟩, S2, fun σ2 H2 z => ⟨0, by decide, .inr (.inr ⟨rfl, rfl, z⟩)⟩, fun x Hx hy => ?_⟩
        obtain ⟨rfl, f⟩ := hy
        have ex := f _ (SqL.of h03)
        cases (show x = V.ref uN from (Option.some.inj ex).symm)
        show tSeq _ _ _ (σ'.set r (some (.ref uN))) _
        have here5 : ∀ a, a = uN ∨ a ∈ pN :: qsN → H5 a ≠ none := fun a h => by
          rcases h with y | y
          · rw [y, aN5]
            exact fun z => nomatch z
          · obtain ⟨o, ho⟩ := x5N.here a y
            rw [ho]
            exact fun z => nomatch z
        have outN : ∀ a, a = uN ∨ a ∈ pN :: qsN → ¬ (WA W0 a ∨ a = uT ∨ a ∈ pT :: qsT) ∧ B a = none := fun a h => by
          rcases h with y | y
          · rw [y]; exact ⟨aN, (new fN').1⟩
          · exact ⟨aR a y, bN a y⟩
        refine turn7 (ρ := ρ2) (W := W3) h2 hnw on ow or_ rn rw_ rl2 nl2 wl2 mn mw l3.sub (s3.drop r (.ref uN) or_) (List.getElem?_set_self (by rw [s3.len]; exact rl2)) (x5N.up l3 aR) okN (l3.ex _ _ aN5 aN) (new fN').2.2.2 (fun a ha => ?_) f3 fun σ4 B4 H4 W4 l4 o4 s4 k4 => ?_
        · obtain ⟨h1, h2⟩ := outN a ha
          refine ⟨l3.old a h2 (here5 a ha) h1, fun z => ?_⟩
          rcases o3 a z with y | y
          · exact h1 (.inl y)
          · exact here5 a ha y
        · have back : ∀ a, H5 a = none → H a = none := fun a h => by
            cases e : H a with
            | none => rfl
            | some o => rw [l5.ex _ _ e] at h; exact nomatch h
          have cov3 : ∀ a, WA W3 a → WA W a ∨ H a = none := fun a z => (o3 a z).elim (fun y => .inl (w0 a y).1) fun y => .inr (back a y)
          refine ⟨l4.ex _ _ h03 fun z => ?_, B4, W4, ⟨((l5.lo (A := WA W)).tr l3 fun a z => ?_).tr l4 fun a z => ?_, fun a z => ?_⟩, s4, fun i hi => ?_⟩
          · rcases z with z | z | z
            · rcases o3 _ z with y | y
              · exact nw0 y
              · rw [h0] at y
                exact nomatch y
            · exact u0N z
            · exact (new f0').2.2.2 z
          · rcases z with z | z | z
            · exact .inl (w0 a z).1
            · exact .inr (z ▸ fT)
            · exact .inl ⟨iT, xT.inn a z⟩
          · rcases z with z | z | z
            · exact cov3 a z
            · exact .inr (z ▸ fN')
            · exact .inl ⟨iN, xN.inn a z⟩
          · rcases o4 a z with y | y
            · exact cov3 a y
            · exact .inr (back a (l3.back y))
          · rw [k4 i hi, List.getElem?_set_ne (by omega)]
            exact k3 i hi
      · obtain ⟨h04, B4, W4, g4, s4, k4⟩ := z
        exact .inl ⟨⟨_, SqL.of h04, Nat.le_refl _⟩, q σ' B4 H' W4 g4 s4 k4⟩
    all_goals exact .stuck
  all_goals exact .stuck
end
end TD
set_option maxHeartbeats 4000000
namespace TD
open PySem PySem.Spec PyProof.Rows L2
open Evl (Ex)
theorem atI_back {α : Type} {xs : List α} {u : α} {k : Nat} (hk : k < xs.length) (h : xs[xs.length - 1 - k]? = some u) : atI xs (Int.negSucc k) = some u := by
  have e1 : ¬ (0 : Int) ≤ Int.negSucc k := by omega
  have e2 : -(xs.length : Int) ≤ Int.negSucc k := by omega
  have e3 : (Int.negSucc k + (xs.length : Int)).toNat = xs.length - 1 - k := by omega
  unfold atI ixN
  rw [if_neg e1, if_pos e2, e3]
  exact h
def gIxLN : PyData → PyData → Option PyData
  | .list ds, .int (.negSucc k) => match decide (k < ds.length) with
    | true => ds[ds.length - 1 - k]?
    | false => none
  | _, _ => none
section
variable {K : Fg}
theorem o_ixLN : Op2 K (rIxL K) gIxLN := fun x y z h => by
  unfold gIxLN at h
  split at h
  · next ds k =>
    split at h
    · next hk =>
      have hk := of_decide_eq_true hk
      intro v w B H s h1 h2 Q q
      cases h2
      cases h1 with
      | @lst p vs _ hp hv =>
        obtain ⟨u, hu, du⟩ := das_at hv h
        have hl := hv.len
        exact ⟨p, vs, _, u, rfl, rfl, SqL.of (s _ _ hp), atI_back (by omega) (by rw [hl]; exact hu), q _ _ _ (Le.rfl' s) du⟩
    · exact nomatch h
  · exact nomatch h
end
end TD
namespace TD
open PySem PySem.Spec PyProof.Rows L2
def topS (i : Nat) : Stmt := PySem.Challenge.pw_timedoors_k07_whole_light.main.body.getD i (.Pass ⟨0, 0, 0, 0⟩)
end TD
set_option maxHeartbeats 4000000
namespace TD
open PySem PySem.Spec PyProof.Rows L2
open Evl (Ex)
structure Bl (mg : Str → Option Value) : Prop where
  isinstance : mg "isinstance" = none
  int : mg "int" = none
  bool : mg "bool" = none
  list : mg "list" = none
  tuple : mg "tuple" = none
  len : mg "len" = none
  all : mg "all" = none
section
variable {P : Program} {w : World} {K : Fg} {mg : Str → Option Value} {base : Heap}
abbrev s_is_whole : Stmt := topS 6
def R_is_whole : List PyData → PyData → Prop := fun ds d => ∃ x, ds = [x] ∧ d = .bool (isWhole x)
theorem f_is_whole (T : Bl mg) (a : At K mg "is_whole" s_is_whole) : Fc P w K mg base "is_whole" ["value"] 1 (SpR K R_is_whole) := by
  have S : FnScope ["value"] ["value"] (defScope s_is_whole) := ⟨rfl, rfl, rfl, by decide +kernel, rfl, by decide +kernel, by decide +kernel⟩
  refine fc_mk a S (fun _ _ _ _ _ _ us hl => match us, hl with | [_], _ => rfl) (by rintro _ _ ⟨x, rfl, rfl⟩; rfl) fun f cdv A outer s H E gu hr => ⟨_, (pss_one (ps_ret (pe_and (pe_callB call_isi (by rfl) T.isinstance (by decide +kernel) (pa_cons (pv 0) (pa_cons (pe_bltn (v := .ty "int") (by rfl) T.int boot_int rfl) pa_nil))) (pe_one (pe_not (pe_callB call_isi (by rfl) T.isinstance (by decide +kernel) (pa_cons (pv 0) (pa_cons (pe_bltn (v := .ty "bool") (by rfl) T.bool boot_bool rfl) pa_nil)))))))), ?_⟩
  rintro _ _ ⟨x, rfl, rfl⟩
  exact xr_ret (xs_ret (ed_and (ed_isi (ed_var rfl)) fun _ => ed_not (ed_isi (ed_var rfl))))
abbrev s_is_count : Stmt := topS 7
def R_is_count : List PyData → PyData → Prop := fun ds d => ∃ x, ds = [x] ∧ d = .bool (isCount x)
theorem f_is_count (a : At K mg "is_count" s_is_count) (c_is_whole : Fc P w K mg base "is_whole" ["value"] 1 (SpR K R_is_whole)) : Fc P w K mg base "is_count" ["value"] 2 (SpR K R_is_count) := by
  have S : FnScope ["value"] ["value"] (defScope s_is_count) := ⟨rfl, rfl, rfl, by decide +kernel, rfl, by decide +kernel, by decide +kernel⟩
  refine fc_mk a S (fun _ _ _ _ _ _ us hl => match us, hl with | [_], _ => rfl) (by rintro _ _ ⟨x, rfl, rfl⟩; rfl) fun f cdv A outer s H E gu hr => ⟨_, (pss_one (ps_ret (pe_and (pe_f c_is_whole gu (hr.mono (by decide)) (by rfl) (pa_cons (pv 0) pa_nil)) (pe_one (pe_cmpR op_ge (pv 0) pe_int (nomark _)))))), ?_⟩
  rintro _ _ ⟨x, rfl, rfl⟩
  cases hx : isWhole x with
  | false =>
    refine xr_ret (xs_ret (ed_is (ed_and (a := false) (b := false) (ed_call (ea_cons (ed_var rfl) ea_nil) ⟨x, rfl, by rw [hx]⟩) (fun z => nomatch z)) ?_))
    cases x <;> first | rfl | exact nomatch (show true = false from hx)
  | true =>
    obtain ⟨i, rfl⟩ := whole_int hx
    exact xr_ret (xs_ret (ed_and (a := true) (b := decide (0 ≤ i)) (ed_call (ea_cons (ed_var rfl) ea_nil) ⟨_, rfl, by rw [hx]⟩) (fun _ => ed_op (ed_var rfl) ed_int r_Ib)))
abbrev s_is_tuple_of : Stmt := topS 8
def R_is_tuple_of : List PyData → PyData → Prop := fun ds d => ∃ (n : Int) (x : PyData), ds = [.int n, x] ∧ d = .bool (isTup n x)
theorem f_is_tuple_of (T : Bl mg) (a : At K mg "is_tuple_of" s_is_tuple_of) : Fc P w K mg base "is_tuple_of" ["many", "value"] 1 (SpR K R_is_tuple_of) := by
  have S : FnScope ["many", "value"] ["many", "value"] (defScope s_is_tuple_of) := ⟨rfl, rfl, rfl, by decide +kernel, rfl, by decide +kernel, by decide +kernel⟩
  refine fc_mk a S (fun _ _ _ _ _ _ us hl => match us, hl with | [_, _], _ => rfl) (by rintro _ _ ⟨n, x, rfl, rfl⟩; rfl) fun f cdv A outer s H E gu hr => ?_
  have hc : (cxOf CX0 P w K mg base ["many", "value"] "is_tuple_of" (defScope s_is_tuple_of) f cdv A outer s H E).nox.calm = true := rfl
  refine ⟨_, (pss_one (ps_ret (pe_and (pe_callB call_isi (by rfl) T.isinstance (by decide +kernel) (pa_cons (pv 1) (pa_cons (pe_bltn (v := .ty "tuple") (by rfl) T.tuple boot_tuple rfl) pa_nil))) (pe_one (pe_cmpR op_eq (pe_callB call_len_seq (by rfl) T.len (by decide +kernel) (pa_cons (pv 1) pa_nil)) (pv 0) (nomark _)))))), ?_⟩
  rintro _ _ ⟨n, x, rfl, rfl⟩
  cases x with
  | tuple ds => exact xr_ret (xs_ret (ed_is (ed_and (ed_isi (ed_var rfl)) fun _ => ed_op (ed_cb (ea_cons (ed_var rfl) ea_nil) rc_lenT) (ed_var rfl) r_eqI) rfl))
  | _ => exact xr_ret (xs_ret (ed_is (ed_and (b := false) (ed_isi (ed_var rfl)) (fun z => nomatch (show false = true from z))) rfl))
abbrev s_fits_room : Stmt := topS 9
def R_fits_room : List PyData → PyData → Prop := fun ds d => ∃ (r : Int) (x : PyData), ds = [.int r, x] ∧ d = .bool (fitsRoom r x)
theorem f_fits_room (a : At K mg "fits_room" s_fits_room) (c_is_count : Fc P w K mg base "is_count" ["value"] 2 (SpR K R_is_count)) : Fc P w K mg base "fits_room" ["rooms", "value"] 3 (SpR K R_fits_room) := by
  have S : FnScope ["rooms", "value"] ["rooms", "value"] (defScope s_fits_room) := ⟨rfl, rfl, rfl, by decide +kernel, rfl, by decide +kernel, by decide +kernel⟩
  refine fc_mk a S (fun _ _ _ _ _ _ us hl => match us, hl with | [_, _], _ => rfl) (by rintro _ _ ⟨n, x, rfl, rfl⟩; rfl) fun f cdv A outer s H E gu hr => ?_
  have hc : (cxOf CX0 P w K mg base ["rooms", "value"] "fits_room" (defScope s_fits_room) f cdv A outer s H E).nox.calm = true := rfl
  refine ⟨_, (pss_one (ps_ret (pe_and (pe_f c_is_count gu (hr.mono (by decide)) (by rfl) (pa_cons (pv 1) pa_nil)) (pe_one (pe_cmpR op_lt (pv 1) (pv 0) (nomark _)))))), ?_⟩
  rintro _ _ ⟨r, x, rfl, rfl⟩
  cases x with
  | int i => exact xr_ret (xs_ret (ed_and (ed_call (ea_cons (ed_var rfl) ea_nil) ⟨_, rfl, rfl⟩) fun _ => ed_op (ed_var rfl) (ed_var rfl) r_Ib))
  | _ => exact xr_ret (xs_ret (ed_is (ed_and (b := false) (ed_call (ea_cons (ed_var rfl) ea_nil) ⟨_, rfl, rfl⟩) (fun z => nomatch (show false = true from z))) rfl))
abbrev s_fits_lights : Stmt := topS 10
def R_fits_lights : List PyData → PyData → Prop := fun ds d => ∃ (r : Int) (x : PyData), ds = [.int r, x] ∧ d = .bool (fitsLights r x)
theorem f_fits_lights (T : Bl mg) (a : At K mg "fits_lights" s_fits_lights) (c_fits_room : Fc P w K mg base "fits_room" ["rooms", "value"] 3 (SpR K R_fits_room)) : Fc P w K mg base "fits_lights" ["rooms", "value"] 4 (SpR K R_fits_lights) := by
  have S : FnScope ["rooms", "value", "ahead", "room"] ["rooms", "value"] (defScope s_fits_lights) := ⟨rfl, rfl, rfl, by decide +kernel, rfl, by decide +kernel, by decide +kernel⟩
  refine fc_mk a S (fun _ _ _ _ _ _ us hl => match us, hl with | [_, _], _ => rfl) (by rintro _ _ ⟨n, x, rfl, rfl⟩; rfl) fun f cdv A outer s H E gu hr => ?_
  have hc : (cxOf CX0 P w K mg base ["rooms", "value", "ahead", "room"] "fits_lights" (defScope s_fits_lights) f cdv A outer s H E).nox.calm = true := rfl
  refine ⟨_, (pss_cons (ps_if (pt_not (pt_val (pe_callB call_isi (by rfl) T.isinstance (by decide +kernel) (pa_cons (pv 1) (pa_cons (pe_bltn (v := .ty "list") (by rfl) T.list boot_list rfl) pa_nil))))) (pss_one (ps_ret pe_bl)) pss_nil)
  (pss_cons (ps_set (i := 2) S.nd rfl (by first | exact Or.inl rfl | exact Or.inr rfl) (pe_un un_neg pe_int))
  (pss_cons (ps_for PassesOwn.never hc (pi_list (pv 1)) (pg_name (i := 3) S.nd rfl (by first | exact Or.inl rfl | exact Or.inr rfl))
    (pss_cons (ps_if (PW.pt (pw_or (pt_not (pt_val (pe_f c_fits_room gu (hr.mono (by decide)) (by rfl) (pa_cons (pv 0) (pa_cons (pv 3) pa_nil))))) (pw_or1 (pt_cmpR op_le (pv 3) (pv 2) (nomark _))))) (pss_one (ps_ret pe_bl)) pss_nil)
  (pss_one (ps_set (i := 2) S.nd rfl (by first | exact Or.inl rfl | exact Or.inr rfl) (pv 3)))))
  (pss_one (ps_ret pe_bl))))), ?_⟩
  rintro _ _ ⟨r, x, rfl, rfl⟩
  cases x with
  | list es =>
    refine xr_ret (xs_seq (xs_if (et_not (et_B (ed_isi (ed_var rfl)))) (fun z => nomatch (show false = true from z)) fun _ => xs_next) (xs_seq (xs_asg ed_neg1) ?_))
    show XS K _ [some (.int r), some (.list es), some (.int (-1)), none] _
    have key : ∀ (ds : List PyData) (a : Int) (o : Option PyData), (asc r a ds = true → ∃ b o', XF K (gName 3) (tSeq (tIfS (tOr (tNot (tB (tCall (SpR K R_fits_room) [] E0 (tCons (tVar 0) (tCons (tVar 3) tNil))))) (tTest (tOp (rI0 fun i j => .bl (decide (i ≤ j))) (tVar 3) (tVar 2)))) (tRet (tC (.bl false))) tNext) (tAsg (tVar 3) (gName 2))) ds [some (.int r), some (.list es), some (.int a), o] (.nx [some (.int r), some (.list es), some (.int b), o'])) ∧
        (asc r a ds = false → XF K (gName 3) (tSeq (tIfS (tOr (tNot (tB (tCall (SpR K R_fits_room) [] E0 (tCons (tVar 0) (tCons (tVar 3) tNil))))) (tTest (tOp (rI0 fun i j => .bl (decide (i ≤ j))) (tVar 3) (tVar 2)))) (tRet (tC (.bl false))) tNext) (tAsg (tVar 3) (gName 2))) ds [some (.int r), some (.list es), some (.int a), o] (.ret (.bool false))) := by
      intro ds
      induction ds with
      | nil => exact fun a o => ⟨fun _ => ⟨a, o, .nil⟩, fun z => nomatch (show true = false from z)⟩
      | cons x ds ih =>
        intro a o
        cases x with
        | int i =>
          have e : asc r a (.int i :: ds) = ((decide (0 ≤ i) && decide (i < r)) && (decide (a < i) && asc r i ds)) := rfl
          have t1 : ET K (tNot (tB (tCall (SpR K R_fits_room) [] E0 (tCons (tVar 0) (tCons (tVar 3) tNil))))) [some (.int r), some (.list es), some (.int a), some (.int i)] (!(decide (0 ≤ i) && decide (i < r))) :=
            et_not (et_B (ed_call (ea_cons (ed_var rfl) (ea_cons (ed_var rfl) ea_nil)) ⟨_, _, rfl, rfl⟩))
          have t2 : ET K (tTest (tOp (rI0 fun i j => .bl (decide (i ≤ j))) (tVar 3) (tVar 2))) [some (.int r), some (.list es), some (.int a), some (.int i)] (decide (i ≤ a)) := et_test (ed_op (ed_var rfl) (ed_var rfl) r_Ib)
          have t3 := et_or t1 (fun _ => t2)
          cases h1 : (decide (0 ≤ i) && decide (i < r)) with
          | false =>
            rw [h1] at e t3
            refine ⟨(fun z => nomatch (e.symm.trans z)), fun _ => .ret tg_name (xs_leave (xs_if t3 (fun _ => xs_ret ed_bl) (fun z => nomatch (show true = false from z))) trivial)⟩
          | true =>
            rw [h1] at e t3
            by_cases h2 : a < i
            · have e2 : decide (i ≤ a) = false := decide_eq_false (by omega)
              rw [decide_eq_true h2] at e
              rw [e2] at t3
              obtain ⟨k1, k2⟩ := ih i (some (.int i))
              refine ⟨fun z => ?_, fun z => ?_⟩
              · obtain ⟨b, o', f⟩ := k1 (e.symm.trans z)
                exact ⟨b, o', .go tg_name (xs_seq (xs_if t3 (fun z => nomatch (show false = true from z)) (fun _ => xs_next)) (xs_asg (ed_var rfl))) f⟩
              · exact .go tg_name (xs_seq (xs_if t3 (fun z => nomatch (show false = true from z)) (fun _ => xs_next)) (xs_asg (ed_var rfl))) (k2 (e.symm.trans z))
            · have e2 : decide (i ≤ a) = true := decide_eq_true (by omega)
              rw [decide_eq_false h2] at e
              rw [e2] at t3
              refine ⟨(fun z => nomatch (e.symm.trans z)), fun _ => .ret tg_name (xs_leave (xs_if t3 (fun _ => xs_ret ed_bl) (fun z => nomatch (show true = false from z))) trivial)⟩
        | _ =>
          refine ⟨(fun z => nomatch (show false = true from z)), fun _ => .ret tg_name (xs_leave (xs_if (et_or (b := true) (et_not (et_B (ed_call (ea_cons (ed_var rfl) (ea_cons (ed_var rfl) ea_nil)) ⟨_, _, rfl, rfl⟩))) (fun z => nomatch (show true = false from z))) (fun _ => xs_ret ed_bl) (fun z => nomatch (show true = false from z))) trivial)⟩
    obtain ⟨k1, k2⟩ := key es (-1) none
    cases h : asc r (-1) es with
    | true =>
      obtain ⟨b, o', f⟩ := k1 h
      refine xs_seq (xs_forL (ed_var rfl) f) (xs_is (xs_ret ed_bl) ?_)
      show Out.ret (.bool true) = Out.ret (.bool (asc r (-1) es))
      rw [h]
    | false =>
      refine xs_leave (xs_is (xs_forL (ed_var rfl) (k2 h)) ?_) trivial
      show Out.ret (.bool false) = Out.ret (.bool (asc r (-1) es))
      rw [h]
  | _ => exact xr_ret (xs_leave (xs_if (et_not (et_B (ed_isi (ed_var rfl)))) (fun _ => xs_ret ed_bl) (fun z => nomatch (show true = false from z))) trivial)
abbrev s_fits_presses : Stmt := topS 11
def R_fits_presses : List PyData → PyData → Prop := fun ds d => ∃ (r : Int) (x : PyData), ds = [.int r, x] ∧ Sm x ∧ d = .bool (fitsPresses r x)
theorem f_fits_presses (T : Bl mg) (a : At K mg "fits_presses" s_fits_presses) (c_fits_lights : Fc P w K mg base "fits_lights" ["rooms", "value"] 4 (SpR K R_fits_lights)) : Fc P w K mg base "fits_presses" ["rooms", "value"] 5 (SpR K R_fits_presses) := by
  have S : FnScope ["rooms", "value", "lights"] ["rooms", "value"] (defScope s_fits_presses) := ⟨rfl, rfl, rfl, by decide +kernel, rfl, by decide +kernel, by decide +kernel⟩
  refine fc_mk a S (fun _ _ _ _ _ _ us hl => match us, hl with | [_, _], _ => rfl) (by rintro _ _ ⟨r, x, rfl, _⟩; rfl) fun f cdv A outer s H E gu hr => ?_
  have hc : (cxOf CX0 P w K mg base ["rooms", "value", "lights"] "fits_presses" (defScope s_fits_presses) f cdv A outer s H E).nox.calm = true := rfl
  refine ⟨_, (pss_one (ps_ret (pe_and (pe_callB call_isi (by rfl) T.isinstance (by decide +kernel) (pa_cons (pv 1) (pa_cons (pe_bltn (v := .ty "list") (by rfl) T.list boot_list rfl) pa_nil))) (pe_one (pe_callB (cr_all hc) (by rfl) T.all (by decide +kernel) (pa_cons (pe_lc (own := [("lights", 2)]) hc S.nd (pi_list (pv 1)) (blkOk_by (N := ["rooms", "value", "lights"]) (sc := defScope s_fits_presses) (by decide +kernel)) (fun _ _ _ _ _ => (pg_name (i := 2) S.nd rfl (by first | exact Or.inl rfl | exact Or.inr rfl))) (fun _ _ _ _ _ => pts_nil) (fun _ _ _ _ _ => (pe_f c_fits_lights gu (hr.mono (by decide)) (by rfl) (pa_cons (pv 0) (pa_cons (pv 2) pa_nil))))) pa_nil)))))), ?_⟩
  rintro _ _ ⟨r, x, rfl, hs, rfl⟩
  cases x with
  | list es => exact xr_ret (xs_ret (ed_is (ed_and (ed_isi (ed_var rfl)) fun _ => ed_allL (fitsLights r) (ed_var rfl) (by decide) (Nat.le_trans (hs es (.inl rfl)) (by decide)) fun d _ => ed_call (ea_cons (ed_var rfl) (ea_cons (ed_var rfl) ea_nil)) ⟨_, _, rfl, rfl⟩) rfl))
  | _ => exact xr_ret (xs_ret (ed_is (ed_and (b := false) (ed_isi (ed_var rfl)) (fun z => nomatch (show false = true from z))) rfl))
structure BN (mg : Str → Option Value) (t0 : Tok) : Prop where
  NEXT : mg "NEXT" = some (.int 1 t0)
def isShiftW (q : Int) : PyData → Bool
  | .int i => decide (-q ≤ i) && decide (i ≤ q)
  | _ => false
def fitsDoorW (q r : Int) : PyData → Bool
  | .tuple [n, m, s] => fitsLights r n && (fitsRoom r m && isShiftW q s)
  | _ => false
theorem fitsDoorW_one (r : Int) (x : PyData) : fitsDoorW 1 r x = fitsDoor r x := by
  cases x with
  | tuple ds => match ds with
    | [n, m, s] =>
      show (fitsLights r n && (fitsRoom r m && isShiftW 1 s)) = (fitsLights r n && (fitsRoom r m && isShift s))
      cases s <;> rfl
    | [] => rfl
    | [_] => rfl
    | [_, _] => rfl
    | _ :: _ :: _ :: _ :: _ => rfl
  | _ => rfl
theorem tup3_of {x : PyData} (h3 : isTup 3 x = true) : ∃ n m q, x = .tuple [n, m, q] := by
  cases x with
  | tuple ds => match ds, h3 with
    | [n, m, q], _ => exact ⟨n, m, q, rfl⟩
    | [], h => exact nomatch (show false = true from h)
    | [_], h => exact nomatch (show false = true from h)
    | [_, _], h => exact nomatch (show false = true from h)
    | _ :: _ :: _ :: _ :: _, h =>
      simp [isTup] at h
      omega
  | _ => exact nomatch (show false = true from h3)
theorem tup2_of {x : PyData} (h2 : isTup 2 x = true) : ∃ n m, x = .tuple [n, m] := by
  cases x with
  | tuple ds => match ds, h2 with
    | [n, m], _ => exact ⟨n, m, rfl⟩
    | [], h => exact nomatch (show false = true from h)
    | [_], h => exact nomatch (show false = true from h)
    | _ :: _ :: _ :: _, h =>
      simp [isTup] at h
      omega
  | _ => exact nomatch (show false = true from h2)
abbrev s_fits_door_within : Stmt := topS 13
def R_fits_door_within : List PyData → PyData → Prop := fun ds d => ∃ (r q : Int) (x : PyData), ds = [.int r, x, .int q] ∧ d = .bool (fitsDoorW q r x)
theorem f_fits_door_within (a : At K mg "fits_door_within" s_fits_door_within) (c_is_tuple_of : Fc P w K mg base "is_tuple_of" ["many", "value"] 1 (SpR K R_is_tuple_of)) (c_fits_lights : Fc P w K mg base "fits_lights" ["rooms", "value"] 4 (SpR K R_fits_lights)) (c_fits_room : Fc P w K mg base "fits_room" ["rooms", "value"] 3 (SpR K R_fits_room)) (c_is_whole : Fc P w K mg base "is_whole" ["value"] 1 (SpR K R_is_whole)) : Fc P w K mg base "fits_door_within" ["rooms", "value", "farthest"] 5 (SpR K R_fits_door_within) := by
  have S : FnScope ["rooms", "value", "farthest", "needs", "room", "shift"] ["rooms", "value", "farthest"] (defScope s_fits_door_within) := ⟨rfl, rfl, rfl, by decide +kernel, rfl, by decide +kernel, by decide +kernel⟩
  refine fc_mk a S (fun _ _ _ _ _ _ us hl => match us, hl with | [_, _, _], _ => rfl) (by rintro _ _ ⟨r, q, x, rfl, _⟩; rfl) fun f cdv A outer s H E gu hr => ?_
  have hc : (cxOf CX0 P w K mg base ["rooms", "value", "farthest", "needs", "room", "shift"] "fits_door_within" (defScope s_fits_door_within) f cdv A outer s H E).nox.calm = true := rfl
  refine ⟨_, (pss_cons (ps_if (pt_not (pt_val (pe_f c_is_tuple_of gu (hr.mono (by decide)) (by rfl) (pa_cons pe_int (pa_cons (pv 1) pa_nil))))) (pss_one (ps_ret pe_bl)) pss_nil)
  (pss_cons (ps_asg (pv 1) (pg_tup hc (pgs_cons (pg_name (i := 3) S.nd rfl (by first | exact Or.inl rfl | exact Or.inr rfl)) (pgs_cons (pg_name (i := 4) S.nd rfl (by first | exact Or.inl rfl | exact Or.inr rfl)) (pgs_cons (pg_name (i := 5) S.nd rfl (by first | exact Or.inl rfl | exact Or.inr rfl)) pgs_nil)))))
  (pss_cons (ps_if (PW.pt (pw_or (pt_not (pt_val (pe_f c_fits_lights gu (hr.mono (by decide)) (by rfl) (pa_cons (pv 0) (pa_cons (pv 3) pa_nil))))) (pw_or1 (pt_not (pt_val (pe_f c_fits_room gu (hr.mono (by decide)) (by rfl) (pa_cons (pv 0) (pa_cons (pv 4) pa_nil)))))))) (pss_one (ps_ret pe_bl)) pss_nil)
  (pss_one (ps_ret (pe_and (pe_f c_is_whole gu (hr.mono (by decide)) (by rfl) (pa_cons (pv 5) pa_nil)) (pe_one (pe_chain op_le op_le (pe_un un_neg (pv 2)) (pv 5) (pv 2) (by with_unfolding_all rfl))))))))), ?_⟩
  rintro _ _ ⟨r, q, x, rfl, rfl⟩
  have no : isTup 3 x = false → fitsDoorW q r x = false := by
    intro h
    cases x with
    | tuple ds => match ds, h with
      | [], _ => rfl
      | [_], _ => rfl
      | [_, _], _ => rfl
      | _ :: _ :: _ :: _ :: _, _ => rfl
      | [_, _, _], h => exact nomatch (show true = false from h)
    | _ => rfl
  cases h3 : isTup 3 x with
  | false => exact xr_ret (xs_leave (xs_if (et_not (a := false) (et_B (ed_call (ea_cons ed_int (ea_cons (ed_var rfl) ea_nil)) ⟨_, _, rfl, by rw [h3]⟩))) (fun _ => xs_is (xs_ret ed_bl) (by rw [no h3])) (fun z => nomatch (show true = false from z))) trivial)
  | true =>
    obtain ⟨n, m, s', rfl⟩ := tup3_of h3
    refine xr_ret (xs_seq (xs_if (et_not (et_B (ed_call (ea_cons ed_int (ea_cons (ed_var rfl) ea_nil)) ⟨_, _, rfl, rfl⟩))) (fun z => nomatch (show false = true from z)) (fun _ => xs_next)) (xs_seq (xs_asgG (ed_var rfl) (tg_tup (tgs_cons tg_name (tgs_cons tg_name (tgs_cons tg_name tgs_nil))))) ?_))
    have t1 : ET K _ [some (.int r), some (.tuple [n, m, s']), some (.int q), some n, some m, some s'] _ := et_or (et_not (et_B (ed_call (K := K) (R := R_fits_lights) (E := E0) (ea_cons (ed_var (i := 0) rfl) (ea_cons (ed_var (i := 3) rfl) ea_nil)) ⟨_, _, rfl, rfl⟩))) fun _ => et_not (et_B (ed_call (K := K) (R := R_fits_room) (E := E0) (ea_cons (ed_var (i := 0) rfl) (ea_cons (ed_var (i := 4) rfl) ea_nil)) ⟨_, _, rfl, rfl⟩))
    have e : fitsDoorW q r (.tuple [n, m, s']) = (fitsLights r n && (fitsRoom r m && isShiftW q s')) := rfl
    cases h1 : fitsLights r n with
    | false =>
      rw [h1] at t1 e
      exact xs_leave (xs_if t1 (fun _ => xs_is (xs_ret ed_bl) (by rw [e]; rfl)) (fun z => nomatch (show true = false from z))) trivial
    | true =>
      cases h2 : fitsRoom r m with
      | false =>
        rw [h1, h2] at t1 e
        exact xs_leave (xs_if t1 (fun _ => xs_is (xs_ret ed_bl) (by rw [e]; rfl)) (fun z => nomatch (show true = false from z))) trivial
      | true =>
        rw [h1, h2] at t1 e
        refine xs_seq (xs_if t1 (fun z => nomatch (show false = true from z)) (fun _ => xs_next)) (xs_ret ?_)
        rw [e]
        cases s' with
        | int i => exact ed_is (ed_and (a := true) (b := decide (-q ≤ i) && decide (i ≤ q)) (ed_call (ea_cons (ed_var (i := 5) rfl) ea_nil) ⟨_, rfl, rfl⟩) fun _ => ed_chain (ed_un (ed_var (i := 2) rfl) r1_neg) (ed_var (i := 5) rfl) r_Ib (fun _ => ed_var (i := 2) rfl) (fun _ => r_Ib)) rfl
        | _ => exact ed_is (ed_and (a := false) (b := false) (ed_call (ea_cons (ed_var (i := 5) rfl) ea_nil) ⟨_, rfl, rfl⟩) (fun z => nomatch z)) rfl
abbrev s_fits_door : Stmt := topS 12
def R_fits_door : List PyData → PyData → Prop := fun ds d => ∃ (r : Int) (x : PyData), ds = [.int r, x] ∧ d = .bool (fitsDoor r x)
theorem f_fits_door {t0 : Tok} (T : BN mg t0) (a : At K mg "fits_door" s_fits_door) (c_fits_door_within : Fc P w K mg base "fits_door_within" ["rooms", "value", "farthest"] 5 (SpR K R_fits_door_within)) : Fc P w K mg base "fits_door" ["rooms", "value"] 6 (SpR K R_fits_door) := by
  have S : FnScope ["rooms", "value"] ["rooms", "value"] (defScope s_fits_door) := ⟨rfl, rfl, rfl, by decide +kernel, rfl, by decide +kernel, by decide +kernel⟩
  refine fc_mk a S (fun _ _ _ _ _ _ us hl => match us, hl with | [_, _], _ => rfl) (by rintro _ _ ⟨r, x, rfl, _⟩; rfl) fun f cdv A outer s H E gu hr => ⟨_, (pss_one (ps_ret (pe_f c_fits_door_within gu (hr.mono (by decide)) (by rfl) (pa_cons (pv 0) (pa_cons (pv 1) (pa_cons (pe_glob (v := .int 1) (by rfl) T.NEXT ⟨_, rfl⟩) pa_nil)))))), ?_⟩
  rintro _ _ ⟨r, x, rfl, rfl⟩
  rw [← fitsDoorW_one]
  exact xr_ret (xs_ret (ed_call (ea_cons (ed_var rfl) (ea_cons (ed_var rfl) (ea_cons ed_int ea_nil))) ⟨_, _, _, rfl, rfl⟩))
def fitsLevelW2 (g : Int → PyData → Bool) : PyData → PyData → Bool
  | .int r, .list ds => decide (1 ≤ r) && ds.all (g r)
  | _, _ => false
def fitsLevelW (g : Int → PyData → Bool) : PyData → Bool
  | .tuple [a, b] => fitsLevelW2 g a b
  | _ => false
theorem fitsLevelW_door (x : PyData) : fitsLevelW fitsDoor x = fitsLevel x := by
  cases x with
  | tuple ds => match ds with
    | [a, b] => cases a <;> cases b <;> rfl
    | [] => rfl
    | [_] => rfl
    | _ :: _ :: _ :: _ => rfl
  | _ => rfl
def R_one (g : Int → PyData → Bool) : List PyData → PyData → Prop := fun ds d => ∃ (r : Int) (x : PyData), ds = [.int r, x] ∧ d = .bool (g r x)
abbrev s_fits_level_with : Stmt := topS 15
def SpW (K : Fg) (one : Addr) (g : Int → PyData → Bool) : Sp := fun vs H Q _ => ∃ B v x, vs = [v, .ref one] ∧ Ex B H ∧ Da K B v x ∧ (∀ r es, x = .tuple [r, .list es] → es.length ≤ 30000) ∧ ∀ u B' H', Le B H B' H' → Da K B' u (.bool (fitsLevelW g x)) → Q u H'
theorem f_fits_level_with (T : Bl mg) (a : At K mg "fits_level_with" s_fits_level_with) (c_is_tuple_of : Fc P w K mg base "is_tuple_of" ["many", "value"] 1 (SpR K R_is_tuple_of)) (c_is_whole : Fc P w K mg base "is_whole" ["value"] 1 (SpR K R_is_whole)) {one : Addr} {g : Int → PyData → Bool} (hone : CPc P w K mg base 6 one (SpR K (R_one g))) : Fc P w K mg base "fits_level_with" ["value", "fits_one"] 7 (SpW K one g) := by
  have S : FnScope ["value", "fits_one", "rooms", "doors", "door"] ["value", "fits_one"] (defScope s_fits_level_with) := ⟨rfl, rfl, rfl, by decide +kernel, rfl, by decide +kernel, by decide +kernel⟩
  refine fcg_mk a S (fun _ _ _ _ _ _ us hl => match us, hl with | [_, _], _ => rfl) (by rintro _ _ _ _ ⟨_, _, _, rfl, _⟩; rfl) fun f cdv A outer s H vs Q E gu hr h => ?_
  have hc : (cxOf CX0 P w K mg base ["value", "fits_one", "rooms", "doors", "door"] "fits_level_with" (defScope s_fits_level_with) f cdv A outer s H E).nox.calm = true := rfl
  obtain ⟨B, v, x, rfl, sx, dv, hz, q⟩ := h
  refine ⟨_, (pss_cons (ps_if (pt_not (pt_val (pe_f c_is_tuple_of gu (hr.mono (by decide)) (by rfl) (pa_cons pe_int (pa_cons (pv 0) pa_nil))))) (pss_one (ps_ret pe_bl)) pss_nil)
  (pss_cons (ps_asg (pv 0) (pg_tup hc (pgs_cons (pg_name (i := 2) S.nd rfl (by first | exact Or.inl rfl | exact Or.inr rfl)) (pgs_cons (pg_name (i := 3) S.nd rfl (by first | exact Or.inl rfl | exact Or.inr rfl)) pgs_nil))))
  (pss_cons (ps_if (PW.pt (pw_or (pt_not (pt_val (pe_f c_is_whole gu (hr.mono (by decide)) (by rfl) (pa_cons (pv 2) pa_nil)))) (pw_or (pt_cmpR op_lt (pv 2) pe_int (nomark _)) (pw_or1 (pt_not (pt_val (pe_callB call_isi (by rfl) T.isinstance (by decide +kernel) (pa_cons (pv 3) (pa_cons (pe_bltn (v := .ty "list") (by rfl) T.list boot_list rfl) pa_nil))))))))) (pss_one (ps_ret pe_bl)) pss_nil)
  (pss_one (ps_ret (pe_callB (cr_all hc) (by rfl) T.all (by decide +kernel) (pa_cons (pe_lc (own := [("door", 4)]) hc S.nd (pi_list (pv 3)) (blkOk_by (N := ["value", "fits_one", "rooms", "doors", "door"]) (sc := defScope s_fits_level_with) (by decide +kernel)) (fun _ _ _ _ _ => (pg_name (i := 4) S.nd rfl (by first | exact Or.inl rfl | exact Or.inr rfl))) (fun _ _ _ _ _ => pts_nil) (fun _ _ _ _ _ => (pe_callNc (k := 6) (CP := CPc P w K mg base 6) (fun _ _ h => h) gu (hr.mono (by decide)) (i := 1) rfl (by first | exact Or.inl rfl | exact Or.inr (Or.inl rfl) | exact Or.inr (Or.inr rfl)) (pa_cons (pv 2) (pa_cons (pv 4) pa_nil))))) pa_nil))))))), ?_⟩
  have sd : SD K B (L2.start ["value", "fits_one", "rooms", "doors", "door"] [v, .ref one]) [some x, none, none, none, none] := by
    refine ⟨rfl, fun i d e => ?_⟩
    match i, e with
    | 0, e =>
      cases e
      exact ⟨v, rfl, dv⟩
    | 1, e => exact nomatch (show (none : Option PyData) = some d from Option.some.inj e)
    | 2, e => exact nomatch (show (none : Option PyData) = some d from Option.some.inj e)
    | 3, e => exact nomatch (show (none : Option PyData) = some d from Option.some.inj e)
    | 4, e => exact nomatch (show (none : Option PyData) = some d from Option.some.inj e)
    | _ + 5, e => exact nomatch e
  let J : L2.St → Prop := fun σ => σ[1]? = some (some (.ref one))
  have js : J (L2.start ["value", "fits_one", "rooms", "doors", "door"] [v, .ref one]) := rfl
  have no : isTup 2 x = false → fitsLevelW g x = false := by
    intro h
    cases x with
    | tuple ds => match ds, h with
      | [], _ => rfl
      | [_], _ => rfl
      | _ :: _ :: _ :: _, _ => rfl
      | [_, _], h => exact nomatch (show true = false from h)
    | _ => rfl
  cases h2 : isTup 2 x with
  | false =>
    refine (xs_leave (o := .ret (.bool (fitsLevelW g x))) (xs_if (et_not (a := false) (et_B (ed_call (ea_cons ed_int (ea_cons (ed_var (i := 0) rfl) ea_nil)) ⟨_, _, rfl, by rw [h2]⟩))) (fun _ => xs_is (xs_ret ed_bl) (by rw [no h2])) (fun z => nomatch (show true = false from z))) trivial) _ B H _ sx sd q
  | true =>
    obtain ⟨n, m, rfl⟩ := tup2_of h2
    refine xss_seq (J := J) (ρ1 := [some (.tuple [n, m]), none, none, none, none]) (ks_skip (et_not (a := true) (et_B (ed_call (K := K) (R := R_is_tuple_of) (E := E0) (ea_cons (ed_int (i := 2)) (ea_cons (ed_var (i := 0) rfl) ea_nil)) ⟨2, .tuple [n, m], rfl, rfl⟩)))) (o := .ret (.bool (fitsLevelW g (.tuple [n, m])))) ?_ _ js B H _ sx sd q
    refine xss_seq (J := J) (ρ1 := [some (.tuple [n, m]), none, some n, some m, none]) (ks_asg2 (ed_var (i := 0) rfl) (fun σ a b h => by
      show ((σ.set 2 (some a)).set 3 (some b))[1]? = _
      rw [List.getElem?_set_ne (by decide), List.getElem?_set_ne (by decide)]
      exact h)) ?_
    cases hn : isWhole n with
    | false =>
      refine xss_of (xs_leave (xs_if (et_or (a := true) (b := true) (et_is (et_not (et_B (ed_call (ea_cons (ed_var (i := 2) rfl) ea_nil) ⟨_, rfl, rfl⟩))) (by rw [hn]; rfl)) (fun z => nomatch z)) (fun _ => xs_is (xs_ret ed_bl) ?_) (fun z => nomatch (show true = false from z))) trivial)
      cases n <;> first | rfl | exact nomatch (show true = false from hn)
    | true =>
      obtain ⟨r, rfl⟩ := whole_int hn
      have t1 : ET K _ [some (.tuple [.int r, m]), none, some (.int r), some m, none] _ := et_or (et_not (et_B (ed_call (K := K) (R := R_is_whole) (E := E0) (ea_cons (ed_var (i := 2) rfl) ea_nil) ⟨_, rfl, rfl⟩))) fun _ => et_or (et_test (ed_op (ed_var (i := 2) rfl) (ed_int (i := 1)) (r_Ib (g := fun i j => decide (i < j))))) fun _ => et_not (et_B (ed_isi (T := "list") (ed_var (i := 3) rfl)))
      by_cases h1 : r < 1
      · refine xss_of (xs_leave (xs_if (et_is t1 (b := true) ?_) (fun _ => xs_is (xs_ret ed_bl) ?_) (fun z => nomatch (show true = false from z))) trivial)
        · rw [decide_eq_true h1]
          rfl
        · show Out.ret (.bool false) = Out.ret (.bool (fitsLevelW g (.tuple [.int r, m])))
          cases m with
          | list es =>
            show Out.ret (.bool false) = Out.ret (.bool (decide (1 ≤ r) && es.all (g r)))
            rw [decide_eq_false (by omega)]
            rfl
          | _ => rfl
      · rw [decide_eq_false h1] at t1
        cases m with
        | list es =>
          refine xss_seq (J := J) (ks_skip t1) (xss_ret ?_)
          have e : fitsLevelW g (.tuple [.int r, .list es]) = es.all (g r) := by
            show (decide (1 ≤ r) && es.all (g r)) = es.all (g r)
            rw [decide_eq_true (by omega)]
            rfl
          rw [e]
          refine eds_allL (J := J) (g r) (ed_var (i := 3) rfl) (by decide) (Nat.le_trans (hz _ es rfl) (by decide)) (fun σ x h => by
            show ((L2.wipe σ [4]).set 4 (some x))[1]? = _
            rw [List.getElem?_set_ne (by decide)]
            show (σ.set 4 none)[1]? = _
            rw [List.getElem?_set_ne (by decide)]
            exact h) fun d _ => eds_callN hone (ea_cons (ed_var (i := 2) rfl) (ea_cons (ed_var (i := 4) rfl) ea_nil)) ⟨_, _, rfl, rfl⟩
        | _ => exact xss_of (xs_leave (xs_if t1 (fun _ => xs_ret ed_bl) (fun z => nomatch (show true = false from z))) trivial)
abbrev s_fits_level : Stmt := topS 14
def R_fits_level : List PyData → PyData → Prop := fun ds d => ∃ x : PyData, ds = [x] ∧ (∀ r es, x = .tuple [r, .list es] → es.length ≤ 30000) ∧ d = .bool (fitsLevel x)
theorem ed_callW {E : XK} {te : TE} {ρ : En} {one : Addr} {g : Int → PyData → Bool} {x : PyData} (h : ED K te ρ x) (hz : ∀ r es, x = .tuple [r, .list es] → es.length ≤ 30000) : ED K (tCall (SpW K one g) [] E (tCons te (tCons (tC (.ref one)) tNil))) ρ (.bool (fitsLevelW g x)) := fun σ B H s sd Q q =>
  h σ B H s sd _ fun v B1 H1 l1 d1 => ⟨B1, v, x, rfl, l1.sub, d1, hz, fun u B2 H2 l2 d2 => q u B2 H2 (l1.tr l2) d2⟩
theorem f_fits_level {a_fits_door : Addr} (m_fits_door : mg "fits_door" = some (.ref a_fits_door)) (a : At K mg "fits_level" s_fits_level) (c_fits_level_with : Fc P w K mg base "fits_level_with" ["value", "fits_one"] 7 (SpW K a_fits_door fitsDoor)) : Fc P w K mg base "fits_level" ["value"] 8 (SpR K R_fits_level) := by
  have S : FnScope ["value"] ["value"] (defScope s_fits_level) := ⟨rfl, rfl, rfl, by decide +kernel, rfl, by decide +kernel, by decide +kernel⟩
  refine fc_mk a S (fun _ _ _ _ _ _ us hl => match us, hl with | [_], _ => rfl) (by rintro _ _ ⟨x, rfl, _⟩; rfl) fun f cdv A outer s H E gu hr => ⟨_, (pss_one (ps_ret (pe_f c_fits_level_with gu (hr.mono (by decide)) (by rfl) (pa_cons (pv 0) (pa_cons (pe_glob (v := .ref a_fits_door) (by rfl) m_fits_door rfl) pa_nil))))), ?_⟩
  rintro _ _ ⟨x, rfl, hz, rfl⟩
  rw [← fitsLevelW_door]
  exact xr_ret (xs_ret (ed_callW (ed_var rfl) hz))
end
end TD
set_option maxHeartbeats 4000000
namespace TD
open PySem PySem.Spec PyProof.Rows L2
open Evl (Ex)
structure Bg (mg : Str → Option Value) : Prop where
  int : mg "int" = none
  len : mg "len" = none
  max : mg "max" = none
  sum : mg "sum" = none
  range : mg "range" = none
section
variable {P : Program} {w : World} {K : Fg} {mg : Str → Option Value} {base : Heap}
abbrev s__law_cell : Stmt := topS 38
theorem f__law_cell (T : Bg mg) (a : At K mg "_law_cell" s__law_cell) : Fc P w K mg base "_law_cell" ["_law_script", "_law_index"] 1 (spCellV K) := by
  have S : FnScope ["_law_script", "_law_index"] ["_law_script", "_law_index"] (defScope s__law_cell) := ⟨rfl, rfl, rfl, by decide +kernel, rfl, by decide +kernel, by decide +kernel⟩
  obtain ⟨f, fd, F, hm⟩ := a
  refine ⟨f, fd, hm, F.kp, F.binds (fun _ _ _ _ _ _ us hl => match us, hl with | [_, _], _ => rfl), fnG F S ?_ ?_⟩
  · rintro vs H Q E ⟨s, ns, i, rfl, _⟩
    rfl
  intro cdv A outer s H vs Q E gu hr ⟨sc, ns, i, ev, hS, h0, h1, q⟩
  subst ev
  have hc : (cxOf CX0 P w K mg base ["_law_script", "_law_index"] "_law_cell" (defScope s__law_cell) f cdv A outer s H E).nox.calm = true := rfl
  suffices h : ∃ t, PSs (cxOf CX0 P w K mg base ["_law_script", "_law_index"] "_law_cell" (defScope s__law_cell) f cdv A outer s H E).nox (defBody s__law_cell) t ∧ t { nx := fun _ H' => Q .non H', rt := Q } (L2.start ["_law_script", "_law_index"] [.ref sc, .int i]) H by
    obtain ⟨t, h1, h2⟩ := h
    exact ⟨t, h1.nox, h2⟩
  refine ⟨_, (pss_cons (ps_if (pt_cmpR op_lt (pv 1) (pe_callB call_len_seq (by rfl) T.len (by decide +kernel) (pa_cons (pv 0) pa_nil)) (nomark _)) (pss_one (ps_ret (pe_ix ix_list (pv 0) (pv 1) (fun _ _ => rfl)))) pss_nil)
  (pss_one (ps_ret (pe_op op_mod (pe_callB (cr_sum hc) (by rfl) T.sum (by decide +kernel) (pa_cons (pe_slice sl_list (pv 0) po_none (po_some pe_int)) pa_nil)) pe_int)))), ?_⟩
  refine ⟨.int i, rfl, .ref sc, rfl, sc, _, rfl, .inl hS, i, _, rfl, rfl, _, rfl, ite2 (fun h => ?_) (fun h => ?_)⟩
  · have hi := of_decide_eq_true h
    rw [List.length_map] at hi
    obtain ⟨j, rfl⟩ : ∃ j : Nat, i = j := ⟨i.toNat, by omega⟩
    have hj : j < ns.length := by omega
    have e : (ns.map V.int)[j]? = some (.int ns[j]) := by
      rw [List.getElem?_map, List.getElem?_eq_getElem hj]
      rfl
    have ec : cellV ns (j : Int) = ns[j] := by
      unfold cellV
      rw [if_pos (by omega), Int.toNat_natCast, List.getD_eq_getElem?_getD, List.getElem?_eq_getElem hj]
      rfl
    rw [ec] at q
    exact ⟨.ref sc, rfl, .int j, rfl, sc, _, j, _, rfl, rfl, hS, atI_nat e, q H (Ex.refl H)⟩
  · refine ⟨.ref sc, rfl, 1, rfl, sc, _, rfl, hS, fun p hp => ?_⟩
    have e : cutV (ns.map V.int) none (some 1) = (ns.take 1).map V.int := by
      rw [List.map_take]
      unfold cutV
      rw [show HT.sIx (ns.map V.int).length 0 none = 0 from HT.sIx_none _ _, show HT.sIx (ns.map V.int).length (ns.map V.int).length (some 1) = min 1 (ns.map V.int).length from HT.sIx_nat _ _ 1]
      simp
    refine ⟨p, ns.take 1, rfl, SqL.of (by rw [upd_same, e]), _, 1000003, rfl, rfl, (show (0 : Int) < 1000003 by decide), ?_⟩
    have ec : cellV ns i = (ns.take 1).sum % 1000003 := by
      unfold cellV
      rw [if_neg (fun w => h (decide_eq_true (by rw [List.length_map]; exact w)))]
    rw [ec] at q
    exact q _ (Ex.new hp)
abbrev s__law_generator : Stmt := topS 40
theorem f__law_generator (T : Bg mg) (a : At K mg "_law_generator" s__law_generator) (c__law_cell : Fc P w K mg base "_law_cell" ["_law_script", "_law_index"] 1 (spCellV K)) : Fc P w K mg base "_law_generator" ["_law_script", "_law_index"] 2 (spGenV K) := by
  have S : FnScope ["_law_script", "_law_index", "_law_seed"] ["_law_script", "_law_index"] (defScope s__law_generator) := ⟨rfl, rfl, rfl, by decide +kernel, rfl, by decide +kernel, by decide +kernel⟩
  obtain ⟨f, fd, F, hm⟩ := a
  refine ⟨f, fd, hm, F.kp, F.binds (fun _ _ _ _ _ _ us hl => match us, hl with | [_, _], _ => rfl), fnG F S ?_ ?_⟩
  · rintro vs H Q E ⟨s, ns, i, rfl, _⟩
    rfl
  intro cdv A outer s H vs Q E gu hr ⟨sc, ns, i, ev, hS, h0, h1, q⟩
  subst ev
  have hc : (cxOf CX0 P w K mg base ["_law_script", "_law_index", "_law_seed"] "_law_generator" (defScope s__law_generator) f cdv A outer s H E).nox.calm = true := rfl
  suffices h : ∃ t, PSs (cxOf CX0 P w K mg base ["_law_script", "_law_index", "_law_seed"] "_law_generator" (defScope s__law_generator) f cdv A outer s H E).nox (defBody s__law_generator) t ∧ t { nx := fun _ H' => Q .non H', rt := Q } (L2.start ["_law_script", "_law_index", "_law_seed"] [.ref sc, .int i]) H by
    obtain ⟨t, h1, h2⟩ := h
    exact ⟨t, h1.nox, h2⟩
  refine ⟨_, (pss_cons (ps_set (i := 2) S.nd rfl (by first | exact Or.inl rfl | exact Or.inr rfl) (pe_f c__law_cell gu (hr.mono (by decide)) (by rfl) (pa_cons (pv 0) (pa_cons (pv 1) pa_nil))))
  (pss_one (ps_ret (pe_lst (pa_cons (pe_op op_mod (pe_callTy call_int1 (by rfl) T.int (by decide +kernel) (pa_cons (pe_callB (call_max2 hc) (by rfl) T.max (by decide +kernel) (pa_cons (pe_op op_sub (pv 2) (pe_op op_pow pe_int pe_int)) (pa_cons pe_int pa_nil))) pa_nil)) (pe_op op_powB (pe_op op_pow pe_int pe_int) pe_int)) (pa_cons (pe_op op_mod (pe_callTy call_int1 (by rfl) T.int (by decide +kernel) (pa_cons (pv 2) pa_nil)) pe_int) (pa_cons (pe_op op_mul pe_int (pv 1)) pa_nil))))))), ?_⟩
  refine ⟨.ref sc, rfl, .int i, rfl, sc, ns, i, rfl, hS, h0, h1, fun H1 e1 => ?_⟩
  have pos : (0 : Int) < (10 ^ 60) ^ Int.toNat 10 := by decide +kernel
  obtain ⟨z, hz⟩ : ∃ z, cellV ns i = z := ⟨_, rfl⟩
  rw [hz]
  refine ⟨.int z, rfl, 10, 18, rfl, rfl, ⟨by decide, by decide, by decide⟩, z, _, rfl, rfl, _, 0, rfl, .inl ⟨_, rfl, 10, 60, rfl, rfl, ⟨by decide, by decide, by decide⟩, _, 10, rfl, rfl, ⟨rfl, rfl⟩, _, _, rfl, rfl, pos, ?_⟩⟩
  refine ⟨.int z, rfl, .inl ⟨z, rfl, z, 2147483647, rfl, rfl, (show (0 : Int) < 2147483647 by decide), .int i, rfl, 1000, i, rfl, rfl, .inl ⟨by decide, by decide⟩, by show 3 ≤ sizeLine; decide, fun g hg => ?_⟩⟩
  refine q g _ (Evl.fresh_back e1 hg) (e1.trans (Ex.new hg)) ⟨_, _, _, by unfold genV; rw [hz]; rfl, upd_same⟩
end
end TD
set_option maxHeartbeats 4000000
namespace TD
open PySem PySem.Spec PyProof.Rows L2
open Evl (Ex)
def lvB : PyData → Bool
  | .tuple [r, .list es] => decide (es.length ≤ 30000)
  | _ => true
def gFitsLevel : List PyData → Option PyData
  | [x] => match lvB x with
    | true => some (.bool (fitsLevel x))
    | false => none
  | _ => none
theorem gFitsLevel_ok (ds : List PyData) (d : PyData) (h : gFitsLevel ds = some d) : R_fits_level ds d := by
  unfold gFitsLevel at h
  split at h
  · next x =>
    split at h
    · next e =>
      cases h
      exact ⟨_, rfl, fun r' es' z => by
        subst z
        exact of_decide_eq_true e, rfl⟩
    · exact nomatch h
  · exact nomatch h
def smB : PyData → Bool
  | .list es => decide (es.length ≤ 30000)
  | .tuple es => decide (es.length ≤ 30000)
  | _ => true
def gFitsPresses : List PyData → Option PyData
  | [.int r, x] => match smB x with
    | true => some (.bool (fitsPresses r x))
    | false => none
  | _ => none
theorem gFitsPresses_ok (ds : List PyData) (d : PyData) (h : gFitsPresses ds = some d) : R_fits_presses ds d := by
  unfold gFitsPresses at h
  split at h
  · next r x =>
    split at h
    · next e =>
      cases h
      exact ⟨r, _, rfl, fun ds z => by
        rcases z with z | z <;> subst z
        · exact of_decide_eq_true e
        · exact of_decide_eq_true e, rfl⟩
    · exact nomatch h
  · exact nomatch h
end TD
set_option maxHeartbeats 4000000
namespace TD
open PySem PySem.Spec PyProof.Rows L2
open Evl (Ex)
structure Tb (mg : Str → Option Value) : Prop where
  all : mg "all" = none
  enumerate : mg "enumerate" = none
  int : mg "int" = none
  isinstance : mg "isinstance" = none
  len : mg "len" = none
  list : mg "list" = none
  max : mg "max" = none
  range : mg "range" = none
  repr : mg "repr" = none
  sorted : mg "sorted" = none
  tuple : mg "tuple" = none
section
variable {P : Program} {w : World} {K : Fg} {mg : Str → Option Value} {base : Heap} {cl : Nat → Addr} {aP : Addr}
abbrev s_check_level : Stmt := topS 17
def F_check_level : List PyData → FR := fnY 1 1 none (sIf (tNotZ (tVal' (eCB gFitsLevel (aCons (eVar 0) aNil)))) sNo sNext)
theorem f_check_level (a : At K mg "check_level" s_check_level) (c_fits_level : Fc P w K mg base "fits_level" ["value"] 8 (SpR K R_fits_level)) : Fx P w K mg base "check_level" ["level"] 9 (SpY K cl none F_check_level) := by
  have S : FnScope ["level"] ["level"] (defScope s_check_level) := ⟨rfl, rfl, rfl, by decide +kernel, rfl, by decide +kernel, by decide +kernel⟩
  refine fy_mk (m := 1) (O := (fun i => [].contains i)) none a S (fun _ _ _ _ _ _ us hl => match us, hl with | [_], _ => rfl) (by decide) (fun j h => nomatch h) fun f' cdv A outer s H E gu hr tk => ?_
  have hc : (cxOf (L2.CX P w) P w K mg base ["level"] "check_level" (defScope s_check_level) f' cdv A outer s H E).calm = true := rfl
  have hu64 : (cxOf (L2.CX P w) P w K mg base ["level"] "check_level" (defScope s_check_level) f' cdv A outer s H E).A.units + 64 < cLine := hr.units
  have hu : (cxOf (L2.CX P w) P w K mg base ["level"] "check_level" (defScope s_check_level) f' cdv A outer s H E).A.units + 1 < cLine := Nat.lt_of_le_of_lt (Nat.add_le_add_left (by decide) _) hr.units
  have hu2 : (cxOf (L2.CX P w) P w K mg base ["level"] "check_level" (defScope s_check_level) f' cdv A outer s H E).A.units + 200 < cLine := Nat.lt_of_le_of_lt (Nat.add_le_add_right (Nat.le_add_right _ (16 * 8)) _) hr.un
  have hu65 : (cxOf (L2.CX P w) P w K mg base ["level"] "check_level" (defScope s_check_level) f' cdv A outer s H E).A.units + 65 < cLine := Nat.lt_of_le_of_lt (Nat.add_le_add_left (by decide) _) hu2
  exact ⟨_, (pss_one (ps_if (pt_not (pt_val (pe_f c_fits_level gu (hr.mono (by decide)) (by rfl) (pa_cons (pv 0) pa_nil)))) (pss_one ps_no) pss_nil)), (ys_if (yt_not (yt_B (ye_cf gFitsLevel_ok (ya_cons ye_var ya_nil)))) ys_no ys_next)⟩
abbrev s_check_presses : Stmt := topS 18
def F_check_presses : List PyData → FR := fnY 2 2 none (sIf (tNotZ (tVal' (eCB gFitsPresses (aCons (eOp gIxT (eVar 0) (eC (.int 0))) (aCons (eVar 1) aNil))))) sNo sNext)
theorem f_check_presses (a : At K mg "check_presses" s_check_presses) (c_fits_presses : Fc P w K mg base "fits_presses" ["rooms", "value"] 5 (SpR K R_fits_presses)) : Fx P w K mg base "check_presses" ["level", "presses"] 6 (SpY K cl none F_check_presses) := by
  have S : FnScope ["level", "presses"] ["level", "presses"] (defScope s_check_presses) := ⟨rfl, rfl, rfl, by decide +kernel, rfl, by decide +kernel, by decide +kernel⟩
  refine fy_mk (m := 2) (O := (fun i => [].contains i)) none a S (fun _ _ _ _ _ _ us hl => match us, hl with | [_, _], _ => rfl) (by decide) (fun j h => nomatch h) fun f' cdv A outer s H E gu hr tk => ?_
  have hc : (cxOf (L2.CX P w) P w K mg base ["level", "presses"] "check_presses" (defScope s_check_presses) f' cdv A outer s H E).calm = true := rfl
  have hu64 : (cxOf (L2.CX P w) P w K mg base ["level", "presses"] "check_presses" (defScope s_check_presses) f' cdv A outer s H E).A.units + 64 < cLine := hr.units
  have hu : (cxOf (L2.CX P w) P w K mg base ["level", "presses"] "check_presses" (defScope s_check_presses) f' cdv A outer s H E).A.units + 1 < cLine := Nat.lt_of_le_of_lt (Nat.add_le_add_left (by decide) _) hr.units
  have hu2 : (cxOf (L2.CX P w) P w K mg base ["level", "presses"] "check_presses" (defScope s_check_presses) f' cdv A outer s H E).A.units + 200 < cLine := Nat.lt_of_le_of_lt (Nat.add_le_add_right (Nat.le_add_right _ (16 * 5)) _) hr.un
  have hu65 : (cxOf (L2.CX P w) P w K mg base ["level", "presses"] "check_presses" (defScope s_check_presses) f' cdv A outer s H E).A.units + 65 < cLine := Nat.lt_of_le_of_lt (Nat.add_le_add_left (by decide) _) hu2
  exact ⟨_, (pss_one (ps_if (pt_not (pt_val (pe_f c_fits_presses gu (hr.mono (by decide)) (by rfl) (pa_cons (pe_ix ix_tup (pv 0) pe_int (fun _ _ => rfl)) (pa_cons (pv 1) pa_nil))))) (pss_one ps_no) pss_nil)), (ys_if (yt_not (yt_B (ye_cf gFitsPresses_ok (ya_cons (ye_op o_ixT ye_var ye_int) (ya_cons ye_var ya_nil))))) ys_no ys_next)⟩
abbrev s_mask_of : Stmt := topS 20
def F_mask_of : List PyData → FR := fnY 1 3 none (sSeq (sAsg (eC (.int 0)) (gN 1)) (sSeq (sFor (iL (eVar 0)) (gN 2) (sAug 1 (gI Builtin.bitOr) (eOp (gIc cPow fun i j => i * 2 ^ j.toNat) (eC (.int 1)) (eVar 2)))) (sRet (eVar 1))))
theorem f_mask_of (a : At K mg "mask_of" s_mask_of) : Fx P w K mg base "mask_of" ["lights"] 1 (SpY K cl none F_mask_of) := by
  have S : FnScope ["lights", "mask", "room"] ["lights"] (defScope s_mask_of) := ⟨rfl, rfl, rfl, by decide +kernel, rfl, by decide +kernel, by decide +kernel⟩
  refine fy_mk (m := 1) (O := (fun i => [].contains i)) none a S (fun _ _ _ _ _ _ us hl => match us, hl with | [_], _ => rfl) (by decide) (fun j h => nomatch h) fun f' cdv A outer s H E gu hr tk => ?_
  have hc : (cxOf (L2.CX P w) P w K mg base ["lights", "mask", "room"] "mask_of" (defScope s_mask_of) f' cdv A outer s H E).calm = true := rfl
  have hu64 : (cxOf (L2.CX P w) P w K mg base ["lights", "mask", "room"] "mask_of" (defScope s_mask_of) f' cdv A outer s H E).A.units + 64 < cLine := hr.units
  have hu : (cxOf (L2.CX P w) P w K mg base ["lights", "mask", "room"] "mask_of" (defScope s_mask_of) f' cdv A outer s H E).A.units + 1 < cLine := Nat.lt_of_le_of_lt (Nat.add_le_add_left (by decide) _) hr.units
  have hu2 : (cxOf (L2.CX P w) P w K mg base ["lights", "mask", "room"] "mask_of" (defScope s_mask_of) f' cdv A outer s H E).A.units + 200 < cLine := Nat.lt_of_le_of_lt (Nat.add_le_add_right (Nat.le_add_right _ (16 * 0)) _) hr.un
  have hu65 : (cxOf (L2.CX P w) P w K mg base ["lights", "mask", "room"] "mask_of" (defScope s_mask_of) f' cdv A outer s H E).A.units + 65 < cLine := Nat.lt_of_le_of_lt (Nat.add_le_add_left (by decide) _) hu2
  exact ⟨_, (pss_cons (ps_set (i := 1) S.nd rfl (by first | exact Or.inl rfl | exact Or.inr rfl) pe_int)
  (pss_cons (ps_for PassesOwn.leaving hc (pi_list (pv 0)) (pg_name (i := 2) S.nd rfl (by first | exact Or.inl rfl | exact Or.inr rfl))
    (pss_one (ps_aug (i := 1) S.nd rfl (by first | exact Or.inl rfl | exact Or.inr rfl) (pe_op op_shl pe_int (pv 2)) iop_or)))
  (pss_one (ps_ret (pv 1))))), (ys_seq (ys_asg ye_int zg_name) (ys_seq (ys_for (yi_L ye_var) zg_name (ys_aug o_I (ye_op (o_Ic cPow_ok) ye_int ye_var))) (ys_ret ye_var)))⟩
abbrev s_lights_of : Stmt := topS 21
def F_lights_of : List PyData → FR := fnY 1 3 none (sSeq (sAsgO 1 (eLst aNil)) (sSeq (sAsg (eC (.int 0)) (gN 2)) (sSeq (sWhile (tVal' (eOp (gB fun i j => decide (j < i)) (eVar 0) (eC (.int 0)))) (sSeq (sIf (tTru' (eOp (gI Builtin.bitAnd) (eVar 0) (eC (.int 1)))) (sApp 1 (eVar 2)) sNext) (sSeq (sAug 0 (gIc cNn fun i j => i / 2 ^ j.toNat) (eC (.int 1))) (sAug 2 (gI fun i j => i + j) (eC (.int 1))))) 1000) (sRet (eMove 1)))))
theorem f_lights_of (a : At K mg "lights_of" s_lights_of) : Fx P w K mg base "lights_of" ["mask"] 1 (SpY K cl none F_lights_of) := by
  have S : FnScope ["mask", "lights", "room"] ["mask"] (defScope s_lights_of) := ⟨rfl, rfl, rfl, by decide +kernel, rfl, by decide +kernel, by decide +kernel⟩
  refine fy_mk (m := 0) (O := (fun i => [1].contains i)) none a S (fun _ _ _ _ _ _ us hl => match us, hl with | [_], _ => rfl) (by decide) (fun j h => nomatch h) fun f' cdv A outer s H E gu hr tk => ?_
  have hc : (cxOf (L2.CX P w) P w K mg base ["mask", "lights", "room"] "lights_of" (defScope s_lights_of) f' cdv A outer s H E).calm = true := rfl
  have hu64 : (cxOf (L2.CX P w) P w K mg base ["mask", "lights", "room"] "lights_of" (defScope s_lights_of) f' cdv A outer s H E).A.units + 64 < cLine := hr.units
  have hu : (cxOf (L2.CX P w) P w K mg base ["mask", "lights", "room"] "lights_of" (defScope s_lights_of) f' cdv A outer s H E).A.units + 1 < cLine := Nat.lt_of_le_of_lt (Nat.add_le_add_left (by decide) _) hr.units
  have hu2 : (cxOf (L2.CX P w) P w K mg base ["mask", "lights", "room"] "lights_of" (defScope s_lights_of) f' cdv A outer s H E).A.units + 200 < cLine := Nat.lt_of_le_of_lt (Nat.add_le_add_right (Nat.le_add_right _ (16 * 0)) _) hr.un
  have hu65 : (cxOf (L2.CX P w) P w K mg base ["mask", "lights", "room"] "lights_of" (defScope s_lights_of) f' cdv A outer s H E).A.units + 65 < cLine := Nat.lt_of_le_of_lt (Nat.add_le_add_left (by decide) _) hu2
  exact ⟨_, (pss_cons (ps_set (i := 1) S.nd rfl (by first | exact Or.inl rfl | exact Or.inr rfl) (pe_lst pa_nil))
  (pss_cons (ps_set (i := 2) S.nd rfl (by first | exact Or.inl rfl | exact Or.inr rfl) pe_int)
  (pss_cons (ps_while PassesOwn.leaving (pt_cmpR op_gt (pv 0) pe_int (nomark _))
    (pss_cons (ps_if (pt_truth (pe_op op_and (pv 0) pe_int) (fun _ => rfl)) (pss_one (ps_expr (pe_bm PySem.F.plainAttrs_list PySem.F.slot_list_append PySem.F.type_list_append mt_append (pv 1) (pa_cons (pv 2) pa_nil)))) pss_nil)
  (pss_cons (ps_aug (i := 0) S.nd rfl (by first | exact Or.inl rfl | exact Or.inr rfl) pe_int iop_shr)
  (pss_one (ps_aug (i := 2) S.nd rfl (by first | exact Or.inl rfl | exact Or.inr rfl) pe_int ip_add)))))
  (pss_one (ps_ret (pv 1)))))), (ys_seq (ys_asgO (ye_lst ya_nil)) (ys_seq (ys_asg ye_int zg_name) (ys_seq (ys_while (yt_val (ye_op o_B ye_var ye_int)) (ys_seq (ys_if (yt_truth (ye_op o_I ye_var ye_int)) (ys_app ye_var) ys_next) (ys_seq (ys_aug (o_Ic cNn_ok) ye_int) (ys_aug o_I ye_int))) 1000) (ys_ret ye_move))))⟩
abbrev s_door_masks : Stmt := topS 22
def F_door_masks : List PyData → FR := fnY 1 4 none (sRet (eLc (iL (eOp gIxT (eVar 0) (eC (.int 1)))) [1, 2, 3] (gT [(gN 1), (gN 2), (gN 3)]) tYesZ (eTup (aCons (eFz (eCall F_mask_of [.d] (aCons (eVar 1) aNil))) (aCons (eOp (gIc cPow fun i j => i * 2 ^ j.toNat) (eC (.int 1)) (eVar 2)) (aCons (eVar 3) aNil))))))
theorem f_door_masks (a : At K mg "door_masks" s_door_masks) (c_mask_of : Fx P w K mg base "mask_of" ["lights"] 1 (SpY K cl none F_mask_of)) : Fx P w K mg base "door_masks" ["level"] 2 (SpY K cl none F_door_masks) := by
  have S : FnScope ["level", "needs", "room", "shift"] ["level"] (defScope s_door_masks) := ⟨rfl, rfl, rfl, by decide +kernel, rfl, by decide +kernel, by decide +kernel⟩
  refine fy_mk (m := 1) (O := (fun i => [].contains i)) none a S (fun _ _ _ _ _ _ us hl => match us, hl with | [_], _ => rfl) (by decide) (fun j h => nomatch h) fun f' cdv A outer s H E gu hr tk => ?_
  have hc : (cxOf (L2.CX P w) P w K mg base ["level", "needs", "room", "shift"] "door_masks" (defScope s_door_masks) f' cdv A outer s H E).calm = true := rfl
  have hu64 : (cxOf (L2.CX P w) P w K mg base ["level", "needs", "room", "shift"] "door_masks" (defScope s_door_masks) f' cdv A outer s H E).A.units + 64 < cLine := hr.units
  have hu : (cxOf (L2.CX P w) P w K mg base ["level", "needs", "room", "shift"] "door_masks" (defScope s_door_masks) f' cdv A outer s H E).A.units + 1 < cLine := Nat.lt_of_le_of_lt (Nat.add_le_add_left (by decide) _) hr.units
  have hu2 : (cxOf (L2.CX P w) P w K mg base ["level", "needs", "room", "shift"] "door_masks" (defScope s_door_masks) f' cdv A outer s H E).A.units + 200 < cLine := Nat.lt_of_le_of_lt (Nat.add_le_add_right (Nat.le_add_right _ (16 * 1)) _) hr.un
  have hu65 : (cxOf (L2.CX P w) P w K mg base ["level", "needs", "room", "shift"] "door_masks" (defScope s_door_masks) f' cdv A outer s H E).A.units + 65 < cLine := Nat.lt_of_le_of_lt (Nat.add_le_add_left (by decide) _) hu2
  exact ⟨_, (pss_one (ps_ret (pe_lc (own := [("needs", 1), ("room", 2), ("shift", 3)]) hc S.nd (pi_list (pe_ix ix_tup (pv 0) pe_int (fun _ _ => rfl))) (blkOk_by (N := ["level", "needs", "room", "shift"]) (sc := defScope s_door_masks) (by decide +kernel)) (fun _ _ _ _ _ => (pg_tupK (K := K) (n := 3) rfl (by exact rfl) (pgs_cons (pg_name (i := 1) S.nd rfl (by first | exact Or.inl rfl | exact Or.inr rfl)) (pgs_cons (pg_name (i := 2) S.nd rfl (by first | exact Or.inl rfl | exact Or.inr rfl)) (pgs_cons (pg_name (i := 3) S.nd rfl (by first | exact Or.inl rfl | exact Or.inr rfl)) pgs_nil))))) (fun _ _ _ _ _ => pts_nil) (fun _ _ _ _ _ => (pe_tup (pa_cons (pe_fx c_mask_of gu (hr.mono (by decide)) (by rfl) (fun _ => pass_no) (pa_cons (pv 1) pa_nil)) (pa_cons (pe_op op_shl pe_int (pv 2)) (pa_cons (pv 3) pa_nil)))))))), (ys_ret (ye_lc (E' := fun _ _ _ => False) (yi_L (ye_op o_ixT ye_var ye_int)) (zgw_tup (zgsw_cons zgw_name (zgsw_cons zgw_name (zgsw_cons zgw_name zgsw_nil)))) yt_yes (ye_tup (ya_cons (ye_fz (ye_call0 (ya_cons ye_var ya_nil))) (ya_cons (ye_op (o_Ic cPow_ok) ye_int ye_var) (ya_cons ye_var ya_nil))))))⟩
abbrev s_keeps_door : Stmt := topS 25
def F_keeps_door : List PyData → FR := fnY 2 7 none (sSeq (sAsg (eVar 1) (gT [(gN 2), (gN 3), (gN 4)])) (sSeq (sFor (iR1 (aCons (eCB gLen (aCons (eVar 0) aNil)) aNil)) (gN 5) (sSeq (sAsg (eOp (gI fun i j => i + j) (eVar 5) (eVar 4)) (gN 6)) (sIf (tAndZ (tVal' (eOp gEq (eOp (gI Builtin.bitAnd) (eOp gIxL (eVar 0) (eVar 5)) (eVar 2)) (eVar 2))) (tAndZ (tVal' (eChain (gB fun i j => decide (i ≤ j)) (gB fun i j => decide (i < j)) (eC (.int 0)) (eVar 6) (eCB gLen (aCons (eVar 0) aNil)))) (tNotZ (tTru' (eOp (gI Builtin.bitAnd) (eOp gIxL (eVar 0) (eVar 6)) (eVar 3)))))) (sRet (eC (.bool false))) sNext))) (sRet (eC (.bool true)))))
theorem f_keeps_door (T : Tb mg) (a : At K mg "keeps_door" s_keeps_door) : Fx P w K mg base "keeps_door" ["lit", "door"] 1 (SpY K cl none F_keeps_door) := by
  have S : FnScope ["lit", "door", "needs", "gives", "shift", "tick", "goal"] ["lit", "door"] (defScope s_keeps_door) := ⟨rfl, rfl, rfl, by decide +kernel, rfl, by decide +kernel, by decide +kernel⟩
  refine fy_mk (m := 2) (O := (fun i => [].contains i)) none a S (fun _ _ _ _ _ _ us hl => match us, hl with | [_, _], _ => rfl) (by decide) (fun j h => nomatch h) fun f' cdv A outer s H E gu hr tk => ?_
  have hc : (cxOf (L2.CX P w) P w K mg base ["lit", "door", "needs", "gives", "shift", "tick", "goal"] "keeps_door" (defScope s_keeps_door) f' cdv A outer s H E).calm = true := rfl
  have hu64 : (cxOf (L2.CX P w) P w K mg base ["lit", "door", "needs", "gives", "shift", "tick", "goal"] "keeps_door" (defScope s_keeps_door) f' cdv A outer s H E).A.units + 64 < cLine := hr.units
  have hu : (cxOf (L2.CX P w) P w K mg base ["lit", "door", "needs", "gives", "shift", "tick", "goal"] "keeps_door" (defScope s_keeps_door) f' cdv A outer s H E).A.units + 1 < cLine := Nat.lt_of_le_of_lt (Nat.add_le_add_left (by decide) _) hr.units
  have hu2 : (cxOf (L2.CX P w) P w K mg base ["lit", "door", "needs", "gives", "shift", "tick", "goal"] "keeps_door" (defScope s_keeps_door) f' cdv A outer s H E).A.units + 200 < cLine := Nat.lt_of_le_of_lt (Nat.add_le_add_right (Nat.le_add_right _ (16 * 0)) _) hr.un
  have hu65 : (cxOf (L2.CX P w) P w K mg base ["lit", "door", "needs", "gives", "shift", "tick", "goal"] "keeps_door" (defScope s_keeps_door) f' cdv A outer s H E).A.units + 65 < cLine := Nat.lt_of_le_of_lt (Nat.add_le_add_left (by decide) _) hu2
  exact ⟨_, (pss_cons (ps_asg (pv 1) (pg_tup hc (pgs_cons (pg_name (i := 2) S.nd rfl (by first | exact Or.inl rfl | exact Or.inr rfl)) (pgs_cons (pg_name (i := 3) S.nd rfl (by first | exact Or.inl rfl | exact Or.inr rfl)) (pgs_cons (pg_name (i := 4) S.nd rfl (by first | exact Or.inl rfl | exact Or.inr rfl)) pgs_nil)))))
  (pss_cons (ps_for PassesOwn.leaving hc (pi_range1 (by rfl) T.range (pa_cons (pe_callB call_len_seq (by rfl) T.len (by decide +kernel) (pa_cons (pv 0) pa_nil)) pa_nil)) (pg_name (i := 5) S.nd rfl (by first | exact Or.inl rfl | exact Or.inr rfl))
    (pss_cons (ps_set (i := 6) S.nd rfl (by first | exact Or.inl rfl | exact Or.inr rfl) (pe_op op_add (pv 5) (pv 4)))
  (pss_one (ps_if (PW.pt (pw_and (pt_cmpR op_eq (pe_op op_and (pe_ix ix_list (pv 0) (pv 5) (fun _ _ => rfl)) (pv 2)) (pv 2) (nomark _)) (pw_and (pt_chain op_le op_lt pe_int (pv 6) (pe_callB call_len_seq (by rfl) T.len (by decide +kernel) (pa_cons (pv 0) pa_nil))) (pw_and1 (pt_not (pt_truth (pe_op op_and (pe_ix ix_list (pv 0) (pv 6) (fun _ _ => rfl)) (pv 3)) (fun _ => rfl))))))) (pss_one (ps_ret pe_bl)) pss_nil))))
  (pss_one (ps_ret pe_bl)))), (ys_seq (ys_asg ye_var (zg_tup (zgs_cons zg_name (zgs_cons zg_name (zgs_cons zg_name zgs_nil))))) (ys_seq (ys_for (yi_R1 (ya_cons (ye_cb c_len (ya_cons ye_var ya_nil)) ya_nil)) zg_name (ys_seq (ys_asg (ye_op o_I ye_var ye_var) zg_name) (ys_if (yt_and (yt_val (ye_op o_eq (ye_op o_I (ye_op o_ixL ye_var ye_var) ye_var) ye_var)) (yt_and (yt_val (ye_chain o_B o_B ye_int ye_var (ye_cb c_len (ya_cons ye_var ya_nil)))) (yt_not (yt_truth (ye_op o_I (ye_op o_ixL ye_var ye_var) ye_var))))) (ys_ret ye_bl) ys_next))) (ys_ret ye_bl)))⟩
abbrev s_is_keeping : Stmt := topS 24
def F_is_keeping : List PyData → FR := fnY 3 7 none (sSeq (sIf (tOrZ (tNotZ (tVal' (eCB gFitsPresses (aCons (eOp gIxT (eVar 0) (eC (.int 0))) (aCons (eVar 2) aNil))))) (tVal' (eOp gNe (eCB gLen (aCons (eVar 2) aNil)) (eCB gLen (aCons (eVar 1) aNil))))) (sRet (eC (.bool false))) sNext) (sSeq (sAsg (eFz (eLc (iL (eVar 2)) [3] (gN 3) tYesZ (eFz (eCall F_mask_of [.d] (aCons (eVar 3) aNil))))) (gN 4)) (sSeq (sFor (iEn (aCons (eVar 1) aNil)) (gT [(gN 5), (gN 3)]) (sIf (tTru' (eOp (gI Builtin.bitAnd) (eFz (eCall F_mask_of [.d] (aCons (eVar 3) aNil))) (eUn (gUI Builtin.bitNot) (eOp gIxL (eVar 4) (eVar 5))))) (sRet (eC (.bool false))) sNext)) (sRet (eCB gAll (aCons (eFz (eLc (iL (eFz (eCall F_door_masks [.s 0] (aCons (eVar 0) aNil)))) [6] (gN 6) tYesZ (eFz (eCall F_keeps_door [.d, .d] (aCons (eVar 4) (aCons (eVar 6) aNil)))))) aNil))))))
theorem f_is_keeping (T : Tb mg) (a : At K mg "is_keeping" s_is_keeping) (c_mask_of : Fx P w K mg base "mask_of" ["lights"] 1 (SpY K cl none F_mask_of)) (c_door_masks : Fx P w K mg base "door_masks" ["level"] 2 (SpY K cl none F_door_masks)) (c_keeps_door : Fx P w K mg base "keeps_door" ["lit", "door"] 1 (SpY K cl none F_keeps_door)) (c_fits_presses : Fc P w K mg base "fits_presses" ["rooms", "value"] 5 (SpR K R_fits_presses)) : Fx P w K mg base "is_keeping" ["level", "presses", "value"] 6 (SpY K cl none F_is_keeping) := by
  have S : FnScope ["level", "presses", "value", "lights", "lit", "tick", "door"] ["level", "presses", "value"] (defScope s_is_keeping) := ⟨rfl, rfl, rfl, by decide +kernel, rfl, by decide +kernel, by decide +kernel⟩
  refine fy_mk (m := 3) (O := (fun i => [].contains i)) none a S (fun _ _ _ _ _ _ us hl => match us, hl with | [_, _, _], _ => rfl) (by decide) (fun j h => nomatch h) fun f' cdv A outer s H E gu hr tk => ?_
  have hc : (cxOf (L2.CX P w) P w K mg base ["level", "presses", "value", "lights", "lit", "tick", "door"] "is_keeping" (defScope s_is_keeping) f' cdv A outer s H E).calm = true := rfl
  have hu64 : (cxOf (L2.CX P w) P w K mg base ["level", "presses", "value", "lights", "lit", "tick", "door"] "is_keeping" (defScope s_is_keeping) f' cdv A outer s H E).A.units + 64 < cLine := hr.units
  have hu : (cxOf (L2.CX P w) P w K mg base ["level", "presses", "value", "lights", "lit", "tick", "door"] "is_keeping" (defScope s_is_keeping) f' cdv A outer s H E).A.units + 1 < cLine := Nat.lt_of_le_of_lt (Nat.add_le_add_left (by decide) _) hr.units
  have hu2 : (cxOf (L2.CX P w) P w K mg base ["level", "presses", "value", "lights", "lit", "tick", "door"] "is_keeping" (defScope s_is_keeping) f' cdv A outer s H E).A.units + 200 < cLine := Nat.lt_of_le_of_lt (Nat.add_le_add_right (Nat.le_add_right _ (16 * 5)) _) hr.un
  have hu65 : (cxOf (L2.CX P w) P w K mg base ["level", "presses", "value", "lights", "lit", "tick", "door"] "is_keeping" (defScope s_is_keeping) f' cdv A outer s H E).A.units + 65 < cLine := Nat.lt_of_le_of_lt (Nat.add_le_add_left (by decide) _) hu2
  exact ⟨_, (pss_cons (ps_if (PW.pt (pw_or (pt_not (pt_val (pe_f c_fits_presses gu (hr.mono (by decide)) (by rfl) (pa_cons (pe_ix ix_tup (pv 0) pe_int (fun _ _ => rfl)) (pa_cons (pv 2) pa_nil))))) (pw_or1 (pt_cmpR op_ne (pe_callB call_len_seq (by rfl) T.len (by decide +kernel) (pa_cons (pv 2) pa_nil)) (pe_callB call_len_seq (by rfl) T.len (by decide +kernel) (pa_cons (pv 1) pa_nil)) (nomark _))))) (pss_one (ps_ret pe_bl)) pss_nil)
  (pss_cons (ps_set (i := 4) S.nd rfl (by first | exact Or.inl rfl | exact Or.inr rfl) (pe_lc (own := [("lights", 3)]) hc S.nd (pi_list (pv 2)) (blkOk_by (N := ["level", "presses", "value", "lights", "lit", "tick", "door"]) (sc := defScope s_is_keeping) (by decide +kernel)) (fun _ _ _ _ _ => (pg_name (i := 3) S.nd rfl (by first | exact Or.inl rfl | exact Or.inr rfl))) (fun _ _ _ _ _ => pts_nil) (fun _ _ _ _ _ => (pe_fx c_mask_of gu (hr.mono (by decide)) (by rfl) (fun _ => pass_no) (pa_cons (pv 3) pa_nil)))))
  (pss_cons (ps_for PassesOwn.leaving hc (pi_enum (by rfl) T.enumerate (pa_cons (pv 1) pa_nil)) (pg_tup hc (pgs_cons (pg_name (i := 5) S.nd rfl (by first | exact Or.inl rfl | exact Or.inr rfl)) (pgs_cons (pg_name (i := 3) S.nd rfl (by first | exact Or.inl rfl | exact Or.inr rfl)) pgs_nil)))
    (pss_one (ps_if (pt_truth (pe_op op_and (pe_fx c_mask_of gu (hr.mono (by decide)) (by rfl) (fun σ => passAt tk σ) (pa_cons (pv 3) pa_nil)) (pe_un un_inv (pe_ix ix_list (pv 4) (pv 5) (fun _ _ => rfl)))) (fun _ => rfl)) (pss_one (ps_ret pe_bl)) pss_nil)))
  (pss_one (ps_ret (pe_callB (cr_all (by exact hc)) (by rfl) T.all (by decide +kernel) (pa_cons (pe_lc (own := [("door", 6)]) hc S.nd (pi_list (pe_fx c_door_masks gu (hr.mono (by decide)) (by rfl) (fun σ => passAt tk σ) (pa_cons (pv 0) pa_nil))) (blkOk_by (N := ["level", "presses", "value", "lights", "lit", "tick", "door"]) (sc := defScope s_is_keeping) (by decide +kernel)) (fun _ _ _ _ _ => (pg_name (i := 6) S.nd rfl (by first | exact Or.inl rfl | exact Or.inr rfl))) (fun _ _ _ _ _ => pts_nil) (fun _ _ _ _ _ => (pe_fx c_keeps_door gu (hr.mono (by decide)) (by rfl) (fun _ => pass_no) (pa_cons (pv 4) (pa_cons (pv 6) pa_nil))))) pa_nil))))))), (ys_seq (ys_if (yt_or (yt_not (yt_B (ye_cf gFitsPresses_ok (ya_cons (ye_op o_ixT ye_var ye_int) (ya_cons ye_var ya_nil))))) (yt_val (ye_op o_ne (ye_cb c_len (ya_cons ye_var ya_nil)) (ye_cb c_len (ya_cons ye_var ya_nil))))) (ys_ret ye_bl) ys_next) (ys_seq (ys_asg (ye_fz (ye_lc (E' := fun _ _ _ => False) (yi_L ye_var) zgw_name yt_yes (ye_fz (ye_call0 (ya_cons ye_var ya_nil))))) zg_name) (ys_seq (ys_for (yi_En (ya_cons ye_var ya_nil)) (zg_tup (zgs_cons zg_name (zgs_cons zg_name zgs_nil))) (ys_if (yt_truth (ye_op o_I (ye_fz (ye_call (ya_cons ye_var ya_nil))) (ye_un o_U (ye_op o_ixL ye_var ye_var)))) (ys_ret ye_bl) ys_next)) (ys_ret (ye_cb c_all (ya_cons (ye_fz (ye_lc (E' := fun _ _ _ => False) (yi_L (ye_fz (ye_call (ya_var ya_nil)))) zgw_name yt_yes (ye_fz (ye_call0 (ya_cons ye_var (ya_cons ye_var ya_nil)))))) ya_nil))))))⟩
abbrev s_given_by : Stmt := topS 29
def F_given_by : List PyData → FR := fnY 3 10 (some 1) (sSeq (sAsgO 3 eNewK) (sSeq (sFor (iL (eVar 2)) (gT [(gN 4), (gN 5)]) (sFor (iL (eOp gIxL (eVar 0) (eVar 4))) (gT [(gN 6), (gN 7), (gN 8)]) (sSeq (sAsg (eOp (gI fun i j => i + j) (eVar 4) (eVar 8)) (gN 9)) (sIf (tAndZ (tVal' (eOp gEq (eOp (gI Builtin.bitAnd) (eIxO 1 (eVar 4)) (eVar 6)) (eVar 6))) (tVal' (eChain (gB fun i j => decide (i ≤ j)) (gB fun i j => decide (i < j)) (eC (.int 0)) (eVar 9) (eLenO 1)))) (sDSetO 3 (eVar 9) (eOp (gI Builtin.bitOr) (eDGetO 3 (eVar 9) (eC (.int 0))) (eVar 7))) sNext)))) (sRet (eMove 3))))
theorem f_given_by (T : Tb mg) (a : At K mg "given_by" s_given_by) : Fx P w K mg base "given_by" ["doors_at", "lit", "wave"] 1 (SpY K cl (some 1) F_given_by) := by
  have S : FnScope ["doors_at", "lit", "wave", "given", "tick", "_", "needs", "gives", "shift", "goal"] ["doors_at", "lit", "wave"] (defScope s_given_by) := ⟨rfl, rfl, rfl, by decide +kernel, rfl, by decide +kernel, by decide +kernel⟩
  refine fy_mk (m := 3) (O := (fun i => [1, 3].contains i)) (some 1) a S (fun _ _ _ _ _ _ us hl => match us, hl with | [_, _, _], _ => rfl) (by decide) (fun j h => by cases h; exact ⟨by decide, by decide⟩) fun f' cdv A outer s H E gu hr tk => ?_
  have hc : (cxOf (L2.CX P w) P w K mg base ["doors_at", "lit", "wave", "given", "tick", "_", "needs", "gives", "shift", "goal"] "given_by" (defScope s_given_by) f' cdv A outer s H E).calm = true := rfl
  have hu64 : (cxOf (L2.CX P w) P w K mg base ["doors_at", "lit", "wave", "given", "tick", "_", "needs", "gives", "shift", "goal"] "given_by" (defScope s_given_by) f' cdv A outer s H E).A.units + 64 < cLine := hr.units
  have hu : (cxOf (L2.CX P w) P w K mg base ["doors_at", "lit", "wave", "given", "tick", "_", "needs", "gives", "shift", "goal"] "given_by" (defScope s_given_by) f' cdv A outer s H E).A.units + 1 < cLine := Nat.lt_of_le_of_lt (Nat.add_le_add_left (by decide) _) hr.units
  have hu2 : (cxOf (L2.CX P w) P w K mg base ["doors_at", "lit", "wave", "given", "tick", "_", "needs", "gives", "shift", "goal"] "given_by" (defScope s_given_by) f' cdv A outer s H E).A.units + 200 < cLine := Nat.lt_of_le_of_lt (Nat.add_le_add_right (Nat.le_add_right _ (16 * 0)) _) hr.un
  have hu65 : (cxOf (L2.CX P w) P w K mg base ["doors_at", "lit", "wave", "given", "tick", "_", "needs", "gives", "shift", "goal"] "given_by" (defScope s_given_by) f' cdv A outer s H E).A.units + 65 < cLine := Nat.lt_of_le_of_lt (Nat.add_le_add_left (by decide) _) hu2
  exact ⟨_, (pss_cons (ps_set (i := 3) S.nd rfl (by first | exact Or.inl rfl | exact Or.inr rfl) pe_dnewK)
  (pss_cons (ps_for PassesOwn.leaving hc (pi_list (pv 2)) (pg_tup hc (pgs_cons (pg_name (i := 4) S.nd rfl (by first | exact Or.inl rfl | exact Or.inr rfl)) (pgs_cons (pg_name (i := 5) S.nd rfl (by first | exact Or.inl rfl | exact Or.inr rfl)) pgs_nil)))
    (pss_one (ps_for PassesOwn.leaving hc (pi_list (pe_ix ix_list (pv 0) (pv 4) (fun _ _ => rfl))) (pg_tup hc (pgs_cons (pg_name (i := 6) S.nd rfl (by first | exact Or.inl rfl | exact Or.inr rfl)) (pgs_cons (pg_name (i := 7) S.nd rfl (by first | exact Or.inl rfl | exact Or.inr rfl)) (pgs_cons (pg_name (i := 8) S.nd rfl (by first | exact Or.inl rfl | exact Or.inr rfl)) pgs_nil))))
    (pss_cons (ps_set (i := 9) S.nd rfl (by first | exact Or.inl rfl | exact Or.inr rfl) (pe_op op_add (pv 4) (pv 8)))
  (pss_one (ps_if (PW.pt (pw_and (pt_cmpR op_eq (pe_op op_and (pe_ix ix_list (pv 1) (pv 4) (fun _ _ => rfl)) (pv 6)) (pv 6) (nomark _)) (pw_and1 (pt_chain op_le op_lt pe_int (pv 9) (pe_callB call_len_seq (by rfl) T.len (by decide +kernel) (pa_cons (pv 1) pa_nil)))))) (pss_one (ps_asg (pe_op op_or (pe_dget2 (by exact hu) (pv 3) (pv 9) pe_int ⟨rfl, rfl, rfl, rfl⟩) (pv 7)) (pg_sub (pv 3) (pv 9) (set_dict (by exact hu))))) pss_nil))))))
  (pss_one (ps_ret (pv 3))))), (ys_seq (ys_asgO ye_newK) (ys_seq (ys_for (yi_L ye_var) (zg_tup (zgs_cons zg_name (zgs_cons zg_name zgs_nil))) (ys_for (yi_L (ye_op o_ixL ye_var ye_var)) (zg_tup (zgs_cons zg_name (zgs_cons zg_name (zgs_cons zg_name zgs_nil)))) (ys_seq (ys_asg (ye_op o_I ye_var ye_var) zg_name) (ys_if (yt_and (yt_val (ye_op o_eq (ye_op o_I (ye_ixO ye_var) ye_var) ye_var)) (yt_val (ye_chain o_B o_B ye_int ye_var ye_lenO))) (ys_dsetO (ye_op o_I (ye_dgetO ye_var ye_int) ye_var) ye_var) ys_next)))) (ys_ret ye_move)))⟩
abbrev s_waves_from : Stmt := topS 28
def F_waves_from : List PyData → FR := fnY 2 8 none (sSeq (sAsgO 2 (eListOf (eVar 1))) (sSeq (sAsg (eFz (eListEnO 2)) (gN 3)) (sSeq (sAsgO 4 (eLst aNil)) (sSeq (sWhile (tVal' (eOp (gB fun i j => decide (j < i)) (eCB gLen (aCons (eVar 3) aNil)) (eC (.int 0)))) (sSeq (sApp 4 (eVar 3)) (sSeq (sAsg (eFz (eCall F_given_by [.s 0, .o 2, .d] (aCons (eVar 0) (aOwnS 2 (aCons (eVar 3) aNil))))) (gN 5)) (sSeq (sAsg (eFz (eLc (iL (eCB gSortedD (aCons (eVar 5) aNil))) [6] (gN 6) (tTru' (eOp (gI Builtin.bitAnd) (eOp gDIx (eVar 5) (eVar 6)) (eUn (gUI Builtin.bitNot) (eIxO 2 (eVar 6))))) (eTup (aCons (eVar 6) (aCons (eOp (gI Builtin.bitAnd) (eOp gDIx (eVar 5) (eVar 6)) (eUn (gUI Builtin.bitNot) (eIxO 2 (eVar 6)))) aNil))))) (gN 3)) (sFor (iL (eVar 3)) (gT [(gN 6), (gN 7)]) (sAugO 2 (gI Builtin.bitOr) (eVar 6) (eVar 7)))))) 1000) (sRet (eMove 4))))))
theorem f_waves_from (T : Tb mg) (a : At K mg "waves_from" s_waves_from) (c_given_by : Fx P w K mg base "given_by" ["doors_at", "lit", "wave"] 1 (SpY K cl (some 1) F_given_by)) : Fx P w K mg base "waves_from" ["doors_at", "pressed"] 2 (SpY K cl none F_waves_from) := by
  have S : FnScope ["doors_at", "pressed", "lit", "wave", "waves", "given", "tick", "mask"] ["doors_at", "pressed"] (defScope s_waves_from) := ⟨rfl, rfl, rfl, by decide +kernel, rfl, by decide +kernel, by decide +kernel⟩
  refine fy_mk (m := 2) (O := (fun i => [2, 4].contains i)) none a S (fun _ _ _ _ _ _ us hl => match us, hl with | [_, _], _ => rfl) (by decide) (fun j h => nomatch h) fun f' cdv A outer s H E gu hr tk => ?_
  have hc : (cxOf (L2.CX P w) P w K mg base ["doors_at", "pressed", "lit", "wave", "waves", "given", "tick", "mask"] "waves_from" (defScope s_waves_from) f' cdv A outer s H E).calm = true := rfl
  have hu64 : (cxOf (L2.CX P w) P w K mg base ["doors_at", "pressed", "lit", "wave", "waves", "given", "tick", "mask"] "waves_from" (defScope s_waves_from) f' cdv A outer s H E).A.units + 64 < cLine := hr.units
  have hu : (cxOf (L2.CX P w) P w K mg base ["doors_at", "pressed", "lit", "wave", "waves", "given", "tick", "mask"] "waves_from" (defScope s_waves_from) f' cdv A outer s H E).A.units + 1 < cLine := Nat.lt_of_le_of_lt (Nat.add_le_add_left (by decide) _) hr.units
  have hu2 : (cxOf (L2.CX P w) P w K mg base ["doors_at", "pressed", "lit", "wave", "waves", "given", "tick", "mask"] "waves_from" (defScope s_waves_from) f' cdv A outer s H E).A.units + 200 < cLine := Nat.lt_of_le_of_lt (Nat.add_le_add_right (Nat.le_add_right _ (16 * 1)) _) hr.un
  have hu65 : (cxOf (L2.CX P w) P w K mg base ["doors_at", "pressed", "lit", "wave", "waves", "given", "tick", "mask"] "waves_from" (defScope s_waves_from) f' cdv A outer s H E).A.units + 65 < cLine := Nat.lt_of_le_of_lt (Nat.add_le_add_left (by decide) _) hu2
  exact ⟨_, (pss_cons (ps_set (i := 2) S.nd rfl (by first | exact Or.inl rfl | exact Or.inr rfl) (pe_callTy call_list_of (by rfl) T.list (by decide +kernel) (pa_cons (pv 1) pa_nil)))
  (pss_cons (ps_set (i := 3) S.nd rfl (by first | exact Or.inl rfl | exact Or.inr rfl) (pe_callTy (call_listEnR rfl) (by rfl) T.list (by decide +kernel) (pa_cons (pe_callTy (call_enumR rfl) (by rfl) T.enumerate (by decide +kernel) (pa_cons (pv 2) pa_nil)) pa_nil)))
  (pss_cons (ps_set (i := 4) S.nd rfl (by first | exact Or.inl rfl | exact Or.inr rfl) (pe_lst pa_nil))
  (pss_cons (ps_while PassesOwn.leaving (pt_cmpR op_gt (pe_callB call_len_seq (by rfl) T.len (by decide +kernel) (pa_cons (pv 3) pa_nil)) pe_int (nomark _))
    (pss_cons (ps_expr (pe_bm PySem.F.plainAttrs_list PySem.F.slot_list_append PySem.F.type_list_append mt_append (pv 4) (pa_cons (pv 3) pa_nil)))
  (pss_cons (ps_set (i := 5) S.nd rfl (by first | exact Or.inl rfl | exact Or.inr rfl) (pe_fx c_given_by gu (hr.mono (by decide)) (by rfl) (fun σ => passAt tk σ) (pa_cons (pv 0) (pa_cons (pv 2) (pa_cons (pv 3) pa_nil)))))
  (pss_cons (ps_setLc (i := 3) (own := [("tick", 6)]) hc S.nd rfl rfl (sw_true rfl rfl rfl (by decide +kernel)) (pi_list (pe_callB (call_sortedDI rfl) (by rfl) T.sorted (by decide +kernel) (pa_cons (pv 5) pa_nil))) (blkOk_by (N := ["doors_at", "pressed", "lit", "wave", "waves", "given", "tick", "mask"]) (sc := defScope s_waves_from) (by decide +kernel)) (fun _ _ _ _ _ => (pg_name (i := 6) S.nd rfl (by first | exact Or.inl rfl | exact Or.inr rfl))) (fun _ _ _ _ _ => (pts_one (pt_truth (pe_op op_and (pe_dget (by exact hu) (pv 5) (pv 6) (fun _ _ => rfl)) (pe_un un_inv (pe_ix (ix_listK (K := K) rfl) (pv 2) (pv 6) (fun _ _ => rfl)))) (fun _ => rfl)))) (fun _ _ _ _ _ => (pe_tup (pa_cons (pv 6) (pa_cons (pe_op op_and (pe_dget (by exact hu) (pv 5) (pv 6) (fun _ _ => rfl)) (pe_un un_inv (pe_ix (ix_listK (K := K) rfl) (pv 2) (pv 6) (fun _ _ => rfl)))) pa_nil)))))
  (pss_one (ps_for PassesOwn.leaving hc (pi_list (pv 3)) (pg_tup hc (pgs_cons (pg_name (i := 6) S.nd rfl (by first | exact Or.inl rfl | exact Or.inr rfl)) (pgs_cons (pg_name (i := 7) S.nd rfl (by first | exact Or.inl rfl | exact Or.inr rfl)) pgs_nil)))
    (pss_one (ps_augS (pv 2) (pv 6) get_list0 (pv 7) iop_or set_list))))))))
  (pss_one (ps_ret (pv 4))))))), (ys_seq (ys_asgO (ye_listOf ye_var)) (ys_seq (ys_asg (ye_fz ye_listEnO) zg_name) (ys_seq (ys_asgO (ye_lst ya_nil)) (ys_seq (ys_while (yt_val (ye_op o_B (ye_cb c_len (ya_cons ye_var ya_nil)) ye_int)) (ys_seq (ys_app ye_var) (ys_seq (ys_asg (ye_fz (ye_call (ya_var (ya_ownS (ya_cons ye_var ya_nil))))) zg_name) (ys_seq (ys_asg (ye_fz (ye_lc (E' := fun _ _ _ => False) (yi_L (ye_cb c_sortedD (ya_cons ye_var ya_nil))) zgw_name (yt_truth (ye_op o_I (ye_dix ye_var ye_var) (ye_un o_U (ye_ixO ye_var)))) (ye_tup (ya_cons ye_var (ya_cons (ye_op o_I (ye_dix ye_var ye_var) (ye_un o_U (ye_ixO ye_var))) ya_nil))))) zg_name) (ys_for (yi_L ye_var) (zg_tup (zgs_cons zg_name (zgs_cons zg_name zgs_nil))) (ys_augO o_I ye_var ye_var))))) 1000) (ys_ret ye_move)))))⟩
abbrev s_waves_of : Stmt := topS 27
def F_waves_of : List PyData → FR := fnY 2 5 none (sSeq (sAsg (eFz (eCall F_door_masks [.s 0] (aCons (eVar 0) aNil))) (gN 2)) (sRet (eCall F_waves_from [.d, .d] (aCons (eFz (eLc (iL (eVar 1)) [3] (gN 3) tYesZ (eVar 2))) (aCons (eFz (eLc (iL (eVar 1)) [4] (gN 4) tYesZ (eFz (eCall F_mask_of [.d] (aCons (eVar 4) aNil))))) aNil)))))
theorem f_waves_of (a : At K mg "waves_of" s_waves_of) (c_door_masks : Fx P w K mg base "door_masks" ["level"] 2 (SpY K cl none F_door_masks)) (c_mask_of : Fx P w K mg base "mask_of" ["lights"] 1 (SpY K cl none F_mask_of)) (c_waves_from : Fx P w K mg base "waves_from" ["doors_at", "pressed"] 2 (SpY K cl none F_waves_from)) : Fx P w K mg base "waves_of" ["level", "presses"] 3 (SpY K cl none F_waves_of) := by
  have S : FnScope ["level", "presses", "doors", "_", "lights"] ["level", "presses"] (defScope s_waves_of) := ⟨rfl, rfl, rfl, by decide +kernel, rfl, by decide +kernel, by decide +kernel⟩
  refine fy_mk (m := 2) (O := (fun i => [].contains i)) none a S (fun _ _ _ _ _ _ us hl => match us, hl with | [_, _], _ => rfl) (by decide) (fun j h => nomatch h) fun f' cdv A outer s H E gu hr tk => ?_
  have hc : (cxOf (L2.CX P w) P w K mg base ["level", "presses", "doors", "_", "lights"] "waves_of" (defScope s_waves_of) f' cdv A outer s H E).calm = true := rfl
  have hu64 : (cxOf (L2.CX P w) P w K mg base ["level", "presses", "doors", "_", "lights"] "waves_of" (defScope s_waves_of) f' cdv A outer s H E).A.units + 64 < cLine := hr.units
  have hu : (cxOf (L2.CX P w) P w K mg base ["level", "presses", "doors", "_", "lights"] "waves_of" (defScope s_waves_of) f' cdv A outer s H E).A.units + 1 < cLine := Nat.lt_of_le_of_lt (Nat.add_le_add_left (by decide) _) hr.units
  have hu2 : (cxOf (L2.CX P w) P w K mg base ["level", "presses", "doors", "_", "lights"] "waves_of" (defScope s_waves_of) f' cdv A outer s H E).A.units + 200 < cLine := Nat.lt_of_le_of_lt (Nat.add_le_add_right (Nat.le_add_right _ (16 * 2)) _) hr.un
  have hu65 : (cxOf (L2.CX P w) P w K mg base ["level", "presses", "doors", "_", "lights"] "waves_of" (defScope s_waves_of) f' cdv A outer s H E).A.units + 65 < cLine := Nat.lt_of_le_of_lt (Nat.add_le_add_left (by decide) _) hu2
  exact ⟨_, (pss_cons (ps_set (i := 2) S.nd rfl (by first | exact Or.inl rfl | exact Or.inr rfl) (pe_fx c_door_masks gu (hr.mono (by decide)) (by rfl) (fun σ => passAt tk σ) (pa_cons (pv 0) pa_nil)))
  (pss_one (ps_ret (pe_fx c_waves_from gu (hr.mono (by decide)) (by rfl) (fun σ => passAt tk σ) (pa_cons (pe_lc (own := [("_", 3)]) hc S.nd (pi_list (pv 1)) (blkOk_by (N := ["level", "presses", "doors", "_", "lights"]) (sc := defScope s_waves_of) (by decide +kernel)) (fun _ _ _ _ _ => (pg_name (i := 3) S.nd rfl (by first | exact Or.inl rfl | exact Or.inr rfl))) (fun _ _ _ _ _ => pts_nil) (fun _ _ _ _ _ => (pv 2))) (pa_cons (pe_lc (own := [("lights", 4)]) hc S.nd (pi_list (pv 1)) (blkOk_by (N := ["level", "presses", "doors", "_", "lights"]) (sc := defScope s_waves_of) (by decide +kernel)) (fun _ _ _ _ _ => (pg_name (i := 4) S.nd rfl (by first | exact Or.inl rfl | exact Or.inr rfl))) (fun _ _ _ _ _ => pts_nil) (fun _ _ _ _ _ => (pe_fx c_mask_of gu (hr.mono (by decide)) (by rfl) (fun _ => pass_no) (pa_cons (pv 4) pa_nil)))) pa_nil)))))), (ys_seq (ys_asg (ye_fz (ye_call (ya_var ya_nil))) zg_name) (ys_ret (ye_call (ya_cons (ye_fz (ye_lc (E' := fun _ _ _ => False) (yi_L ye_var) zgw_name yt_yes ye_var)) (ya_cons (ye_fz (ye_lc (E' := fun _ _ _ => False) (yi_L ye_var) zgw_name yt_yes (ye_fz (ye_call0 (ya_cons ye_var ya_nil))))) ya_nil)))))⟩
abbrev s_masks_of_waves : Stmt := topS 31
def F_masks_of_waves : List PyData → FR := fnY 2 7 none (sSeq (sAsgO 3 (eLc (iR1 (aCons (eVar 0) aNil)) [2] (gN 2) tYesZ (eC (.int 0)))) (sSeq (sFor (iL (eVar 1)) (gN 4) (sFor (iL (eVar 4)) (gT [(gN 5), (gN 6)]) (sAugO 3 (gI Builtin.bitOr) (eVar 5) (eVar 6)))) (sRet (eMove 3))))
theorem f_masks_of_waves (T : Tb mg) (a : At K mg "masks_of_waves" s_masks_of_waves) : Fx P w K mg base "masks_of_waves" ["ticks", "waves"] 1 (SpY K cl none F_masks_of_waves) := by
  have S : FnScope ["ticks", "waves", "_", "lit", "wave", "tick", "mask"] ["ticks", "waves"] (defScope s_masks_of_waves) := ⟨rfl, rfl, rfl, by decide +kernel, rfl, by decide +kernel, by decide +kernel⟩
  refine fy_mk (m := 2) (O := (fun i => [3].contains i)) none a S (fun _ _ _ _ _ _ us hl => match us, hl with | [_, _], _ => rfl) (by decide) (fun j h => nomatch h) fun f' cdv A outer s H E gu hr tk => ?_
  have hc : (cxOf (L2.CX P w) P w K mg base ["ticks", "waves", "_", "lit", "wave", "tick", "mask"] "masks_of_waves" (defScope s_masks_of_waves) f' cdv A outer s H E).calm = true := rfl
  have hu64 : (cxOf (L2.CX P w) P w K mg base ["ticks", "waves", "_", "lit", "wave", "tick", "mask"] "masks_of_waves" (defScope s_masks_of_waves) f' cdv A outer s H E).A.units + 64 < cLine := hr.units
  have hu : (cxOf (L2.CX P w) P w K mg base ["ticks", "waves", "_", "lit", "wave", "tick", "mask"] "masks_of_waves" (defScope s_masks_of_waves) f' cdv A outer s H E).A.units + 1 < cLine := Nat.lt_of_le_of_lt (Nat.add_le_add_left (by decide) _) hr.units
  have hu2 : (cxOf (L2.CX P w) P w K mg base ["ticks", "waves", "_", "lit", "wave", "tick", "mask"] "masks_of_waves" (defScope s_masks_of_waves) f' cdv A outer s H E).A.units + 200 < cLine := Nat.lt_of_le_of_lt (Nat.add_le_add_right (Nat.le_add_right _ (16 * 0)) _) hr.un
  have hu65 : (cxOf (L2.CX P w) P w K mg base ["ticks", "waves", "_", "lit", "wave", "tick", "mask"] "masks_of_waves" (defScope s_masks_of_waves) f' cdv A outer s H E).A.units + 65 < cLine := Nat.lt_of_le_of_lt (Nat.add_le_add_left (by decide) _) hu2
  exact ⟨_, (pss_cons (ps_setLc (i := 3) (own := [("_", 2)]) hc S.nd rfl rfl (sw_true rfl rfl rfl (by decide +kernel)) (pi_range1 (by rfl) T.range (pa_cons (pv 0) pa_nil)) (blkOk_by (N := ["ticks", "waves", "_", "lit", "wave", "tick", "mask"]) (sc := defScope s_masks_of_waves) (by decide +kernel)) (fun _ _ _ _ _ => (pg_name (i := 2) S.nd rfl (by first | exact Or.inl rfl | exact Or.inr rfl))) (fun _ _ _ _ _ => pts_nil) (fun _ _ _ _ _ => pe_int))
  (pss_cons (ps_for PassesOwn.leaving hc (pi_list (pv 1)) (pg_name (i := 4) S.nd rfl (by first | exact Or.inl rfl | exact Or.inr rfl))
    (pss_one (ps_for PassesOwn.leaving hc (pi_list (pv 4)) (pg_tup hc (pgs_cons (pg_name (i := 5) S.nd rfl (by first | exact Or.inl rfl | exact Or.inr rfl)) (pgs_cons (pg_name (i := 6) S.nd rfl (by first | exact Or.inl rfl | exact Or.inr rfl)) pgs_nil)))
    (pss_one (ps_augS (pv 3) (pv 5) get_list0 (pv 6) iop_or set_list)))))
  (pss_one (ps_ret (pv 3))))), (ys_seq (ys_asgO (ye_lc (E' := fun _ _ _ => False) (yi_R1 (ya_cons ye_var ya_nil)) zgw_name yt_yes ye_int)) (ys_seq (ys_for (yi_L ye_var) zg_name (ys_for (yi_L ye_var) (zg_tup (zgs_cons zg_name (zgs_cons zg_name zgs_nil))) (ys_augO o_I ye_var ye_var))) (ys_ret ye_move)))⟩
abbrev s_light_masks : Stmt := topS 30
def F_light_masks : List PyData → FR := fnY 2 2 none (sRet (eCall F_masks_of_waves [.d, .d] (aCons (eCB gLen (aCons (eVar 1) aNil)) (aCons (eFz (eCall F_waves_of [.s 0, .s 1] (aCons (eVar 0) (aCons (eVar 1) aNil)))) aNil))))
theorem f_light_masks (T : Tb mg) (a : At K mg "light_masks" s_light_masks) (c_waves_of : Fx P w K mg base "waves_of" ["level", "presses"] 3 (SpY K cl none F_waves_of)) (c_masks_of_waves : Fx P w K mg base "masks_of_waves" ["ticks", "waves"] 1 (SpY K cl none F_masks_of_waves)) : Fx P w K mg base "light_masks" ["level", "presses"] 4 (SpY K cl none F_light_masks) := by
  have S : FnScope ["level", "presses"] ["level", "presses"] (defScope s_light_masks) := ⟨rfl, rfl, rfl, by decide +kernel, rfl, by decide +kernel, by decide +kernel⟩
  refine fy_mk (m := 2) (O := (fun i => [].contains i)) none a S (fun _ _ _ _ _ _ us hl => match us, hl with | [_, _], _ => rfl) (by decide) (fun j h => nomatch h) fun f' cdv A outer s H E gu hr tk => ?_
  have hc : (cxOf (L2.CX P w) P w K mg base ["level", "presses"] "light_masks" (defScope s_light_masks) f' cdv A outer s H E).calm = true := rfl
  have hu64 : (cxOf (L2.CX P w) P w K mg base ["level", "presses"] "light_masks" (defScope s_light_masks) f' cdv A outer s H E).A.units + 64 < cLine := hr.units
  have hu : (cxOf (L2.CX P w) P w K mg base ["level", "presses"] "light_masks" (defScope s_light_masks) f' cdv A outer s H E).A.units + 1 < cLine := Nat.lt_of_le_of_lt (Nat.add_le_add_left (by decide) _) hr.units
  have hu2 : (cxOf (L2.CX P w) P w K mg base ["level", "presses"] "light_masks" (defScope s_light_masks) f' cdv A outer s H E).A.units + 200 < cLine := Nat.lt_of_le_of_lt (Nat.add_le_add_right (Nat.le_add_right _ (16 * 3)) _) hr.un
  have hu65 : (cxOf (L2.CX P w) P w K mg base ["level", "presses"] "light_masks" (defScope s_light_masks) f' cdv A outer s H E).A.units + 65 < cLine := Nat.lt_of_le_of_lt (Nat.add_le_add_left (by decide) _) hu2
  exact ⟨_, (pss_one (ps_ret (pe_fx c_masks_of_waves gu (hr.mono (by decide)) (by rfl) (fun σ => passAt tk σ) (pa_cons (pe_callB call_len_seq (by rfl) T.len (by decide +kernel) (pa_cons (pv 1) pa_nil)) (pa_cons (pe_fx c_waves_of gu (hr.mono (by decide)) (by rfl) (fun σ => passAt tk σ) (pa_cons (pv 0) (pa_cons (pv 1) pa_nil))) pa_nil))))), (ys_ret (ye_call (ya_cons (ye_cb c_len (ya_cons ye_var ya_nil)) (ya_cons (ye_fz (ye_call (ya_var (ya_var ya_nil)))) ya_nil))))⟩
end
end TD
set_option maxHeartbeats 4000000
namespace TD
open PySem PySem.Spec PyProof.Rows L2
open Evl (Ex)
section
variable {P : Program} {w : World} {K : Fg} {mg : Str → Option Value} {base : Heap} {cl : Nat → Addr} {aP : Addr}
abbrev s_round_numbers : Stmt := topS 32
def F_round_numbers : List PyData → FR := fnY 2 9 none (sSeq (sAsgO 3 (eLcR (iL (eVar 1)) [2] (gN 2) tYesZ (eLc (iR1 (aCons (eOp gIxT (eVar 0) (eC (.int 0))) aNil)) [2] (gN 2) tYesZ (eC .none)))) (sSeq (sFor (iEn (aCons (eFz (eCall F_waves_of [.s 0, .s 1] (aCons (eVar 0) (aCons (eVar 1) aNil)))) aNil)) (gT [(gN 4), (gN 5)]) (sFor (iL (eVar 5)) (gT [(gN 6), (gN 7)]) (sFor (iL (eFz (eCall F_lights_of [.d] (aCons (eVar 7) aNil)))) (gN 8) (sSetR 3 (gPure [3] (eVar 6)) (gPure [3] (eVar 8)) (gPure [3] (eVar 4)))))) (sRet (eMove 3))))
theorem f_round_numbers (T : Tb mg) (a : At K mg "round_numbers" s_round_numbers) (c_waves_of : Fx P w K mg base "waves_of" ["level", "presses"] 3 (SpY K cl none F_waves_of)) (c_lights_of : Fx P w K mg base "lights_of" ["mask"] 1 (SpY K cl none F_lights_of)) : Fx P w K mg base "round_numbers" ["level", "presses"] 4 (SpY K cl none F_round_numbers) := by
  have S : FnScope ["level", "presses", "_", "numbers", "number", "wave", "tick", "mask", "room"] ["level", "presses"] (defScope s_round_numbers) := ⟨rfl, rfl, rfl, by decide +kernel, rfl, by decide +kernel, by decide +kernel⟩
  refine fy_mk (m := 2) (O := (fun i => [3].contains i)) none a S (fun _ _ _ _ _ _ us hl => match us, hl with | [_, _], _ => rfl) (by decide) (fun j h => nomatch h) fun f' cdv A outer s H E gu hr tk => ?_
  have hc : (cxOf (L2.CX P w) P w K mg base ["level", "presses", "_", "numbers", "number", "wave", "tick", "mask", "room"] "round_numbers" (defScope s_round_numbers) f' cdv A outer s H E).calm = true := rfl
  have hu64 : (cxOf (L2.CX P w) P w K mg base ["level", "presses", "_", "numbers", "number", "wave", "tick", "mask", "room"] "round_numbers" (defScope s_round_numbers) f' cdv A outer s H E).A.units + 64 < cLine := hr.units
  have hu : (cxOf (L2.CX P w) P w K mg base ["level", "presses", "_", "numbers", "number", "wave", "tick", "mask", "room"] "round_numbers" (defScope s_round_numbers) f' cdv A outer s H E).A.units + 1 < cLine := Nat.lt_of_le_of_lt (Nat.add_le_add_left (by decide) _) hr.units
  have hu2 : (cxOf (L2.CX P w) P w K mg base ["level", "presses", "_", "numbers", "number", "wave", "tick", "mask", "room"] "round_numbers" (defScope s_round_numbers) f' cdv A outer s H E).A.units + 200 < cLine := Nat.lt_of_le_of_lt (Nat.add_le_add_right (Nat.le_add_right _ (16 * 3)) _) hr.un
  have hu65 : (cxOf (L2.CX P w) P w K mg base ["level", "presses", "_", "numbers", "number", "wave", "tick", "mask", "room"] "round_numbers" (defScope s_round_numbers) f' cdv A outer s H E).A.units + 65 < cLine := Nat.lt_of_le_of_lt (Nat.add_le_add_left (by decide) _) hu2
  exact ⟨_, (pss_cons (ps_setLc (i := 3) (own := [("_", 2)]) hc S.nd rfl rfl (sw_true rfl rfl rfl (by decide +kernel)) (pi_list (pv 1)) (blkOk_by (N := ["level", "presses", "_", "numbers", "number", "wave", "tick", "mask", "room"]) (sc := defScope s_round_numbers) (by decide +kernel)) (fun _ _ _ _ _ => (pg_name (i := 2) S.nd rfl (by first | exact Or.inl rfl | exact Or.inr rfl))) (fun _ _ _ _ _ => pts_nil) (fun _ _ _ _ _ => (pe_lc (own := [("_", 2)]) hc S.nd (pi_range1 (by rfl) T.range (pa_cons (pe_ix (ix_tupK (K := K) rfl) (pv 0) pe_int (fun _ _ => rfl)) pa_nil)) (blkOk_by (N := ["level", "presses", "_", "numbers", "number", "wave", "tick", "mask", "room"]) (sc := relabS (compSc (atE (defBody s_round_numbers) [(0, 0)] [])) (defScope s_round_numbers)) (by decide +kernel)) (fun _ _ _ _ _ => (pg_name (i := 2) S.nd rfl (by first | exact Or.inl rfl | exact Or.inr rfl))) (fun _ _ _ _ _ => pts_nil) (fun _ _ _ _ _ => pe_non))))
  (pss_cons (ps_for PassesOwn.leaving hc (pi_enum (by rfl) T.enumerate (pa_cons (pe_fx c_waves_of gu (hr.mono (by decide)) (by rfl) (fun σ => passAt tk σ) (pa_cons (pv 0) (pa_cons (pv 1) pa_nil))) pa_nil)) (pg_tup hc (pgs_cons (pg_name (i := 4) S.nd rfl (by first | exact Or.inl rfl | exact Or.inr rfl)) (pgs_cons (pg_name (i := 5) S.nd rfl (by first | exact Or.inl rfl | exact Or.inr rfl)) pgs_nil)))
    (pss_one (ps_for PassesOwn.leaving hc (pi_list (pv 5)) (pg_tup hc (pgs_cons (pg_name (i := 6) S.nd rfl (by first | exact Or.inl rfl | exact Or.inr rfl)) (pgs_cons (pg_name (i := 7) S.nd rfl (by first | exact Or.inl rfl | exact Or.inr rfl)) pgs_nil)))
    (pss_one (ps_for PassesOwn.leaving hc (pi_list (pe_fx c_lights_of gu (hr.mono (by decide)) (by rfl) (fun σ => passAt tk σ) (pa_cons (pv 7) pa_nil))) (pg_name (i := 8) S.nd rfl (by first | exact Or.inl rfl | exact Or.inr rfl))
    (pss_one (ps_asg (pv 4) (pg_sub (pe_ix ix_list (pv 3) (pv 6) (fun _ _ => rfl)) (pv 8) set_list))))))))
  (pss_one (ps_ret (pv 3))))), (ys_seq (ys_asgO (ye_lcR (E' := fun _ _ _ => False) (yi_L ye_var) zgw_name yt_yes (ye_lc (E' := fun _ _ _ => False) (yi_R1 (ya_cons (ye_op o_ixT ye_var ye_int) ya_nil)) zgw_name yt_yes ye_non))) (ys_seq (ys_for (yi_En (ya_cons (ye_fz (ye_call (ya_var (ya_var ya_nil)))) ya_nil)) (zg_tup (zgs_cons zg_name (zgs_cons zg_name zgs_nil))) (ys_for (yi_L ye_var) (zg_tup (zgs_cons zg_name (zgs_cons zg_name zgs_nil))) (ys_for (yi_L (ye_fz (ye_call (ya_cons ye_var ya_nil)))) zg_name (ys_setR (yp_pure (os := [3]) (cl := cl) (E := fun _ _ _ => False) (m := 0) ye_var) (yp_pure (os := [3]) (cl := cl) (E := fun _ _ _ => False) (m := 0) ye_var) (yp_pure (os := [3]) (cl := cl) (E := fun _ _ _ => False) (m := 0) ye_var))))) (ys_ret ye_move)))⟩
abbrev s_light : Stmt := topS 34
def F_light : List PyData → FR := fnY 2 3 none (sSeq (sDrop (eFz (eCall F_check_level [.s 0] (aCons (eVar 0) aNil)))) (sSeq (sDrop (eFz (eCall F_check_presses [.s 0, .s 1] (aCons (eVar 0) (aCons (eVar 1) aNil))))) (sRet (eLcR (iL (eFz (eCall F_light_masks [.s 0, .s 1] (aCons (eVar 0) (aCons (eVar 1) aNil))))) [2] (gN 2) tYesZ (eCall F_lights_of [.d] (aCons (eVar 2) aNil))))))
theorem f_light (a : At K mg "light" s_light) (c_check_level : Fx P w K mg base "check_level" ["level"] 9 (SpY K cl none F_check_level)) (c_check_presses : Fx P w K mg base "check_presses" ["level", "presses"] 6 (SpY K cl none F_check_presses)) (c_light_masks : Fx P w K mg base "light_masks" ["level", "presses"] 4 (SpY K cl none F_light_masks)) (c_lights_of : Fx P w K mg base "lights_of" ["mask"] 1 (SpY K cl none F_lights_of)) : Fx P w K mg base "light" ["level", "presses"] 10 (SpY K cl none F_light) ∧ Fxk P w K mg base "light" ["level", "presses"] ["presses", "level"] [1, 0] 10 (SpY K cl none F_light) := by
  have S : FnScope ["level", "presses", "mask"] ["level", "presses"] (defScope s_light) := ⟨rfl, rfl, rfl, by decide +kernel, rfl, by decide +kernel, by decide +kernel⟩
  refine fy_mk2 (m := 2) (O := (fun i => [].contains i)) (ks := ["presses", "level"]) (is := [1, 0]) none a S (fun _ _ _ _ _ _ us hl => match us, hl with | [_, _], _ => rfl) (fun _ _ _ _ _ _ us hl => match us, hl with | [_, _], _ => rfl) (by decide) (fun j h => nomatch h) fun f' cdv A outer s H E gu hr tk => ?_
  have hc : (cxOf (L2.CX P w) P w K mg base ["level", "presses", "mask"] "light" (defScope s_light) f' cdv A outer s H E).calm = true := rfl
  have hu64 : (cxOf (L2.CX P w) P w K mg base ["level", "presses", "mask"] "light" (defScope s_light) f' cdv A outer s H E).A.units + 64 < cLine := hr.units
  have hu : (cxOf (L2.CX P w) P w K mg base ["level", "presses", "mask"] "light" (defScope s_light) f' cdv A outer s H E).A.units + 1 < cLine := Nat.lt_of_le_of_lt (Nat.add_le_add_left (by decide) _) hr.units
  have hu2 : (cxOf (L2.CX P w) P w K mg base ["level", "presses", "mask"] "light" (defScope s_light) f' cdv A outer s H E).A.units + 200 < cLine := Nat.lt_of_le_of_lt (Nat.add_le_add_right (Nat.le_add_right _ (16 * 9)) _) hr.un
  have hu65 : (cxOf (L2.CX P w) P w K mg base ["level", "presses", "mask"] "light" (defScope s_light) f' cdv A outer s H E).A.units + 65 < cLine := Nat.lt_of_le_of_lt (Nat.add_le_add_left (by decide) _) hu2
  exact ⟨_, (pss_cons (ps_expr (pe_fx c_check_level gu (hr.mono (by decide)) (by rfl) (fun σ => passAt tk σ) (pa_cons (pv 0) pa_nil)))
  (pss_cons (ps_expr (pe_fx c_check_presses gu (hr.mono (by decide)) (by rfl) (fun σ => passAt tk σ) (pa_cons (pv 0) (pa_cons (pv 1) pa_nil))))
  (pss_one (ps_ret (pe_lc (own := [("mask", 2)]) hc S.nd (pi_list (pe_fx c_light_masks gu (hr.mono (by decide)) (by rfl) (fun σ => passAt tk σ) (pa_cons (pv 0) (pa_cons (pv 1) pa_nil)))) (blkOk_by (N := ["level", "presses", "mask"]) (sc := defScope s_light) (by decide +kernel)) (fun _ _ _ _ _ => (pg_name (i := 2) S.nd rfl (by first | exact Or.inl rfl | exact Or.inr rfl))) (fun _ _ _ _ _ => pts_nil) (fun _ _ _ _ _ => (pe_fx c_lights_of gu (hr.mono (by decide)) (by rfl) (fun _ => pass_no) (pa_cons (pv 2) pa_nil)))))))), (ys_seq (ys_drop (ye_fz (ye_call (ya_var ya_nil)))) (ys_seq (ys_drop (ye_fz (ye_call (ya_var (ya_var ya_nil))))) (ys_ret (ye_lcR (E' := fun _ _ _ => False) (yi_L (ye_fz (ye_call (ya_var (ya_var ya_nil))))) zgw_name yt_yes (ye_call0 (ya_cons ye_var ya_nil))))))⟩
abbrev s_keeps : Stmt := topS 35
def F_keeps : List PyData → FR := fnY 3 3 none (sSeq (sDrop (eFz (eCall F_check_level [.s 0] (aCons (eVar 0) aNil)))) (sSeq (sDrop (eFz (eCall F_check_presses [.s 0, .s 1] (aCons (eVar 0) (aCons (eVar 1) aNil))))) (sRet (eCall F_is_keeping [.s 0, .s 1, .s 2] (aCons (eVar 0) (aCons (eVar 1) (aCons (eVar 2) aNil)))))))
theorem f_keeps (a : At K mg "keeps" s_keeps) (c_check_level : Fx P w K mg base "check_level" ["level"] 9 (SpY K cl none F_check_level)) (c_check_presses : Fx P w K mg base "check_presses" ["level", "presses"] 6 (SpY K cl none F_check_presses)) (c_is_keeping : Fx P w K mg base "is_keeping" ["level", "presses", "value"] 6 (SpY K cl none F_is_keeping)) : Fx P w K mg base "keeps" ["level", "presses", "value"] 10 (SpY K cl none F_keeps) := by
  have S : FnScope ["level", "presses", "value"] ["level", "presses", "value"] (defScope s_keeps) := ⟨rfl, rfl, rfl, by decide +kernel, rfl, by decide +kernel, by decide +kernel⟩
  refine fy_mk (m := 3) (O := (fun i => [].contains i)) none a S (fun _ _ _ _ _ _ us hl => match us, hl with | [_, _, _], _ => rfl) (by decide) (fun j h => nomatch h) fun f' cdv A outer s H E gu hr tk => ?_
  have hc : (cxOf (L2.CX P w) P w K mg base ["level", "presses", "value"] "keeps" (defScope s_keeps) f' cdv A outer s H E).calm = true := rfl
  have hu64 : (cxOf (L2.CX P w) P w K mg base ["level", "presses", "value"] "keeps" (defScope s_keeps) f' cdv A outer s H E).A.units + 64 < cLine := hr.units
  have hu : (cxOf (L2.CX P w) P w K mg base ["level", "presses", "value"] "keeps" (defScope s_keeps) f' cdv A outer s H E).A.units + 1 < cLine := Nat.lt_of_le_of_lt (Nat.add_le_add_left (by decide) _) hr.units
  have hu2 : (cxOf (L2.CX P w) P w K mg base ["level", "presses", "value"] "keeps" (defScope s_keeps) f' cdv A outer s H E).A.units + 200 < cLine := Nat.lt_of_le_of_lt (Nat.add_le_add_right (Nat.le_add_right _ (16 * 9)) _) hr.un
  have hu65 : (cxOf (L2.CX P w) P w K mg base ["level", "presses", "value"] "keeps" (defScope s_keeps) f' cdv A outer s H E).A.units + 65 < cLine := Nat.lt_of_le_of_lt (Nat.add_le_add_left (by decide) _) hu2
  exact ⟨_, (pss_cons (ps_expr (pe_fx c_check_level gu (hr.mono (by decide)) (by rfl) (fun σ => passAt tk σ) (pa_cons (pv 0) pa_nil)))
  (pss_cons (ps_expr (pe_fx c_check_presses gu (hr.mono (by decide)) (by rfl) (fun σ => passAt tk σ) (pa_cons (pv 0) (pa_cons (pv 1) pa_nil))))
  (pss_one (ps_ret (pe_fx c_is_keeping gu (hr.mono (by decide)) (by rfl) (fun σ => passAt tk σ) (pa_cons (pv 0) (pa_cons (pv 1) (pa_cons (pv 2) pa_nil)))))))), (ys_seq (ys_drop (ye_fz (ye_call (ya_var ya_nil)))) (ys_seq (ys_drop (ye_fz (ye_call (ya_var (ya_var ya_nil))))) (ys_ret (ye_call (ya_var (ya_var (ya_var ya_nil)))))))⟩
abbrev s_lit_rounds : Stmt := topS 36
def F_lit_rounds : List PyData → FR := fnY 2 2 none (sSeq (sDrop (eFz (eCall F_check_level [.s 0] (aCons (eVar 0) aNil)))) (sSeq (sDrop (eFz (eCall F_check_presses [.s 0, .s 1] (aCons (eVar 0) (aCons (eVar 1) aNil))))) (sRet (eCall F_round_numbers [.s 0, .s 1] (aCons (eVar 0) (aCons (eVar 1) aNil))))))
theorem f_lit_rounds (a : At K mg "lit_rounds" s_lit_rounds) (c_check_level : Fx P w K mg base "check_level" ["level"] 9 (SpY K cl none F_check_level)) (c_check_presses : Fx P w K mg base "check_presses" ["level", "presses"] 6 (SpY K cl none F_check_presses)) (c_round_numbers : Fx P w K mg base "round_numbers" ["level", "presses"] 4 (SpY K cl none F_round_numbers)) : Fx P w K mg base "lit_rounds" ["level", "presses"] 10 (SpY K cl none F_lit_rounds) ∧ Fxk P w K mg base "lit_rounds" ["level", "presses"] ["presses", "level"] [1, 0] 10 (SpY K cl none F_lit_rounds) := by
  have S : FnScope ["level", "presses"] ["level", "presses"] (defScope s_lit_rounds) := ⟨rfl, rfl, rfl, by decide +kernel, rfl, by decide +kernel, by decide +kernel⟩
  refine fy_mk2 (m := 2) (O := (fun i => [].contains i)) (ks := ["presses", "level"]) (is := [1, 0]) none a S (fun _ _ _ _ _ _ us hl => match us, hl with | [_, _], _ => rfl) (fun _ _ _ _ _ _ us hl => match us, hl with | [_, _], _ => rfl) (by decide) (fun j h => nomatch h) fun f' cdv A outer s H E gu hr tk => ?_
  have hc : (cxOf (L2.CX P w) P w K mg base ["level", "presses"] "lit_rounds" (defScope s_lit_rounds) f' cdv A outer s H E).calm = true := rfl
  have hu64 : (cxOf (L2.CX P w) P w K mg base ["level", "presses"] "lit_rounds" (defScope s_lit_rounds) f' cdv A outer s H E).A.units + 64 < cLine := hr.units
  have hu : (cxOf (L2.CX P w) P w K mg base ["level", "presses"] "lit_rounds" (defScope s_lit_rounds) f' cdv A outer s H E).A.units + 1 < cLine := Nat.lt_of_le_of_lt (Nat.add_le_add_left (by decide) _) hr.units
  have hu2 : (cxOf (L2.CX P w) P w K mg base ["level", "presses"] "lit_rounds" (defScope s_lit_rounds) f' cdv A outer s H E).A.units + 200 < cLine := Nat.lt_of_le_of_lt (Nat.add_le_add_right (Nat.le_add_right _ (16 * 9)) _) hr.un
  have hu65 : (cxOf (L2.CX P w) P w K mg base ["level", "presses"] "lit_rounds" (defScope s_lit_rounds) f' cdv A outer s H E).A.units + 65 < cLine := Nat.lt_of_le_of_lt (Nat.add_le_add_left (by decide) _) hu2
  exact ⟨_, (pss_cons (ps_expr (pe_fx c_check_level gu (hr.mono (by decide)) (by rfl) (fun σ => passAt tk σ) (pa_cons (pv 0) pa_nil)))
  (pss_cons (ps_expr (pe_fx c_check_presses gu (hr.mono (by decide)) (by rfl) (fun σ => passAt tk σ) (pa_cons (pv 0) (pa_cons (pv 1) pa_nil))))
  (pss_one (ps_ret (pe_fx c_round_numbers gu (hr.mono (by decide)) (by rfl) (fun σ => passAt tk σ) (pa_cons (pv 0) (pa_cons (pv 1) pa_nil))))))), (ys_seq (ys_drop (ye_fz (ye_call (ya_var ya_nil)))) (ys_seq (ys_drop (ye_fz (ye_call (ya_var (ya_var ya_nil))))) (ys_ret (ye_call (ya_var (ya_var ya_nil))))))⟩
end
end TD
set_option maxHeartbeats 4000000
namespace TD
open PySem PySem.Spec PyProof.Rows L2
open Evl (Ex)
section
variable {P : Program} {w : World} {K : Fg} {mg : Str → Option Value} {base : Heap} {cl : Nat → Addr} {aP : Addr}
abbrev s__law_hash : Stmt := topS 39
def F__law_hash : List PyData → FR := fnY 2 3 none (sSeq (sAsg (eOp (gIc cPos fun i j => i % j) (eCB gInt (aCons (eOp (gI fun i j => i + j) (eOp (gI fun i j => i + j) (eOp (gI fun i j => i + j) (eOp (gIc cMul fun i j => i * j) (eVar 0) (eC (.int 1140671))) (eOp (gIc cMul fun i j => i * j) (eOp (gIc cMul fun i j => i * j) (eC (.int 27644437)) (eVar 1)) (eVar 1))) (eOp (gIc cMul fun i j => i * j) (eC (.int 131)) (eVar 1))) (eC (.int 19))) aNil)) (eC (.int 2147483629))) (gN 2)) (sSeq (sAsg (eOp (gIc cPos fun i j => i % j) (eCB gInt (aCons (eOp (gI fun i j => i + j) (eOp (gI fun i j => i + j) (eOp (gIc cMul fun i j => i * j) (eVar 2) (eVar 2)) (eOp (gIc cMul fun i j => i * j) (eC (.int 62089)) (eVar 1))) (eC (.int 32416187))) aNil)) (eC (.int 2147483587))) (gN 2)) (sRet (eOp (gIc cPos fun i j => i % j) (eCB gInt (aCons (eOp (gIc cMul fun i j => i * j) (eVar 2) (eC (.int 48271))) aNil)) (eC (.int 2147483647))))))
theorem f__law_hash (T : Tb mg) (a : At K mg "_law_hash" s__law_hash) : Fx P w K mg base "_law_hash" ["_law_seed", "_law_index"] 1 (SpY K cl none F__law_hash) := by
  have S : FnScope ["_law_seed", "_law_index", "_law_mixed"] ["_law_seed", "_law_index"] (defScope s__law_hash) := ⟨rfl, rfl, rfl, by decide +kernel, rfl, by decide +kernel, by decide +kernel⟩
  refine fy_mk (m := 2) (O := (fun i => [].contains i)) none a S (fun _ _ _ _ _ _ us hl => match us, hl with | [_, _], _ => rfl) (by decide) (fun j h => nomatch h) fun f' cdv A outer s H E gu hr tk => ?_
  have hc : (cxOf (L2.CX P w) P w K mg base ["_law_seed", "_law_index", "_law_mixed"] "_law_hash" (defScope s__law_hash) f' cdv A outer s H E).calm = true := rfl
  have hu64 : (cxOf (L2.CX P w) P w K mg base ["_law_seed", "_law_index", "_law_mixed"] "_law_hash" (defScope s__law_hash) f' cdv A outer s H E).A.units + 64 < cLine := hr.units
  have hu : (cxOf (L2.CX P w) P w K mg base ["_law_seed", "_law_index", "_law_mixed"] "_law_hash" (defScope s__law_hash) f' cdv A outer s H E).A.units + 1 < cLine := Nat.lt_of_le_of_lt (Nat.add_le_add_left (by decide) _) hr.units
  have hu2 : (cxOf (L2.CX P w) P w K mg base ["_law_seed", "_law_index", "_law_mixed"] "_law_hash" (defScope s__law_hash) f' cdv A outer s H E).A.units + 200 < cLine := Nat.lt_of_le_of_lt (Nat.add_le_add_right (Nat.le_add_right _ (16 * 0)) _) hr.un
  have hu65 : (cxOf (L2.CX P w) P w K mg base ["_law_seed", "_law_index", "_law_mixed"] "_law_hash" (defScope s__law_hash) f' cdv A outer s H E).A.units + 65 < cLine := Nat.lt_of_le_of_lt (Nat.add_le_add_left (by decide) _) hu2
  exact ⟨_, (pss_cons (ps_set (i := 2) S.nd rfl (by first | exact Or.inl rfl | exact Or.inr rfl) (pe_op op_mod (pe_callTy call_int1 (by rfl) T.int (by decide +kernel) (pa_cons (pe_op op_add (pe_op op_add (pe_op op_add (pe_op op_mul (pv 0) pe_int) (pe_op op_mul (pe_op op_mul pe_int (pv 1)) (pv 1))) (pe_op op_mul pe_int (pv 1))) pe_int) pa_nil)) pe_int))
  (pss_cons (ps_set (i := 2) S.nd rfl (by first | exact Or.inl rfl | exact Or.inr rfl) (pe_op op_mod (pe_callTy call_int1 (by rfl) T.int (by decide +kernel) (pa_cons (pe_op op_add (pe_op op_add (pe_op op_mul (pv 2) (pv 2)) (pe_op op_mul pe_int (pv 1))) pe_int) pa_nil)) pe_int))
  (pss_one (ps_ret (pe_op op_mod (pe_callTy call_int1 (by rfl) T.int (by decide +kernel) (pa_cons (pe_op op_mul (pv 2) pe_int) pa_nil)) pe_int))))), (ys_seq (ys_asg (ye_op (o_Ic cPos_ok) (ye_cb c_int (ya_cons (ye_op o_I (ye_op o_I (ye_op o_I (ye_op (o_Ic cMul_ok) ye_var ye_int) (ye_op (o_Ic cMul_ok) (ye_op (o_Ic cMul_ok) ye_int ye_var) ye_var)) (ye_op (o_Ic cMul_ok) ye_int ye_var)) ye_int) ya_nil)) ye_int) zg_name) (ys_seq (ys_asg (ye_op (o_Ic cPos_ok) (ye_cb c_int (ya_cons (ye_op o_I (ye_op o_I (ye_op (o_Ic cMul_ok) ye_var ye_var) (ye_op (o_Ic cMul_ok) ye_int ye_var)) ye_int) ya_nil)) ye_int) zg_name) (ys_ret (ye_op (o_Ic cPos_ok) (ye_cb c_int (ya_cons (ye_op (o_Ic cMul_ok) ye_var ye_int) ya_nil)) ye_int))))⟩
abbrev s__law_random : Stmt := topS 41
def F__law_random : List PyData → FR := fnY 2 4 (some 0) (sSeq (sIf (tVal' (eOp (gB fun i j => decide (j < i)) (eIxO 0 (eC (.int 0))) (eC (.int 0)))) (sSeq (sAsg (eOp (gIc cPos fun i j => i % j) (eCB gInt (aCons (eIxO 0 (eC (.int 0))) aNil)) (eVar 1)) (gN 2)) (sSeq (sSetO 0 (eC (.int 0)) (eOp (gIc cDivW fun i j => i / j) (eIxO 0 (eC (.int 0))) (eVar 1))) (sRet (eVar 2)))) sNext) (sSeq (sAsg (eC (.int 0)) (gN 2)) (sSeq (sFor (iR1 (aCons (eOp (gI fun i j => i + j) (eC (.int 1)) (eOp (gIc cDivW fun i j => i / j) (eUn gBits (eVar 1)) (eC (.int 30)))) aNil)) (gN 3) (sSeq (sSetO 0 (eC (.int 2)) (eOp (gI fun i j => i + j) (eIxO 0 (eC (.int 2))) (eC (.int 1)))) (sAsg (eOp (gI fun i j => i + j) (eOp (gIc cMul fun i j => i * j) (eVar 2) (eC (.int 2147483587))) (eFz (eCall F__law_hash [.d, .d] (aCons (eIxO 0 (eC (.int 1))) (aCons (eIxO 0 (eC (.int 2))) aNil))))) (gN 2)))) (sRet (eOp (gIc cPos fun i j => i % j) (eCB gInt (aCons (eVar 2) aNil)) (eVar 1))))))
theorem f__law_random (T : Tb mg) (a : At K mg "_law_random" s__law_random) (c__law_hash : Fx P w K mg base "_law_hash" ["_law_seed", "_law_index"] 1 (SpY K cl none F__law_hash)) : Fx P w K mg base "_law_random" ["_law_generator_here", "_law_limit"] 2 (SpY K cl (some 0) F__law_random) := by
  have S : FnScope ["_law_generator_here", "_law_limit", "_law_drawn", "_law_turn"] ["_law_generator_here", "_law_limit"] (defScope s__law_random) := ⟨rfl, rfl, rfl, by decide +kernel, rfl, by decide +kernel, by decide +kernel⟩
  refine fy_mk (m := 2) (O := (fun i => [0].contains i)) (some 0) a S (fun _ _ _ _ _ _ us hl => match us, hl with | [_, _], _ => rfl) (by decide) (fun j h => by cases h; exact ⟨by decide, by decide⟩) fun f' cdv A outer s H E gu hr tk => ?_
  have hc : (cxOf (L2.CX P w) P w K mg base ["_law_generator_here", "_law_limit", "_law_drawn", "_law_turn"] "_law_random" (defScope s__law_random) f' cdv A outer s H E).calm = true := rfl
  have hu64 : (cxOf (L2.CX P w) P w K mg base ["_law_generator_here", "_law_limit", "_law_drawn", "_law_turn"] "_law_random" (defScope s__law_random) f' cdv A outer s H E).A.units + 64 < cLine := hr.units
  have hu : (cxOf (L2.CX P w) P w K mg base ["_law_generator_here", "_law_limit", "_law_drawn", "_law_turn"] "_law_random" (defScope s__law_random) f' cdv A outer s H E).A.units + 1 < cLine := Nat.lt_of_le_of_lt (Nat.add_le_add_left (by decide) _) hr.units
  have hu2 : (cxOf (L2.CX P w) P w K mg base ["_law_generator_here", "_law_limit", "_law_drawn", "_law_turn"] "_law_random" (defScope s__law_random) f' cdv A outer s H E).A.units + 200 < cLine := Nat.lt_of_le_of_lt (Nat.add_le_add_right (Nat.le_add_right _ (16 * 1)) _) hr.un
  have hu65 : (cxOf (L2.CX P w) P w K mg base ["_law_generator_here", "_law_limit", "_law_drawn", "_law_turn"] "_law_random" (defScope s__law_random) f' cdv A outer s H E).A.units + 65 < cLine := Nat.lt_of_le_of_lt (Nat.add_le_add_left (by decide) _) hu2
  exact ⟨_, (pss_cons (ps_if (pt_cmpR op_gt (pe_ix ix_list (pv 0) pe_int (fun _ _ => rfl)) pe_int (nomark _)) (pss_cons (ps_set (i := 2) S.nd rfl (by first | exact Or.inl rfl | exact Or.inr rfl) (pe_op op_mod (pe_callTy call_int1 (by rfl) T.int (by decide +kernel) (pa_cons (pe_ix ix_list (pv 0) pe_int (fun _ _ => rfl)) pa_nil)) (pv 1)))
  (pss_cons (ps_asg (pe_op op_fdivW (pe_ix ix_list (pv 0) pe_int (fun _ _ => rfl)) (pv 1)) (pg_sub (pv 0) pe_int set_list))
  (pss_one (ps_ret (pv 2))))) pss_nil)
  (pss_cons (ps_set (i := 2) S.nd rfl (by first | exact Or.inl rfl | exact Or.inr rfl) pe_int)
  (pss_cons (ps_for PassesOwn.leaving hc (pi_range1 (by rfl) T.range (pa_cons (pe_op op_add pe_int (pe_op op_fdivW (pe_bits (pv 1)) pe_int)) pa_nil)) (pg_name (i := 3) S.nd rfl (by first | exact Or.inl rfl | exact Or.inr rfl))
    (pss_cons (ps_asg (pe_op op_add (pe_ix ix_list (pv 0) pe_int (fun _ _ => rfl)) pe_int) (pg_sub (pv 0) pe_int set_list))
  (pss_one (ps_set (i := 2) S.nd rfl (by first | exact Or.inl rfl | exact Or.inr rfl) (pe_op op_add (pe_op op_mul (pv 2) pe_int) (pe_fx c__law_hash gu (hr.mono (by decide)) (by rfl) (fun σ => passAt tk σ) (pa_cons (pe_ix ix_list (pv 0) pe_int (fun _ _ => rfl)) (pa_cons (pe_ix ix_list (pv 0) pe_int (fun _ _ => rfl)) pa_nil))))))))
  (pss_one (ps_ret (pe_op op_mod (pe_callTy call_int1 (by rfl) T.int (by decide +kernel) (pa_cons (pv 2) pa_nil)) (pv 1))))))), (ys_seq (ys_if (yt_val (ye_op o_B (ye_ixO ye_int) ye_int)) (ys_seq (ys_asg (ye_op (o_Ic cPos_ok) (ye_cb c_int (ya_cons (ye_ixO ye_int) ya_nil)) ye_var) zg_name) (ys_seq (ys_setO (ye_op (o_Ic cDivW_ok) (ye_ixO ye_int) ye_var) ye_int) (ys_ret ye_var))) ys_next) (ys_seq (ys_asg ye_int zg_name) (ys_seq (ys_for (yi_R1 (ya_cons (ye_op o_I ye_int (ye_op (o_Ic cDivW_ok) (ye_bits ye_var) ye_int)) ya_nil)) zg_name (ys_seq (ys_setO (ye_op o_I (ye_ixO ye_int) ye_int) ye_int) (ys_asg (ye_op o_I (ye_op (o_Ic cMul_ok) ye_var ye_int) (ye_fz (ye_call (ya_cons (ye_ixO ye_int) (ya_cons (ye_ixO ye_int) ya_nil))))) zg_name))) (ys_ret (ye_op (o_Ic cPos_ok) (ye_cb c_int (ya_cons ye_var ya_nil)) ye_var)))))⟩
abbrev s__law_some : Stmt := topS 42
def F__law_some : List PyData → FR := fnY 3 4 (some 0) (sRet (eLc (iR1 (aCons (eVar 1) aNil)) [3] (gN 3) (tVal' (eOp gEq (eFz (eCall F__law_random [.o 0, .d] (aOwnS 0 (aCons (eVar 2) aNil)))) (eC (.int 0)))) (eVar 3)))
theorem f__law_some (T : Tb mg) (a : At K mg "_law_some" s__law_some) (c__law_random : Fx P w K mg base "_law_random" ["_law_generator_here", "_law_limit"] 2 (SpY K cl (some 0) F__law_random)) : Fx P w K mg base "_law_some" ["_law_generator_here", "_law_rooms", "_law_part"] 3 (SpY K cl (some 0) F__law_some) := by
  have S : FnScope ["_law_generator_here", "_law_rooms", "_law_part", "_law_room"] ["_law_generator_here", "_law_rooms", "_law_part"] (defScope s__law_some) := ⟨rfl, rfl, rfl, by decide +kernel, rfl, by decide +kernel, by decide +kernel⟩
  refine fy_mk (m := 3) (O := (fun i => [0].contains i)) (some 0) a S (fun _ _ _ _ _ _ us hl => match us, hl with | [_, _, _], _ => rfl) (by decide) (fun j h => by cases h; exact ⟨by decide, by decide⟩) fun f' cdv A outer s H E gu hr tk => ?_
  have hc : (cxOf (L2.CX P w) P w K mg base ["_law_generator_here", "_law_rooms", "_law_part", "_law_room"] "_law_some" (defScope s__law_some) f' cdv A outer s H E).calm = true := rfl
  have hu64 : (cxOf (L2.CX P w) P w K mg base ["_law_generator_here", "_law_rooms", "_law_part", "_law_room"] "_law_some" (defScope s__law_some) f' cdv A outer s H E).A.units + 64 < cLine := hr.units
  have hu : (cxOf (L2.CX P w) P w K mg base ["_law_generator_here", "_law_rooms", "_law_part", "_law_room"] "_law_some" (defScope s__law_some) f' cdv A outer s H E).A.units + 1 < cLine := Nat.lt_of_le_of_lt (Nat.add_le_add_left (by decide) _) hr.units
  have hu2 : (cxOf (L2.CX P w) P w K mg base ["_law_generator_here", "_law_rooms", "_law_part", "_law_room"] "_law_some" (defScope s__law_some) f' cdv A outer s H E).A.units + 200 < cLine := Nat.lt_of_le_of_lt (Nat.add_le_add_right (Nat.le_add_right _ (16 * 2)) _) hr.un
  have hu65 : (cxOf (L2.CX P w) P w K mg base ["_law_generator_here", "_law_rooms", "_law_part", "_law_room"] "_law_some" (defScope s__law_some) f' cdv A outer s H E).A.units + 65 < cLine := Nat.lt_of_le_of_lt (Nat.add_le_add_left (by decide) _) hu2
  exact ⟨_, (pss_one (ps_ret (pe_lc (own := [("_law_room", 3)]) hc S.nd (pi_range1 (by rfl) T.range (pa_cons (pv 1) pa_nil)) (blkOk_by (N := ["_law_generator_here", "_law_rooms", "_law_part", "_law_room"]) (sc := defScope s__law_some) (by decide +kernel)) (fun _ _ _ _ _ => (pg_name (i := 3) S.nd rfl (by first | exact Or.inl rfl | exact Or.inr rfl))) (fun _ _ _ _ _ => (pts_one (pt_cmpR op_eq (pe_fx c__law_random gu (hr.mono (by decide)) (by rfl) (fun _ => pass_no) (pa_cons (pv 0) (pa_cons (pv 2) pa_nil))) pe_int (nomark _)))) (fun _ _ _ _ _ => (pv 3))))), (ys_ret (ye_lc (E' := fun _ _ _ => False) (yi_R1 (ya_cons ye_var ya_nil)) zgw_name (yt_val (ye_op o_eq (ye_fz (ye_call0 (ya_ownS (ya_cons ye_var ya_nil)))) ye_int)) ye_var))⟩
abbrev s__law_level : Stmt := topS 43
def F__law_level : List PyData → FR := fnY 3 6 (some 0) (sSeq (sAsg (eOp (gI fun i j => i + j) (eC (.int 1)) (eFz (eCall F__law_random [.o 0, .s 1] (aOwnS 0 (aCons (eVar 1) aNil))))) (gN 3)) (sSeq (sAsgO 4 (eLst aNil)) (sSeq (sFor (iR1 (aCons (eFz (eCall F__law_random [.o 0, .d] (aOwnS 0 (aCons (eOp (gI fun i j => i + j) (eVar 2) (eC (.int 1))) aNil)))) aNil)) (gN 5) (sApp 4 (eTup (aCons (eFz (eCall F__law_some [.o 0, .d, .d] (aOwnS 0 (aCons (eVar 3) (aCons (eC (.int 3)) aNil))))) (aCons (eFz (eCall F__law_random [.o 0, .d] (aOwnS 0 (aCons (eVar 3) aNil)))) (aCons (eOp (gI fun i j => i - j) (eFz (eCall F__law_random [.o 0, .d] (aOwnS 0 (aCons (eC (.int 3)) aNil)))) (eC (.int 1))) aNil)))))) (sRet (eTup (aCons (eVar 3) (aCons (eFz (eMove 4)) aNil)))))))
theorem f__law_level (T : Tb mg) (a : At K mg "_law_level" s__law_level) (c__law_random : Fx P w K mg base "_law_random" ["_law_generator_here", "_law_limit"] 2 (SpY K cl (some 0) F__law_random)) (c__law_some : Fx P w K mg base "_law_some" ["_law_generator_here", "_law_rooms", "_law_part"] 3 (SpY K cl (some 0) F__law_some)) : Fx P w K mg base "_law_level" ["_law_generator_here", "_law_most", "_law_doors"] 4 (SpY K cl (some 0) F__law_level) := by
  have S : FnScope ["_law_generator_here", "_law_most", "_law_doors", "_law_rooms", "_law_found", "_law_turn"] ["_law_generator_here", "_law_most", "_law_doors"] (defScope s__law_level) := ⟨rfl, rfl, rfl, by decide +kernel, rfl, by decide +kernel, by decide +kernel⟩
  refine fy_mk (m := 3) (O := (fun i => [0, 4].contains i)) (some 0) a S (fun _ _ _ _ _ _ us hl => match us, hl with | [_, _, _], _ => rfl) (by decide) (fun j h => by cases h; exact ⟨by decide, by decide⟩) fun f' cdv A outer s H E gu hr tk => ?_
  have hc : (cxOf (L2.CX P w) P w K mg base ["_law_generator_here", "_law_most", "_law_doors", "_law_rooms", "_law_found", "_law_turn"] "_law_level" (defScope s__law_level) f' cdv A outer s H E).calm = true := rfl
  have hu64 : (cxOf (L2.CX P w) P w K mg base ["_law_generator_here", "_law_most", "_law_doors", "_law_rooms", "_law_found", "_law_turn"] "_law_level" (defScope s__law_level) f' cdv A outer s H E).A.units + 64 < cLine := hr.units
  have hu : (cxOf (L2.CX P w) P w K mg base ["_law_generator_here", "_law_most", "_law_doors", "_law_rooms", "_law_found", "_law_turn"] "_law_level" (defScope s__law_level) f' cdv A outer s H E).A.units + 1 < cLine := Nat.lt_of_le_of_lt (Nat.add_le_add_left (by decide) _) hr.units
  have hu2 : (cxOf (L2.CX P w) P w K mg base ["_law_generator_here", "_law_most", "_law_doors", "_law_rooms", "_law_found", "_law_turn"] "_law_level" (defScope s__law_level) f' cdv A outer s H E).A.units + 200 < cLine := Nat.lt_of_le_of_lt (Nat.add_le_add_right (Nat.le_add_right _ (16 * 3)) _) hr.un
  have hu65 : (cxOf (L2.CX P w) P w K mg base ["_law_generator_here", "_law_most", "_law_doors", "_law_rooms", "_law_found", "_law_turn"] "_law_level" (defScope s__law_level) f' cdv A outer s H E).A.units + 65 < cLine := Nat.lt_of_le_of_lt (Nat.add_le_add_left (by decide) _) hu2
  exact ⟨_, (pss_cons (ps_set (i := 3) S.nd rfl (by first | exact Or.inl rfl | exact Or.inr rfl) (pe_op op_add pe_int (pe_fx c__law_random gu (hr.mono (by decide)) (by rfl) (fun σ => passAt tk σ) (pa_cons (pv 0) (pa_cons (pv 1) pa_nil)))))
  (pss_cons (ps_set (i := 4) S.nd rfl (by first | exact Or.inl rfl | exact Or.inr rfl) (pe_lst pa_nil))
  (pss_cons (ps_for PassesOwn.leaving hc (pi_range1 (by rfl) T.range (pa_cons (pe_fx c__law_random gu (hr.mono (by decide)) (by rfl) (fun σ => passAt tk σ) (pa_cons (pv 0) (pa_cons (pe_op op_add (pv 2) pe_int) pa_nil))) pa_nil)) (pg_name (i := 5) S.nd rfl (by first | exact Or.inl rfl | exact Or.inr rfl))
    (pss_one (ps_expr (pe_bm PySem.F.plainAttrs_list PySem.F.slot_list_append PySem.F.type_list_append mt_append (pv 4) (pa_cons (pe_tup (pa_cons (pe_fx c__law_some gu (hr.mono (by decide)) (by rfl) (fun σ => passAt tk σ) (pa_cons (pv 0) (pa_cons (pv 3) (pa_cons pe_int pa_nil)))) (pa_cons (pe_fx c__law_random gu (hr.mono (by decide)) (by rfl) (fun σ => passAt tk σ) (pa_cons (pv 0) (pa_cons (pv 3) pa_nil))) (pa_cons (pe_op op_sub (pe_fx c__law_random gu (hr.mono (by decide)) (by rfl) (fun σ => passAt tk σ) (pa_cons (pv 0) (pa_cons pe_int pa_nil))) pe_int) pa_nil)))) pa_nil)))))
  (pss_one (ps_ret (pe_tup (pa_cons (pv 3) (pa_cons (pv 4) pa_nil)))))))), (ys_seq (ys_asg (ye_op o_I ye_int (ye_fz (ye_call (ya_ownS (ya_var ya_nil))))) zg_name) (ys_seq (ys_asgO (ye_lst ya_nil)) (ys_seq (ys_for (yi_R1 (ya_cons (ye_fz (ye_call (ya_ownS (ya_cons (ye_op o_I ye_var ye_int) ya_nil)))) ya_nil)) zg_name (ys_app (ye_tup (ya_cons (ye_fz (ye_call (ya_ownS (ya_cons ye_var (ya_cons ye_int ya_nil))))) (ya_cons (ye_fz (ye_call (ya_ownS (ya_cons ye_var ya_nil)))) (ya_cons (ye_op o_I (ye_fz (ye_call (ya_ownS (ya_cons ye_int ya_nil)))) ye_int) ya_nil)))))) (ys_ret (ye_tup (ya_cons ye_var (ya_cons (ye_fz ye_move) ya_nil)))))))⟩
abbrev s__law_presses : Stmt := topS 44
def F__law_presses : List PyData → FR := fnY 3 4 (some 0) (sRet (eLc (iR1 (aCons (eFz (eCall F__law_random [.o 0, .d] (aOwnS 0 (aCons (eOp (gI fun i j => i + j) (eVar 2) (eC (.int 1))) aNil)))) aNil)) [3] (gN 3) tYesZ (eFz (eCall F__law_some [.o 0, .d, .d] (aOwnS 0 (aCons (eOp gIxT (eVar 1) (eC (.int 0))) (aCons (eC (.int 4)) aNil)))))))
theorem f__law_presses (T : Tb mg) (a : At K mg "_law_presses" s__law_presses) (c__law_random : Fx P w K mg base "_law_random" ["_law_generator_here", "_law_limit"] 2 (SpY K cl (some 0) F__law_random)) (c__law_some : Fx P w K mg base "_law_some" ["_law_generator_here", "_law_rooms", "_law_part"] 3 (SpY K cl (some 0) F__law_some)) : Fx P w K mg base "_law_presses" ["_law_generator_here", "_law_level_here", "_law_most"] 4 (SpY K cl (some 0) F__law_presses) := by
  have S : FnScope ["_law_generator_here", "_law_level_here", "_law_most", "_law_tick"] ["_law_generator_here", "_law_level_here", "_law_most"] (defScope s__law_presses) := ⟨rfl, rfl, rfl, by decide +kernel, rfl, by decide +kernel, by decide +kernel⟩
  refine fy_mk (m := 3) (O := (fun i => [0].contains i)) (some 0) a S (fun _ _ _ _ _ _ us hl => match us, hl with | [_, _, _], _ => rfl) (by decide) (fun j h => by cases h; exact ⟨by decide, by decide⟩) fun f' cdv A outer s H E gu hr tk => ?_
  have hc : (cxOf (L2.CX P w) P w K mg base ["_law_generator_here", "_law_level_here", "_law_most", "_law_tick"] "_law_presses" (defScope s__law_presses) f' cdv A outer s H E).calm = true := rfl
  have hu64 : (cxOf (L2.CX P w) P w K mg base ["_law_generator_here", "_law_level_here", "_law_most", "_law_tick"] "_law_presses" (defScope s__law_presses) f' cdv A outer s H E).A.units + 64 < cLine := hr.units
  have hu : (cxOf (L2.CX P w) P w K mg base ["_law_generator_here", "_law_level_here", "_law_most", "_law_tick"] "_law_presses" (defScope s__law_presses) f' cdv A outer s H E).A.units + 1 < cLine := Nat.lt_of_le_of_lt (Nat.add_le_add_left (by decide) _) hr.units
  have hu2 : (cxOf (L2.CX P w) P w K mg base ["_law_generator_here", "_law_level_here", "_law_most", "_law_tick"] "_law_presses" (defScope s__law_presses) f' cdv A outer s H E).A.units + 200 < cLine := Nat.lt_of_le_of_lt (Nat.add_le_add_right (Nat.le_add_right _ (16 * 3)) _) hr.un
  have hu65 : (cxOf (L2.CX P w) P w K mg base ["_law_generator_here", "_law_level_here", "_law_most", "_law_tick"] "_law_presses" (defScope s__law_presses) f' cdv A outer s H E).A.units + 65 < cLine := Nat.lt_of_le_of_lt (Nat.add_le_add_left (by decide) _) hu2
  exact ⟨_, (pss_one (ps_ret (pe_lc (own := [("_law_tick", 3)]) hc S.nd (pi_range1 (by rfl) T.range (pa_cons (pe_fx c__law_random gu (hr.mono (by decide)) (by rfl) (fun σ => passAt tk σ) (pa_cons (pv 0) (pa_cons (pe_op op_add (pv 2) pe_int) pa_nil))) pa_nil)) (blkOk_by (N := ["_law_generator_here", "_law_level_here", "_law_most", "_law_tick"]) (sc := defScope s__law_presses) (by decide +kernel)) (fun _ _ _ _ _ => (pg_name (i := 3) S.nd rfl (by first | exact Or.inl rfl | exact Or.inr rfl))) (fun _ _ _ _ _ => pts_nil) (fun _ _ _ _ _ => (pe_fx c__law_some gu (hr.mono (by decide)) (by rfl) (fun _ => pass_no) (pa_cons (pv 0) (pa_cons (pe_ix (ix_tupK (K := K) rfl) (pv 1) pe_int (fun _ _ => rfl)) (pa_cons pe_int pa_nil)))))))), (ys_ret (ye_lc (E' := fun _ _ _ => False) (yi_R1 (ya_cons (ye_fz (ye_call (ya_ownS (ya_cons (ye_op o_I ye_var ye_int) ya_nil)))) ya_nil)) zgw_name yt_yes (ye_fz (ye_call0 (ya_ownS (ya_cons (ye_op o_ixT ye_var ye_int) (ya_cons ye_int ya_nil)))))))⟩
abbrev s__law_given : Stmt := topS 45
def F__law_given : List PyData → FR := fnY 3 9 (some 1) (sSeq (sAsgO 3 (eLst aNil)) (sSeq (sFor (iL (eOp gIxT (eVar 0) (eC (.int 1)))) (gT [(gN 4), (gN 5), (gN 6)]) (sFor (iR1 (aCons (eVar 2) aNil)) (gN 7) (sIf (tAndZ (tVal' (eChain (gB fun i j => decide (i ≤ j)) (gB fun i j => decide (i < j)) (eC (.int 0)) (eOp (gI fun i j => i + j) (eVar 7) (eVar 6)) (eVar 2))) (tAndZ (tVal' (eOp gEqA (eFz (eLc (iL (eVar 4)) [8] (gN 8) (tVal' (eDInO true 1 (eTup (aCons (eVar 7) (aCons (eVar 8) aNil))))) (eVar 8))) (eFz (eLst aNil)))) (tVal' (eInO true 3 (eTup (aCons (eOp (gI fun i j => i + j) (eVar 7) (eVar 6)) (aCons (eVar 5) aNil))))))) (sApp 3 (eTup (aCons (eOp (gI fun i j => i + j) (eVar 7) (eVar 6)) (aCons (eVar 5) aNil)))) sNext))) (sRet (eMove 3))))
theorem f__law_given (T : Tb mg) (sm : ∃ mm, base.Ns sysModules mm) (a : At K mg "_law_given" s__law_given) : Fx P w K mg base "_law_given" ["_law_level_here", "_law_lit", "_law_many"] 1 (SpY K cl (some 1) F__law_given) := by
  have S : FnScope ["_law_level_here", "_law_lit", "_law_many", "_law_found", "_law_needs", "_law_room", "_law_shift", "_law_tick", "_law_need"] ["_law_level_here", "_law_lit", "_law_many"] (defScope s__law_given) := ⟨rfl, rfl, rfl, by decide +kernel, rfl, by decide +kernel, by decide +kernel⟩
  refine fy_mk (m := 3) (O := (fun i => [1, 3].contains i)) (some 1) a S (fun _ _ _ _ _ _ us hl => match us, hl with | [_, _, _], _ => rfl) (by decide) (fun j h => by cases h; exact ⟨by decide, by decide⟩) fun f' cdv A outer s H E gu hr tk => ?_
  have hc : (cxOf (L2.CX P w) P w K mg base ["_law_level_here", "_law_lit", "_law_many", "_law_found", "_law_needs", "_law_room", "_law_shift", "_law_tick", "_law_need"] "_law_given" (defScope s__law_given) f' cdv A outer s H E).calm = true := rfl
  have hu64 : (cxOf (L2.CX P w) P w K mg base ["_law_level_here", "_law_lit", "_law_many", "_law_found", "_law_needs", "_law_room", "_law_shift", "_law_tick", "_law_need"] "_law_given" (defScope s__law_given) f' cdv A outer s H E).A.units + 64 < cLine := hr.units
  have hu : (cxOf (L2.CX P w) P w K mg base ["_law_level_here", "_law_lit", "_law_many", "_law_found", "_law_needs", "_law_room", "_law_shift", "_law_tick", "_law_need"] "_law_given" (defScope s__law_given) f' cdv A outer s H E).A.units + 1 < cLine := Nat.lt_of_le_of_lt (Nat.add_le_add_left (by decide) _) hr.units
  have hu2 : (cxOf (L2.CX P w) P w K mg base ["_law_level_here", "_law_lit", "_law_many", "_law_found", "_law_needs", "_law_room", "_law_shift", "_law_tick", "_law_need"] "_law_given" (defScope s__law_given) f' cdv A outer s H E).A.units + 200 < cLine := Nat.lt_of_le_of_lt (Nat.add_le_add_right (Nat.le_add_right _ (16 * 0)) _) hr.un
  have hu65 : (cxOf (L2.CX P w) P w K mg base ["_law_level_here", "_law_lit", "_law_many", "_law_found", "_law_needs", "_law_room", "_law_shift", "_law_tick", "_law_need"] "_law_given" (defScope s__law_given) f' cdv A outer s H E).A.units + 65 < cLine := Nat.lt_of_le_of_lt (Nat.add_le_add_left (by decide) _) hu2
  exact ⟨_, (pss_cons (ps_set (i := 3) S.nd rfl (by first | exact Or.inl rfl | exact Or.inr rfl) (pe_lst pa_nil))
  (pss_cons (ps_for PassesOwn.leaving hc (pi_list (pe_ix ix_tup (pv 0) pe_int (fun _ _ => rfl))) (pg_tup hc (pgs_cons (pg_name (i := 4) S.nd rfl (by first | exact Or.inl rfl | exact Or.inr rfl)) (pgs_cons (pg_name (i := 5) S.nd rfl (by first | exact Or.inl rfl | exact Or.inr rfl)) (pgs_cons (pg_name (i := 6) S.nd rfl (by first | exact Or.inl rfl | exact Or.inr rfl)) pgs_nil))))
    (pss_one (ps_for PassesOwn.leaving hc (pi_range1 (by rfl) T.range (pa_cons (pv 2) pa_nil)) (pg_name (i := 7) S.nd rfl (by first | exact Or.inl rfl | exact Or.inr rfl))
    (pss_one (ps_if (PW.pt (pw_and (pt_chain op_le op_lt pe_int (pe_op op_add (pv 7) (pv 6)) (pv 2)) (pw_and (pt_cmpR (op_eqA sm hu64) (pe_lc (own := [("_law_need", 8)]) hc S.nd (pi_list (pv 4)) (blkOk_by (N := ["_law_level_here", "_law_lit", "_law_many", "_law_found", "_law_needs", "_law_room", "_law_shift", "_law_tick", "_law_need"]) (sc := defScope s__law_given) (by decide +kernel)) (fun _ _ _ _ _ => (pg_name (i := 8) S.nd rfl (by first | exact Or.inl rfl | exact Or.inr rfl))) (fun _ _ _ _ _ => (pts_one (pt_cmp (pc_dnotin (by exact hu) (pe_tup (pa_cons (pv 7) (pa_cons (pv 8) pa_nil))) (pv 1)) (by with_unfolding_all rfl)))) (fun _ _ _ _ _ => (pv 8))) (pe_lst pa_nil) (nomark _)) (pw_and1 (pt_cmpR (op_niA (K := K) rfl (by exact hu65)) (pe_tup (pa_cons (pe_op op_add (pv 7) (pv 6)) (pa_cons (pv 5) pa_nil))) (pv 3) (by with_unfolding_all rfl)))))) (pss_one (ps_expr (pe_bm PySem.F.plainAttrs_list PySem.F.slot_list_append PySem.F.type_list_append mt_append (pv 3) (pa_cons (pe_tup (pa_cons (pe_op op_add (pv 7) (pv 6)) (pa_cons (pv 5) pa_nil))) pa_nil)))) pss_nil)))))
  (pss_one (ps_ret (pv 3))))), (ys_seq (ys_asgO (ye_lst ya_nil)) (ys_seq (ys_for (yi_L (ye_op o_ixT ye_var ye_int)) (zg_tup (zgs_cons zg_name (zgs_cons zg_name (zgs_cons zg_name zgs_nil)))) (ys_for (yi_R1 (ya_cons ye_var ya_nil)) zg_name (ys_if (yt_and (yt_val (ye_chain o_B o_B ye_int (ye_op o_I ye_var ye_var) ye_var)) (yt_and (yt_val (ye_op o_eqA (ye_fz (ye_lc (E' := fun _ _ _ => False) (yi_L ye_var) zgw_name (yt_B (ye_dniO (ye_tup (ya_cons ye_var (ya_cons ye_var ya_nil))))) ye_var)) (ye_fz (ye_lst ya_nil)))) (yt_val (ye_inO (ye_tup (ya_cons (ye_op o_I ye_var ye_var) (ya_cons ye_var ya_nil))))))) (ys_app (ye_tup (ya_cons (ye_op o_I ye_var ye_var) (ya_cons ye_var ya_nil)))) ys_next))) (ys_ret ye_move)))⟩
abbrev s__law_rounds : Stmt := topS 46
def F__law_rounds : List PyData → FR := fnY 2 9 none (sSeq (sParO 2 3 eNewT (.int 0)) (sSeq (sFor (iEn (aCons (eVar 1) aNil)) (gT [(gN 4), (gN 5)]) (sFor (iL (eVar 5)) (gN 6) (sDSetO 2 (eTup (aCons (eVar 4) (aCons (eVar 6) aNil))) (eC (.int 0))))) (sSeq (sAsg (eFz (eLc (iL (eFz (eCall F__law_given [.s 0, .o 2, .d] (aCons (eVar 0) (aOwnS 2 (aCons (eCB gLen (aCons (eVar 1) aNil)) aNil)))))) [7] (gN 7) (tVal' (eDInO true 2 (eVar 7))) (eVar 7))) (gN 8)) (sSeq (sWhile (tVal' (eOp gNeA (eVar 8) (eFz (eLst aNil)))) (sSeq (sAsg (eOp (gI fun i j => i + j) (eVar 3) (eC (.int 1))) (gN 3)) (sSeq (sFor (iL (eVar 8)) (gN 7) (sDSetO 2 (eVar 7) (eVar 3))) (sAsg (eFz (eLc (iL (eFz (eCall F__law_given [.s 0, .o 2, .d] (aCons (eVar 0) (aOwnS 2 (aCons (eCB gLen (aCons (eVar 1) aNil)) aNil)))))) [7] (gN 7) (tVal' (eDInO true 2 (eVar 7))) (eVar 7))) (gN 8)))) 1000) (sRet (eMove 2))))))
theorem f__law_rounds (T : Tb mg) (sm : ∃ mm, base.Ns sysModules mm) (a : At K mg "_law_rounds" s__law_rounds) (c__law_given : Fx P w K mg base "_law_given" ["_law_level_here", "_law_lit", "_law_many"] 1 (SpY K cl (some 1) F__law_given)) : Fx P w K mg base "_law_rounds" ["_law_level_here", "_law_presses_here"] 2 (SpY K cl none F__law_rounds) := by
  have S : FnScope ["_law_level_here", "_law_presses_here", "_law_rounds_here", "_law_number", "_law_tick", "_law_lights", "_law_room", "_law_spot", "_law_more"] ["_law_level_here", "_law_presses_here"] (defScope s__law_rounds) := ⟨rfl, rfl, rfl, by decide +kernel, rfl, by decide +kernel, by decide +kernel⟩
  refine fy_mk (m := 2) (O := (fun i => [2].contains i)) none a S (fun _ _ _ _ _ _ us hl => match us, hl with | [_, _], _ => rfl) (by decide) (fun j h => nomatch h) fun f' cdv A outer s H E gu hr tk => ?_
  have hc : (cxOf (L2.CX P w) P w K mg base ["_law_level_here", "_law_presses_here", "_law_rounds_here", "_law_number", "_law_tick", "_law_lights", "_law_room", "_law_spot", "_law_more"] "_law_rounds" (defScope s__law_rounds) f' cdv A outer s H E).calm = true := rfl
  have hu64 : (cxOf (L2.CX P w) P w K mg base ["_law_level_here", "_law_presses_here", "_law_rounds_here", "_law_number", "_law_tick", "_law_lights", "_law_room", "_law_spot", "_law_more"] "_law_rounds" (defScope s__law_rounds) f' cdv A outer s H E).A.units + 64 < cLine := hr.units
  have hu : (cxOf (L2.CX P w) P w K mg base ["_law_level_here", "_law_presses_here", "_law_rounds_here", "_law_number", "_law_tick", "_law_lights", "_law_room", "_law_spot", "_law_more"] "_law_rounds" (defScope s__law_rounds) f' cdv A outer s H E).A.units + 1 < cLine := Nat.lt_of_le_of_lt (Nat.add_le_add_left (by decide) _) hr.units
  have hu2 : (cxOf (L2.CX P w) P w K mg base ["_law_level_here", "_law_presses_here", "_law_rounds_here", "_law_number", "_law_tick", "_law_lights", "_law_room", "_law_spot", "_law_more"] "_law_rounds" (defScope s__law_rounds) f' cdv A outer s H E).A.units + 200 < cLine := Nat.lt_of_le_of_lt (Nat.add_le_add_right (Nat.le_add_right _ (16 * 1)) _) hr.un
  have hu65 : (cxOf (L2.CX P w) P w K mg base ["_law_level_here", "_law_presses_here", "_law_rounds_here", "_law_number", "_law_tick", "_law_lights", "_law_room", "_law_spot", "_law_more"] "_law_rounds" (defScope s__law_rounds) f' cdv A outer s H E).A.units + 65 < cLine := Nat.lt_of_le_of_lt (Nat.add_le_add_left (by decide) _) hu2
  exact ⟨_, (pss_cons (ps_asg (pe_tup (pa_cons pe_dnewT (pa_cons pe_int pa_nil))) (pg_tup hc (pgs_cons (pg_name (i := 2) S.nd rfl (by first | exact Or.inl rfl | exact Or.inr rfl)) (pgs_cons (pg_name (i := 3) S.nd rfl (by first | exact Or.inl rfl | exact Or.inr rfl)) pgs_nil))))
  (pss_cons (ps_for PassesOwn.leaving hc (pi_enum (by rfl) T.enumerate (pa_cons (pv 1) pa_nil)) (pg_tup hc (pgs_cons (pg_name (i := 4) S.nd rfl (by first | exact Or.inl rfl | exact Or.inr rfl)) (pgs_cons (pg_name (i := 5) S.nd rfl (by first | exact Or.inl rfl | exact Or.inr rfl)) pgs_nil)))
    (pss_one (ps_for PassesOwn.leaving hc (pi_list (pv 5)) (pg_name (i := 6) S.nd rfl (by first | exact Or.inl rfl | exact Or.inr rfl))
    (pss_one (ps_asg pe_int (pg_sub (pv 2) (pe_tup (pa_cons (pv 4) (pa_cons (pv 6) pa_nil))) (set_dict (by exact hu))))))))
  (pss_cons (ps_setLc (i := 8) (own := [("_law_spot", 7)]) hc S.nd rfl rfl (sw_true rfl rfl rfl (by decide +kernel)) (pi_list (pe_fx c__law_given gu (hr.mono (by decide)) (by rfl) (fun σ => passAt tk σ) (pa_cons (pv 0) (pa_cons (pv 2) (pa_cons (pe_callB call_len_seq (by rfl) T.len (by decide +kernel) (pa_cons (pv 1) pa_nil)) pa_nil))))) (blkOk_by (N := ["_law_level_here", "_law_presses_here", "_law_rounds_here", "_law_number", "_law_tick", "_law_lights", "_law_room", "_law_spot", "_law_more"]) (sc := defScope s__law_rounds) (by decide +kernel)) (fun _ _ _ _ _ => (pg_name (i := 7) S.nd rfl (by first | exact Or.inl rfl | exact Or.inr rfl))) (fun _ _ _ _ _ => (pts_one (pt_cmp (pc_dnotin (by exact hu) (pv 7) (pv 2)) (by with_unfolding_all rfl)))) (fun _ _ _ _ _ => (pv 7)))
  (pss_cons (ps_while PassesOwn.leaving (pt_cmpR (op_neA sm hu64) (pv 8) (pe_lst pa_nil) (nomark _))
    (pss_cons (ps_set (i := 3) S.nd rfl (by first | exact Or.inl rfl | exact Or.inr rfl) (pe_op op_add (pv 3) pe_int))
  (pss_cons (ps_for PassesOwn.leaving hc (pi_list (pv 8)) (pg_name (i := 7) S.nd rfl (by first | exact Or.inl rfl | exact Or.inr rfl))
    (pss_one (ps_asg (pv 3) (pg_sub (pv 2) (pv 7) (set_dict (by exact hu))))))
  (pss_one (ps_setLc (i := 8) (own := [("_law_spot", 7)]) hc S.nd rfl rfl (sw_true rfl rfl rfl (by decide +kernel)) (pi_list (pe_fx c__law_given gu (hr.mono (by decide)) (by rfl) (fun σ => passAt tk σ) (pa_cons (pv 0) (pa_cons (pv 2) (pa_cons (pe_callB call_len_seq (by rfl) T.len (by decide +kernel) (pa_cons (pv 1) pa_nil)) pa_nil))))) (blkOk_by (N := ["_law_level_here", "_law_presses_here", "_law_rounds_here", "_law_number", "_law_tick", "_law_lights", "_law_room", "_law_spot", "_law_more"]) (sc := defScope s__law_rounds) (by decide +kernel)) (fun _ _ _ _ _ => (pg_name (i := 7) S.nd rfl (by first | exact Or.inl rfl | exact Or.inr rfl))) (fun _ _ _ _ _ => (pts_one (pt_cmp (pc_dnotin (by exact hu) (pv 7) (pv 2)) (by with_unfolding_all rfl)))) (fun _ _ _ _ _ => (pv 7)))))))
  (pss_one (ps_ret (pv 2))))))), (ys_seq (ys_parT ye_newT (fun _ => .int _)) (ys_seq (ys_for (yi_En (ya_cons ye_var ya_nil)) (zg_tup (zgs_cons zg_name (zgs_cons zg_name zgs_nil))) (ys_for (yi_L ye_var) zg_name (ys_dsetO ye_int (ye_tup (ya_cons ye_var (ya_cons ye_var ya_nil)))))) (ys_seq (ys_asg (ye_fz (ye_lc (E' := fun _ _ _ => False) (yi_L (ye_fz (ye_call (ya_var (ya_ownS (ya_cons (ye_cb c_len (ya_cons ye_var ya_nil)) ya_nil)))))) zgw_name (yt_B (ye_dniO ye_var)) ye_var)) zg_name) (ys_seq (ys_while (yt_val (ye_op o_neA ye_var (ye_fz (ye_lst ya_nil)))) (ys_seq (ys_asg (ye_op o_I ye_var ye_int) zg_name) (ys_seq (ys_for (yi_L ye_var) zg_name (ys_dsetO ye_var ye_var)) (ys_asg (ye_fz (ye_lc (E' := fun _ _ _ => False) (yi_L (ye_fz (ye_call (ya_var (ya_ownS (ya_cons (ye_cb c_len (ya_cons ye_var ya_nil)) ya_nil)))))) zgw_name (yt_B (ye_dniO ye_var)) ye_var)) zg_name))) 1000) (ys_ret ye_move)))))⟩
abbrev s__law_light : Stmt := topS 47
def F__law_light : List PyData → FR := fnY 2 5 none (sSeq (sAsgO 2 (eCall F__law_rounds [.s 0, .s 1] (aCons (eVar 0) (aCons (eVar 1) aNil)))) (sRet (eLc (iR1 (aCons (eCB gLen (aCons (eVar 1) aNil)) aNil)) [3] (gN 3) tYesZ (eFz (eLc (iR1 (aCons (eOp gIxT (eVar 0) (eC (.int 0))) aNil)) [4] (gN 4) (tVal' (eDInO false 2 (eTup (aCons (eVar 3) (aCons (eVar 4) aNil))))) (eVar 4))))))
theorem f__law_light (T : Tb mg) (a : At K mg "_law_light" s__law_light) (c__law_rounds : Fx P w K mg base "_law_rounds" ["_law_level_here", "_law_presses_here"] 2 (SpY K cl none F__law_rounds)) : Fx P w K mg base "_law_light" ["_law_level_here", "_law_presses_here"] 3 (SpY K cl none F__law_light) := by
  have S : FnScope ["_law_level_here", "_law_presses_here", "_law_rounds_here", "_law_tick", "_law_room"] ["_law_level_here", "_law_presses_here"] (defScope s__law_light) := ⟨rfl, rfl, rfl, by decide +kernel, rfl, by decide +kernel, by decide +kernel⟩
  refine fy_mk (m := 2) (O := (fun i => [2].contains i)) none a S (fun _ _ _ _ _ _ us hl => match us, hl with | [_, _], _ => rfl) (by decide) (fun j h => nomatch h) fun f' cdv A outer s H E gu hr tk => ?_
  have hc : (cxOf (L2.CX P w) P w K mg base ["_law_level_here", "_law_presses_here", "_law_rounds_here", "_law_tick", "_law_room"] "_law_light" (defScope s__law_light) f' cdv A outer s H E).calm = true := rfl
  have hu64 : (cxOf (L2.CX P w) P w K mg base ["_law_level_here", "_law_presses_here", "_law_rounds_here", "_law_tick", "_law_room"] "_law_light" (defScope s__law_light) f' cdv A outer s H E).A.units + 64 < cLine := hr.units
  have hu : (cxOf (L2.CX P w) P w K mg base ["_law_level_here", "_law_presses_here", "_law_rounds_here", "_law_tick", "_law_room"] "_law_light" (defScope s__law_light) f' cdv A outer s H E).A.units + 1 < cLine := Nat.lt_of_le_of_lt (Nat.add_le_add_left (by decide) _) hr.units
  have hu2 : (cxOf (L2.CX P w) P w K mg base ["_law_level_here", "_law_presses_here", "_law_rounds_here", "_law_tick", "_law_room"] "_law_light" (defScope s__law_light) f' cdv A outer s H E).A.units + 200 < cLine := Nat.lt_of_le_of_lt (Nat.add_le_add_right (Nat.le_add_right _ (16 * 2)) _) hr.un
  have hu65 : (cxOf (L2.CX P w) P w K mg base ["_law_level_here", "_law_presses_here", "_law_rounds_here", "_law_tick", "_law_room"] "_law_light" (defScope s__law_light) f' cdv A outer s H E).A.units + 65 < cLine := Nat.lt_of_le_of_lt (Nat.add_le_add_left (by decide) _) hu2
  exact ⟨_, (pss_cons (ps_set (i := 2) S.nd rfl (by first | exact Or.inl rfl | exact Or.inr rfl) (pe_fx c__law_rounds gu (hr.mono (by decide)) (by rfl) (fun σ => passAt tk σ) (pa_cons (pv 0) (pa_cons (pv 1) pa_nil))))
  (pss_one (ps_ret (pe_lc (own := [("_law_tick", 3)]) hc S.nd (pi_range1 (by rfl) T.range (pa_cons (pe_callB call_len_seq (by rfl) T.len (by decide +kernel) (pa_cons (pv 1) pa_nil)) pa_nil)) (blkOk_by (N := ["_law_level_here", "_law_presses_here", "_law_rounds_here", "_law_tick", "_law_room"]) (sc := defScope s__law_light) (by decide +kernel)) (fun _ _ _ _ _ => (pg_name (i := 3) S.nd rfl (by first | exact Or.inl rfl | exact Or.inr rfl))) (fun _ _ _ _ _ => pts_nil) (fun _ _ _ _ _ => (pe_lc (own := [("_law_room", 4)]) hc S.nd (pi_range1 (by rfl) T.range (pa_cons (pe_ix (ix_tupK (K := K) rfl) (pv 0) pe_int (fun _ _ => rfl)) pa_nil)) (blkOk_by (N := ["_law_level_here", "_law_presses_here", "_law_rounds_here", "_law_tick", "_law_room"]) (sc := relabS (compSc (atE (defBody s__law_light) [(1, 0)] [])) (defScope s__law_light)) (by decide +kernel)) (fun _ _ _ _ _ => (pg_name (i := 4) S.nd rfl (by first | exact Or.inl rfl | exact Or.inr rfl))) (fun _ _ _ _ _ => (pts_one (pt_cmp (pc_din (by exact hu) (pe_tup (pa_cons (pv 3) (pa_cons (pv 4) pa_nil))) (pv 2)) (by with_unfolding_all rfl)))) (fun _ _ _ _ _ => (pv 4)))))))), (ys_seq (ys_asgO (ye_call (ya_var (ya_var ya_nil)))) (ys_ret (ye_lc (E' := fun _ _ _ => False) (yi_R1 (ya_cons (ye_cb c_len (ya_cons ye_var ya_nil)) ya_nil)) zgw_name yt_yes (ye_fz (ye_lc (E' := fun _ _ _ => False) (yi_R1 (ya_cons (ye_op o_ixT ye_var ye_int) ya_nil)) zgw_name (yt_B (ye_dinO (ye_tup (ya_cons ye_var (ya_cons ye_var ya_nil))))) ye_var)))))⟩
end
end TD
set_option maxHeartbeats 4000000
namespace TD
open PySem PySem.Spec PyProof.Rows L2
open Evl (Ex)
section
variable {P : Program} {w : World} {K : Fg} {mg : Str → Option Value} {base : Heap} {cl : Nat → Addr} {aP : Addr}
abbrev s__law_right : Stmt := topS 48
def F__law_right : List PyData → FR := fnY 2 14 none (sSeq (sPar3M 2 3 4 (eCB gRepr (aCons (eFz (eLst (aCons (eVar 0) (aCons (eVar 1) aNil)))) aNil)) (eCall F__law_rounds [.s 0, .s 1] (aCons (eVar 0) (aCons (eVar 1) aNil))) (eFz (eCall F__law_light [.s 0, .s 1] (aCons (eVar 0) (aCons (eVar 1) aNil))))) (sSeq (sParOO 5 6 (eCall F_light [.s 0, .s 1] (aCons (eVar 0) (aCons (eVar 1) aNil))) (eCall F_lit_rounds [.s 0, .s 1] (aCons (eVar 0) (aCons (eVar 1) aNil)))) (sSeq (sAsg (eFz (eLc (iR1 (aCons (eCB gLen (aCons (eVar 1) aNil)) aNil)) [7] (gN 7) tYesZ (eFz (eLc (iR1 (aCons (eOp gIxT (eVar 0) (eC (.int 0))) aNil)) [8] (gN 8) tYesZ (eDGet1O 3 (eTup (aCons (eVar 7) (aCons (eVar 8) aNil)))))))) (gN 9)) (sSeq (sIf (tOrZ (tVal' (ePure [3, 5, 6] (eOp gNe (eCB gRepr (aCons (eVar 5) aNil)) (eCB gRepr (aCons (eVar 4) aNil))))) (tOrZ (tVal' (eOp gNe (eCB gRepr (aCons (eFz (eCallK F_light [1, 0] (aCons (eVar 1) (aCons (eVar 0) aNil)))) aNil)) (eCB gRepr (aCons (eVar 4) aNil)))) (tVal' (ePure [3, 5, 6] (eOp gNe (eCB gRepr (aCons (eVar 6) aNil)) (eCB gRepr (aCons (eVar 9) aNil))))))) (sRet (eC (.bool false))) sNext) (sSeq (sIf (tOrZ (tVal' (eOp gNe (eCB gRepr (aCons (eFz (eCallK F_lit_rounds [1, 0] (aCons (eVar 1) (aCons (eVar 0) aNil)))) aNil)) (eCB gRepr (aCons (eVar 9) aNil)))) (tOrZ (tVal' (ePure [3, 5, 6] (eOp (gIsB true) (eFz (eCall F_keeps [.s 0, .s 1, .d] (aCons (eVar 0) (aCons (eVar 1) (aCons (eVar 5) aNil))))) (eC (.bool true))))) (tVal' (eOp gNe (eCB gRepr (aCons (eFz (eLst (aCons (eVar 0) (aCons (eVar 1) aNil)))) aNil)) (eVar 2))))) (sRet (eC (.bool false))) sNext) (sSeq (sIf (tAndZ (tVal' (eNeE 3)) (tVal' (eOp (gB fun i j => decide (j < i)) (eCB gMaxL (aCons (eFz (eVals 3 10)) aNil)) (eOp (gIc cMul fun i j => i * j) (eOp gIxT (eVar 0) (eC (.int 0))) (eCB gLen (aCons (eVar 1) aNil)))))) (sRet (eC (.bool false))) sNext) (sSeq (sMark7 5 6 11 12 13 (sFor (iEn (aCons (eVar 11) aNil)) (gT [(gN 12), (gN 13)]) (sIf (tOrZ (tVal' (eOp gNeA (eOp gIxLN (eVar 13) (eUn gNeg (eC (.int 1)))) (eTup (aCons (eC (.str "mark")) (aCons (eVar 12) aNil))))) (tAndZ (tVal' (eOp (gB fun i j => decide (j < i)) (eCB gLen (aCons (eVar 13) aNil)) (eC (.int 1)))) (tVal' (eIsi "tuple" (eOp gIxLN (eVar 13) (eUn gNeg (eC (.int 2)))))))) (sRet (eC (.bool false))) sNext))) (sRet (eAnd (eOp gEq (eCB gRepr (aCons (eFz (eCall F_light [.s 0, .s 1] (aCons (eVar 0) (aCons (eVar 1) aNil)))) aNil)) (eCB gRepr (aCons (eVar 4) aNil))) (eAnd (eOp gEq (eCB gRepr (aCons (eFz (eCall F_lit_rounds [.s 0, .s 1] (aCons (eVar 0) (aCons (eVar 1) aNil)))) aNil)) (eCB gRepr (aCons (eVar 9) aNil))) (eOp gEq (eCB gRepr (aCons (eFz (eLst (aCons (eVar 0) (aCons (eVar 1) aNil)))) aNil)) (eVar 2))))))))))))
theorem f__law_right (T : Tb mg) (sm : ∃ mm, base.Ns sysModules mm) (a : At K mg "_law_right" s__law_right) (c__law_rounds : Fx P w K mg base "_law_rounds" ["_law_level_here", "_law_presses_here"] 2 (SpY K cl none F__law_rounds)) (c__law_light : Fx P w K mg base "_law_light" ["_law_level_here", "_law_presses_here"] 3 (SpY K cl none F__law_light)) (c_light : Fx P w K mg base "light" ["level", "presses"] 10 (SpY K cl none F_light)) (c_lit_rounds : Fx P w K mg base "lit_rounds" ["level", "presses"] 10 (SpY K cl none F_lit_rounds)) (c_keeps : Fx P w K mg base "keeps" ["level", "presses", "value"] 10 (SpY K cl none F_keeps)) (k_light : Fxk P w K mg base "light" ["level", "presses"] ["presses", "level"] [1, 0] 10 (SpY K cl none F_light)) (k_lit_rounds : Fxk P w K mg base "lit_rounds" ["level", "presses"] ["presses", "level"] [1, 0] 10 (SpY K cl none F_lit_rounds)) : Fx P w K mg base "_law_right" ["_law_level_here", "_law_presses_here"] 11 (SpY K cl none F__law_right) := by
  have S : FnScope ["_law_level_here", "_law_presses_here", "_law_kept", "_law_rounds_here", "_law_due", "_law_told", "_law_numbers", "_law_tick", "_law_room", "_law_first", "_law_spot", "_law_rows", "_law_number", "_law_row"] ["_law_level_here", "_law_presses_here"] (defScope s__law_right) := ⟨rfl, rfl, rfl, by decide +kernel, rfl, by decide +kernel, by decide +kernel⟩
  refine fy_mk (m := 2) (O := (fun i => [3, 5, 6].contains i)) none a S (fun _ _ _ _ _ _ us hl => match us, hl with | [_, _], _ => rfl) (by decide) (fun j h => nomatch h) fun f' cdv A outer s H E gu hr tk => ?_
  have hc : (cxOf (L2.CX P w) P w K mg base ["_law_level_here", "_law_presses_here", "_law_kept", "_law_rounds_here", "_law_due", "_law_told", "_law_numbers", "_law_tick", "_law_room", "_law_first", "_law_spot", "_law_rows", "_law_number", "_law_row"] "_law_right" (defScope s__law_right) f' cdv A outer s H E).calm = true := rfl
  have hu64 : (cxOf (L2.CX P w) P w K mg base ["_law_level_here", "_law_presses_here", "_law_kept", "_law_rounds_here", "_law_due", "_law_told", "_law_numbers", "_law_tick", "_law_room", "_law_first", "_law_spot", "_law_rows", "_law_number", "_law_row"] "_law_right" (defScope s__law_right) f' cdv A outer s H E).A.units + 64 < cLine := hr.units
  have hu : (cxOf (L2.CX P w) P w K mg base ["_law_level_here", "_law_presses_here", "_law_kept", "_law_rounds_here", "_law_due", "_law_told", "_law_numbers", "_law_tick", "_law_room", "_law_first", "_law_spot", "_law_rows", "_law_number", "_law_row"] "_law_right" (defScope s__law_right) f' cdv A outer s H E).A.units + 1 < cLine := Nat.lt_of_le_of_lt (Nat.add_le_add_left (by decide) _) hr.units
  have hu2 : (cxOf (L2.CX P w) P w K mg base ["_law_level_here", "_law_presses_here", "_law_kept", "_law_rounds_here", "_law_due", "_law_told", "_law_numbers", "_law_tick", "_law_room", "_law_first", "_law_spot", "_law_rows", "_law_number", "_law_row"] "_law_right" (defScope s__law_right) f' cdv A outer s H E).A.units + 200 < cLine := Nat.lt_of_le_of_lt (Nat.add_le_add_right (Nat.le_add_right _ (16 * 10)) _) hr.un
  have hu65 : (cxOf (L2.CX P w) P w K mg base ["_law_level_here", "_law_presses_here", "_law_kept", "_law_rounds_here", "_law_due", "_law_told", "_law_numbers", "_law_tick", "_law_room", "_law_first", "_law_spot", "_law_rows", "_law_number", "_law_row"] "_law_right" (defScope s__law_right) f' cdv A outer s H E).A.units + 65 < cLine := Nat.lt_of_le_of_lt (Nat.add_le_add_left (by decide) _) hu2
  exact ⟨_, (pss_cons (ps_asg (pe_tup (pa_cons (pe_callB (call_reprA sm gu hu2) (by rfl) T.repr (by decide +kernel) (pa_cons (pe_lst (pa_cons (pv 0) (pa_cons (pv 1) pa_nil))) pa_nil)) (pa_cons (pe_fx c__law_rounds gu (hr.mono (by decide)) (by rfl) (fun σ => passAt tk σ) (pa_cons (pv 0) (pa_cons (pv 1) pa_nil))) (pa_cons (pe_fx c__law_light gu (hr.mono (by decide)) (by rfl) (fun σ => passAt tk σ) (pa_cons (pv 0) (pa_cons (pv 1) pa_nil))) pa_nil)))) (pg_tup hc (pgs_cons (pg_name (i := 2) S.nd rfl (by first | exact Or.inl rfl | exact Or.inr rfl)) (pgs_cons (pg_name (i := 3) S.nd rfl (by first | exact Or.inl rfl | exact Or.inr rfl)) (pgs_cons (pg_name (i := 4) S.nd rfl (by first | exact Or.inl rfl | exact Or.inr rfl)) pgs_nil)))))
  (pss_cons (ps_par (i := 5) (j := 6) hc S.nd rfl rfl (by decide) rfl rfl (pa_cons (pe_fx c_light gu (hr.mono (by decide)) (by rfl) (fun σ => passAt tk σ) (pa_cons (pv 0) (pa_cons (pv 1) pa_nil))) (pa_cons (pe_fx c_lit_rounds gu (hr.mono (by decide)) (by rfl) (fun σ => passAt tk σ) (pa_cons (pv 0) (pa_cons (pv 1) pa_nil))) pa_nil)) (by with_unfolding_all rfl))
  (pss_cons (ps_setLc (i := 9) (own := [("_law_tick", 7)]) hc S.nd rfl rfl (sw_true rfl rfl rfl (by decide +kernel)) (pi_range1 (by rfl) T.range (pa_cons (pe_callB call_len_seq (by rfl) T.len (by decide +kernel) (pa_cons (pv 1) pa_nil)) pa_nil)) (blkOk_by (N := ["_law_level_here", "_law_presses_here", "_law_kept", "_law_rounds_here", "_law_due", "_law_told", "_law_numbers", "_law_tick", "_law_room", "_law_first", "_law_spot", "_law_rows", "_law_number", "_law_row"]) (sc := defScope s__law_right) (by decide +kernel)) (fun _ _ _ _ _ => (pg_name (i := 7) S.nd rfl (by first | exact Or.inl rfl | exact Or.inr rfl))) (fun _ _ _ _ _ => pts_nil) (fun _ _ _ _ _ => (pe_lc (own := [("_law_room", 8)]) hc S.nd (pi_range1 (by rfl) T.range (pa_cons (pe_ix (ix_tupK (K := K) rfl) (pv 0) pe_int (fun _ _ => rfl)) pa_nil)) (blkOk_by (N := ["_law_level_here", "_law_presses_here", "_law_kept", "_law_rounds_here", "_law_due", "_law_told", "_law_numbers", "_law_tick", "_law_room", "_law_first", "_law_spot", "_law_rows", "_law_number", "_law_row"]) (sc := relabS (compSc (atE (defBody s__law_right) [(2, 0)] [])) (defScope s__law_right)) (by decide +kernel)) (fun _ _ _ _ _ => (pg_name (i := 8) S.nd rfl (by first | exact Or.inl rfl | exact Or.inr rfl))) (fun _ _ _ _ _ => pts_nil) (fun _ _ _ _ _ => (pe_dget1 (by exact hu) (pv 3) (pe_tup (pa_cons (pv 7) (pa_cons (pv 8) pa_nil))) ⟨rfl, rfl, rfl, rfl⟩)))))
  (pss_cons (ps_if (PW.pt (pw_or (pt_cmpR op_ne (pe_callB (call_reprA sm gu hu2) (by rfl) T.repr (by decide +kernel) (pa_cons (pv 5) pa_nil)) (pe_callB (call_reprA sm gu hu2) (by rfl) T.repr (by decide +kernel) (pa_cons (pv 4) pa_nil)) (nomark _)) (pw_or (pt_cmpR op_ne (pe_callB (call_reprA sm gu hu2) (by rfl) T.repr (by decide +kernel) (pa_cons (pe_fxk k_light gu (hr.mono (by decide)) (by rfl) (pk_cons (pv 1) (pk_cons (pv 0) pk_nil))) pa_nil)) (pe_callB (call_reprA sm gu hu2) (by rfl) T.repr (by decide +kernel) (pa_cons (pv 4) pa_nil)) (nomark _)) (pw_or1 (pt_cmpR op_ne (pe_callB (call_reprA sm gu hu2) (by rfl) T.repr (by decide +kernel) (pa_cons (pv 6) pa_nil)) (pe_callB (call_reprA sm gu hu2) (by rfl) T.repr (by decide +kernel) (pa_cons (pv 9) pa_nil)) (nomark _)))))) (pss_one (ps_ret pe_bl)) pss_nil)
  (pss_cons (ps_if (PW.pt (pw_or (pt_cmpR op_ne (pe_callB (call_reprA sm gu hu2) (by rfl) T.repr (by decide +kernel) (pa_cons (pe_fxk k_lit_rounds gu (hr.mono (by decide)) (by rfl) (pk_cons (pv 1) (pk_cons (pv 0) pk_nil))) pa_nil)) (pe_callB (call_reprA sm gu hu2) (by rfl) T.repr (by decide +kernel) (pa_cons (pv 9) pa_nil)) (nomark _)) (pw_or (pt_cmpR op_isnot_bl (pe_fx c_keeps gu (hr.mono (by decide)) (by rfl) (fun σ => passAt tk σ) (pa_cons (pv 0) (pa_cons (pv 1) (pa_cons (pv 5) pa_nil)))) pe_bl (nomark _)) (pw_or1 (pt_cmpR op_ne (pe_callB (call_reprA sm gu hu2) (by rfl) T.repr (by decide +kernel) (pa_cons (pe_lst (pa_cons (pv 0) (pa_cons (pv 1) pa_nil))) pa_nil)) (pv 2) (nomark _)))))) (pss_one (ps_ret pe_bl)) pss_nil)
  (pss_cons (ps_if (PW.pt (pw_and (pt_cmpR (op_neT (Nat.lt_of_le_of_lt (Nat.le_add_right _ 64) hu64)) (pv 3) pe_dnewK (nomark _)) (pw_and1 (pt_cmpR op_gt (pe_callB (cr_max (by exact hc)) (by rfl) T.max (by decide +kernel) (pa_cons (pe_lock (pe_lc (own := [("_law_spot", 10)]) hc S.nd (pi_keys (pv 3)) (blkOk_by (N := ["_law_level_here", "_law_presses_here", "_law_kept", "_law_rounds_here", "_law_due", "_law_told", "_law_numbers", "_law_tick", "_law_room", "_law_first", "_law_spot", "_law_rows", "_law_number", "_law_row"]) (sc := defScope s__law_right) (by decide +kernel)) (fun _ _ _ _ _ => (pg_name (i := 10) S.nd rfl (by first | exact Or.inl rfl | exact Or.inr rfl))) (fun _ _ _ _ _ => pts_nil) (fun _ _ _ _ _ => (pe_dget (by exact hu) (pv 3) (pv 10) (fun _ _ => rfl))))) pa_nil)) (pe_op op_mul (pe_ix ix_tup (pv 0) pe_int (fun _ _ => rfl)) (pe_callB call_len_seq (by rfl) T.len (by decide +kernel) (pa_cons (pv 1) pa_nil))) (nomark _))))) (pss_one (ps_ret pe_bl)) pss_nil)
  (pss_cons (ps_for PassesOwn.leaving hc (pi_list (pe_lst (pa_cons (pe_op op_cat (pe_lst (pa_cons (pv 5) pa_nil)) (pv 5)) (pa_cons (pe_op op_cat (pe_lst (pa_cons (pv 6) pa_nil)) (pv 6)) pa_nil)))) (pg_name (i := 11) S.nd rfl (by first | exact Or.inl rfl | exact Or.inr rfl))
    (pss_cons (ps_for PassesOwn.leaving hc (pi_enum (by rfl) T.enumerate (pa_cons (pv 11) pa_nil)) (pg_tup hc (pgs_cons (pg_name (i := 12) S.nd rfl (by first | exact Or.inl rfl | exact Or.inr rfl)) (pgs_cons (pg_name (i := 13) S.nd rfl (by first | exact Or.inl rfl | exact Or.inr rfl)) pgs_nil)))
    (pss_one (ps_expr (pe_bm PySem.F.plainAttrs_list PySem.F.slot_list_append PySem.F.type_list_append mt_append (pv 13) (pa_cons (pe_tup (pa_cons pe_str (pa_cons (pv 12) pa_nil))) pa_nil)))))
  (pss_one (ps_for PassesOwn.leaving hc (pi_enum (by rfl) T.enumerate (pa_cons (pv 11) pa_nil)) (pg_tup hc (pgs_cons (pg_name (i := 12) S.nd rfl (by first | exact Or.inl rfl | exact Or.inr rfl)) (pgs_cons (pg_name (i := 13) S.nd rfl (by first | exact Or.inl rfl | exact Or.inr rfl)) pgs_nil)))
    (pss_one (ps_if (PW.pt (pw_or (pt_cmpR (op_neA sm hu64) (pe_ix ix_list (pv 13) (pe_un un_neg pe_int) (fun _ _ => rfl)) (pe_tup (pa_cons pe_str (pa_cons (pv 12) pa_nil))) (nomark _)) (pw_or1 (PW.pt (pw_and (pt_cmpR op_gt (pe_callB call_len_seq (by rfl) T.len (by decide +kernel) (pa_cons (pv 13) pa_nil)) pe_int (nomark _)) (pw_and1 (pt_val (pe_callB call_isi (by rfl) T.isinstance (by decide +kernel) (pa_cons (pe_ix ix_list (pv 13) (pe_un un_neg pe_int) (fun _ _ => rfl)) (pa_cons (pe_bltn (v := .ty "tuple") (by rfl) T.tuple boot_tuple rfl) pa_nil)))))))))) (pss_one (ps_ret pe_bl)) pss_nil))))))
  (pss_one (ps_ret (pe_and (pe_cmpR op_eq (pe_callB (call_reprA sm gu hu2) (by rfl) T.repr (by decide +kernel) (pa_cons (pe_fx c_light gu (hr.mono (by decide)) (by rfl) (fun σ => passAt tk σ) (pa_cons (pv 0) (pa_cons (pv 1) pa_nil))) pa_nil)) (pe_callB (call_reprA sm gu hu2) (by rfl) T.repr (by decide +kernel) (pa_cons (pv 4) pa_nil)) (nomark _)) (pe_and (pe_cmpR op_eq (pe_callB (call_reprA sm gu hu2) (by rfl) T.repr (by decide +kernel) (pa_cons (pe_fx c_lit_rounds gu (hr.mono (by decide)) (by rfl) (fun σ => passAt tk σ) (pa_cons (pv 0) (pa_cons (pv 1) pa_nil))) pa_nil)) (pe_callB (call_reprA sm gu hu2) (by rfl) T.repr (by decide +kernel) (pa_cons (pv 9) pa_nil)) (nomark _)) (pe_one (pe_cmpR op_eq (pe_callB (call_reprA sm gu hu2) (by rfl) T.repr (by decide +kernel) (pa_cons (pe_lst (pa_cons (pv 0) (pa_cons (pv 1) pa_nil))) pa_nil)) (pv 2) (nomark _)))))))))))))), (ys_seq (ys_par3MT (ye_cb c_repr (ya_cons (ye_fz (ye_lst (ya_cons ye_var (ya_cons ye_var ya_nil)))) ya_nil)) (ye_call (ya_var (ya_var ya_nil))) (ye_fz (ye_call (ya_var (ya_var ya_nil))))) (ys_seq (ys_parOO (ye_call (ya_var (ya_var ya_nil))) (ye_call (ya_var (ya_var ya_nil)))) (ys_seq (ys_asg (ye_fz (ye_lc (E' := fun _ _ _ => False) (yi_R1 (ya_cons (ye_cb c_len (ya_cons ye_var ya_nil)) ya_nil)) zgw_name yt_yes (ye_fz (ye_lc (E' := fun _ _ _ => False) (yi_R1 (ya_cons (ye_op o_ixT ye_var ye_int) ya_nil)) zgw_name yt_yes (ye_dget1O (ye_tup (ya_cons ye_var (ya_cons ye_var ya_nil)))))))) zg_name) (ys_seq (ys_if (yt_or (yt_B (ye_pure (os := [3, 5, 6]) (ye_op o_ne (ye_cb c_repr (ya_cons ye_var ya_nil)) (ye_cb c_repr (ya_cons ye_var ya_nil))))) (yt_or (yt_val (ye_op o_ne (ye_cb c_repr (ya_cons (ye_fz (ye_callk (ya_cons ye_var (ya_cons ye_var ya_nil)))) ya_nil)) (ye_cb c_repr (ya_cons ye_var ya_nil)))) (yt_B (ye_pure (os := [3, 5, 6]) (ye_op o_ne (ye_cb c_repr (ya_cons ye_var ya_nil)) (ye_cb c_repr (ya_cons ye_var ya_nil))))))) (ys_ret ye_bl) ys_next) (ys_seq (ys_if (yt_or (yt_val (ye_op o_ne (ye_cb c_repr (ya_cons (ye_fz (ye_callk (ya_cons ye_var (ya_cons ye_var ya_nil)))) ya_nil)) (ye_cb c_repr (ya_cons ye_var ya_nil)))) (yt_or (yt_B (ye_pure (os := [3, 5, 6]) (ye_op o_notB (ye_fz (ye_call (ya_var (ya_var (ya_cons ye_var ya_nil))))) ye_bl))) (yt_val (ye_op o_ne (ye_cb c_repr (ya_cons (ye_fz (ye_lst (ya_cons ye_var (ya_cons ye_var ya_nil)))) ya_nil)) ye_var)))) (ys_ret ye_bl) ys_next) (ys_seq (ys_if (yt_and (yt_val ye_neE) (yt_val (ye_op o_B (ye_cb c_maxL (ya_cons (ye_fz ye_vals) ya_nil)) (ye_op (o_Ic cMul_ok) (ye_op o_ixT ye_var ye_int) (ye_cb c_len (ya_cons ye_var ya_nil)))))) (ys_ret ye_bl) ys_next) (ys_seq (ys_mark7 (ys_for (yi_En (ya_cons ye_var ya_nil)) (zg_tup (zgs_cons zg_name (zgs_cons zg_name zgs_nil))) (ys_if (yt_or (yt_val (ye_op o_neA (ye_op o_ixLN ye_var (ye_un o_neg ye_int)) (ye_tup (ya_cons ye_str (ya_cons ye_var ya_nil))))) (yt_and (yt_val (ye_op o_B (ye_cb c_len (ya_cons ye_var ya_nil)) ye_int)) (yt_B (ye_isi (ye_op o_ixLN ye_var (ye_un o_neg ye_int)))))) (ys_ret ye_bl) ys_next))) (ys_ret (ye_and (ye_op o_eq (ye_cb c_repr (ya_cons (ye_fz (ye_call (ya_var (ya_var ya_nil)))) ya_nil)) (ye_cb c_repr (ya_cons ye_var ya_nil))) (ye_and (ye_op o_eq (ye_cb c_repr (ya_cons (ye_fz (ye_call (ya_var (ya_var ya_nil)))) ya_nil)) (ye_cb c_repr (ya_cons ye_var ya_nil))) (ye_op o_eq (ye_cb c_repr (ya_cons (ye_fz (ye_lst (ya_cons ye_var (ya_cons ye_var ya_nil)))) ya_nil)) ye_var)))))))))))⟩
abbrev s_law : Stmt := topS 49
def F_law : List PyData → FR := fnY 1 14 none (sSeq (sFor (iR1 (aCons (eC (.int 4)) aNil)) (gN 1) (sSeq (sAsgO 2 (eGenS 0 (eVar 1))) (sSeq (sAsg (eFz (eCall F__law_level [.o 2, .d, .d] (aOwnS 2 (aCons (eC (.int 4)) (aCons (eC (.int 7)) aNil))))) (gN 3)) (sIf (tNotZ (tVal' (eFz (eCall F__law_right [.d, .d] (aCons (eVar 3) (aCons (eFz (eCall F__law_presses [.o 2, .d, .d] (aOwnS 2 (aCons (eVar 3) (aCons (eC (.int 5)) aNil))))) aNil)))))) (sRet (eC (.bool false))) sNext)))) (sSeq (sAsg (eTup (aCons (eC (.int 3)) (aCons (eFz (eLst (aCons (eTup (aCons (eFz (eLst (aCons (eC (.int 0)) aNil))) (aCons (eC (.int 1)) (aCons (eC (.int 0)) aNil)))) (aCons (eTup (aCons (eFz (eLst (aCons (eC (.int 1)) aNil))) (aCons (eC (.int 2)) (aCons (eUn gNeg (eC (.int 1))) aNil)))) (aCons (eTup (aCons (eFz (eLst (aCons (eC (.int 2)) aNil))) (aCons (eC (.int 2)) (aCons (eUn gNeg (eC (.int 1))) aNil)))) aNil))))) aNil))) (gN 4)) (sSeq (sIf (tOrZ (tVal' (eOp gNeA (eFz (eCall F_light [.d, .d] (aCons (eVar 4) (aCons (eFz (eLst (aCons (eFz (eLst aNil)) (aCons (eFz (eLst aNil)) (aCons (eFz (eLst (aCons (eC (.int 0)) aNil))) aNil))))) aNil)))) (eFz (eLst (aCons (eFz (eLst (aCons (eC (.int 2)) aNil))) (aCons (eFz (eLst (aCons (eC (.int 2)) aNil))) (aCons (eFz (eLst (aCons (eC (.int 0)) (aCons (eC (.int 1)) aNil)))) aNil))))))) (tVal' (eOp gNeA (eFz (eCall F_lit_rounds [.d, .d] (aCons (eVar 4) (aCons (eFz (eLst (aCons (eFz (eLst aNil)) (aCons (eFz (eLst aNil)) (aCons (eFz (eLst (aCons (eC (.int 0)) aNil))) aNil))))) aNil)))) (eFz (eLst (aCons (eFz (eLst (aCons (eC .none) (aCons (eC .none) (aCons (eC (.int 3)) aNil))))) (aCons (eFz (eLst (aCons (eC .none) (aCons (eC .none) (aCons (eC (.int 2)) aNil))))) (aCons (eFz (eLst (aCons (eC (.int 0)) (aCons (eC (.int 1)) (aCons (eC .none) aNil))))) aNil)))))))) (sRet (eC (.bool false))) sNext) (sSeq (sAsg (eTup (aCons (eC (.int 2)) (aCons (eFz (eLst (aCons (eTup (aCons (eFz (eLst (aCons (eC (.int 0)) aNil))) (aCons (eC (.int 0)) (aCons (eC (.int 1)) aNil)))) (aCons (eTup (aCons (eFz (eLst (aCons (eC (.int 0)) aNil))) (aCons (eC (.int 1)) (aCons (eUn gNeg (eC (.int 1))) aNil)))) (aCons (eTup (aCons (eFz (eLst (aCons (eC (.int 1)) aNil))) (aCons (eC (.int 1)) (aCons (eUn gNeg (eC (.int 1))) aNil)))) aNil))))) aNil))) (gN 5)) (sSeq (sIf (tVal' (eOp gNeA (eFz (eCall F_light [.d, .d] (aCons (eVar 5) (aCons (eOp gCat (eFz (eLst (aCons (eFz (eLst (aCons (eC (.int 0)) aNil))) aNil))) (eOp gRep (eFz (eLst (aCons (eFz (eLst aNil)) aNil))) (eC (.int 29)))) aNil)))) (eOp gCat (eOp gRep (eFz (eLst (aCons (eFz (eLst (aCons (eC (.int 0)) (aCons (eC (.int 1)) aNil)))) aNil))) (eC (.int 29))) (eFz (eLst (aCons (eFz (eLst (aCons (eC (.int 0)) aNil))) aNil)))))) (sRet (eC (.bool false))) sNext) (sSeq (sAsg (eTup (aCons (eC (.int 2)) (aCons (eFz (eLst (aCons (eTup (aCons (eFz (eLst (aCons (eC (.int 0)) aNil))) (aCons (eC (.int 1)) (aCons (eC (.int 1)) aNil)))) (aCons (eTup (aCons (eFz (eLst (aCons (eC (.int 1)) aNil))) (aCons (eC (.int 0)) (aCons (eC (.int 1)) aNil)))) (aCons (eTup (aCons (eFz (eLst (aCons (eC (.int 0)) aNil))) (aCons (eC (.int 0)) (aCons (eC (.int 1)) aNil)))) (aCons (eTup (aCons (eFz (eLst (aCons (eC (.int 1)) aNil))) (aCons (eC (.int 1)) (aCons (eC (.int 1)) aNil)))) aNil)))))) aNil))) (gN 6)) (sSeq (sIf (tVal' (eOp gNeA (eFz (eCall F_lit_rounds [.d, .d] (aCons (eVar 6) (aCons (eOp gCat (eFz (eLst (aCons (eFz (eLst (aCons (eC (.int 0)) (aCons (eC (.int 1)) aNil)))) aNil))) (eOp gRep (eFz (eLst (aCons (eFz (eLst aNil)) aNil))) (eC (.int 29)))) aNil)))) (eFz (eLc (iR1 (aCons (eC (.int 30)) aNil)) [7] (gN 7) tYesZ (eFz (eLst (aCons (eVar 7) (aCons (eVar 7) aNil)))))))) (sRet (eC (.bool false))) sNext) (sSeq (sPar 8 9 (aCons (eFz (eLst aNil)) (aCons (eFz (eLst (aCons (eFz (eLst (aCons (eC (.int 0)) aNil))) (aCons (eFz (eLst (aCons (eC (.int 6)) aNil))) (aCons (eFz (eLst (aCons (eC (.int 7)) aNil))) (aCons (eFz (eLst (aCons (eC (.int 8)) aNil))) (aCons (eFz (eLst (aCons (eC (.int 9)) aNil))) (aCons (eFz (eLst (aCons (eC (.int 10)) aNil))) (aCons (eFz (eLst (aCons (eC (.int 11)) aNil))) (aCons (eFz (eLst (aCons (eC (.int 12)) aNil))) (aCons (eFz (eLst (aCons (eC (.int 13)) aNil))) (aCons (eFz (eLst (aCons (eC (.int 1)) aNil))) (aCons (eFz (eLst (aCons (eC (.int 14)) aNil))) (aCons (eFz (eLst (aCons (eC (.int 15)) aNil))) aNil)))))))))))))) aNil))) (sSeq (sFor (iR1 (aCons (eC (.int 6)) aNil)) (gN 10) (sSeq (sAsg (eOp (gI fun i j => i + j) (eC (.int 6)) (eOp (gIc cMul fun i j => i * j) (eC (.int 8)) (eVar 10))) (gN 11)) (sAsg (eOp gCat (eOp gCat (eOp gCat (eVar 8) (eFz (eLst (aCons (eTup (aCons (eFz (eLst (aCons (eVar 10) aNil))) (aCons (eVar 11) (aCons (eC (.int 1)) aNil)))) aNil)))) (eFz (eLc (iR2 (aCons (eVar 11) (aCons (eOp (gI fun i j => i + j) (eVar 11) (eC (.int 7))) aNil))) [12] (gN 12) tYesZ (eTup (aCons (eFz (eLst (aCons (eVar 12) aNil))) (aCons (eOp (gI fun i j => i + j) (eVar 12) (eC (.int 1))) (aCons (eC (.int 1)) aNil))))))) (eFz (eLst (aCons (eTup (aCons (eFz (eLst (aCons (eOp (gI fun i j => i + j) (eVar 11) (eC (.int 7))) aNil))) (aCons (eOp (gIc cPos fun i j => i % j) (eCB gInt (aCons (eOp (gI fun i j => i + j) (eVar 10) (eC (.int 1))) aNil)) (eC (.int 6))) (aCons (eC (.int 1)) aNil)))) aNil)))) (gN 8)))) (sSeq (sIf (tVal' (eOp gNeA (eFz (eCall F_light [.d, .d] (aCons (eTup (aCons (eC (.int 54)) (aCons (eVar 8) aNil))) (aCons (eOp gCat (eFz (eLst (aCons (eFz (eLst (aCons (eC (.int 0)) aNil))) aNil))) (eOp gRep (eFz (eLst (aCons (eFz (eLst aNil)) aNil))) (eC (.int 11)))) aNil)))) (eVar 9))) (sRet (eC (.bool false))) sNext) (sSeq (sAsg (eTup (aCons (eC (.int 3)) (aCons (eFz (eLst (aCons (eTup (aCons (eFz (eLst (aCons (eC (.int 0)) aNil))) (aCons (eC (.int 1)) (aCons (eUn gNeg (eC (.int 1))) aNil)))) (aCons (eTup (aCons (eFz (eLst (aCons (eC (.int 1)) aNil))) (aCons (eC (.int 2)) (aCons (eC (.int 1)) aNil)))) (aCons (eTup (aCons (eFz (eLst (aCons (eC (.int 2)) aNil))) (aCons (eC (.int 0)) (aCons (eC (.int 1)) aNil)))) aNil))))) aNil))) (gN 13)) (sSeq (sIf (tVal' (eOp gNeA (eFz (eCall F_light [.d, .d] (aCons (eVar 13) (aCons (eOp gCat (eFz (eLst (aCons (eFz (eLst aNil)) (aCons (eFz (eLst (aCons (eC (.int 0)) aNil))) aNil)))) (eOp gRep (eFz (eLst (aCons (eFz (eLst aNil)) aNil))) (eC (.int 28)))) aNil)))) (eOp gCat (eOp gCat (eFz (eLst (aCons (eFz (eLst (aCons (eC (.int 1)) aNil))) aNil))) (eOp gRep (eFz (eLst (aCons (eFz (eLst (aCons (eC (.int 0)) (aCons (eC (.int 1)) (aCons (eC (.int 2)) aNil))))) aNil))) (eC (.int 28)))) (eFz (eLst (aCons (eFz (eLst (aCons (eC (.int 0)) (aCons (eC (.int 2)) aNil)))) aNil)))))) (sRet (eC (.bool false))) sNext) (sRet (eAnd (eOp gEqA (eFz (eCall F_light [.d, .d] (aCons (eTup (aCons (eC (.int 1)) (aCons (eFz (eLst (aCons (eTup (aCons (eFz (eLst aNil)) (aCons (eC (.int 0)) (aCons (eC (.int 1)) aNil)))) aNil))) aNil))) (aCons (eFz (eLst (aCons (eFz (eLst aNil)) (aCons (eFz (eLst aNil)) (aCons (eFz (eLst aNil)) aNil))))) aNil)))) (eFz (eLst (aCons (eFz (eLst aNil)) (aCons (eFz (eLst (aCons (eC (.int 0)) aNil))) (aCons (eFz (eLst (aCons (eC (.int 0)) aNil))) aNil)))))) (eAnd (eOp gEqA (eFz (eCall F_light [.d, .d] (aCons (eTup (aCons (eC (.int 1)) (aCons (eFz (eLst aNil)) aNil))) (aCons (eFz (eLst aNil)) aNil)))) (eFz (eLst aNil))) (eOp gEqA (eFz (eCall F_light [.d, .d] (aCons (eTup (aCons (eC (.int 1)) (aCons (eFz (eLst (aCons (eTup (aCons (eFz (eLst (aCons (eC (.int 0)) aNil))) (aCons (eC (.int 0)) (aCons (eC (.int 0)) aNil)))) aNil))) aNil))) (aCons (eFz (eLst (aCons (eFz (eLst aNil)) aNil))) aNil)))) (eFz (eLst (aCons (eFz (eLst aNil)) aNil)))))))))))))))))))
theorem f_law (T : Tb mg) (sm : ∃ mm, base.Ns sysModules mm) (c__law_level : Fx P w K mg base "_law_level" ["_law_generator_here", "_law_most", "_law_doors"] 4 (SpY K cl (some 0) F__law_level)) (c__law_presses : Fx P w K mg base "_law_presses" ["_law_generator_here", "_law_level_here", "_law_most"] 4 (SpY K cl (some 0) F__law_presses)) (c__law_right : Fx P w K mg base "_law_right" ["_law_level_here", "_law_presses_here"] 11 (SpY K cl none F__law_right)) (c_lit_rounds : Fx P w K mg base "lit_rounds" ["level", "presses"] 10 (SpY K cl none F_lit_rounds)) (c_light : Fx P w K mg base "light" ["level", "presses"] 10 (SpY K cl none F_light)) (c__law_generator : Fc P w K mg base "_law_generator" ["_law_script", "_law_index"] 2 (spGenV K)) (hF : ∀ ns : List Int, F_law [markD ns] = .v (.bool true) .none) {f : Addr} {fd : FuncData} (F : Fun K "law" "law" s_law f fd) : FnG P w K mg base (L2.CX P w) 12 f fd ["_law_script"] (spLawV K) := by
  have S : FnScope ["_law_script", "_law_index", "_law_generator_here", "_law_level_here", "_law_back", "_law_long", "_law_two", "_law_tick", "_law_near", "_law_path", "_law_room", "_law_first", "_law_at", "_law_zigzag"] ["_law_script"] (defScope s_law) := ⟨rfl, rfl, rfl, by decide +kernel, rfl, by decide +kernel, by decide +kernel⟩
  refine fy_law (cl := cl) (m := 1) (O := (fun i => [2].contains i)) F S (by decide) hF fun f' cdv A outer s H E gu hr tk => ?_
  have hc : (cxOf (L2.CX P w) P w K mg base ["_law_script", "_law_index", "_law_generator_here", "_law_level_here", "_law_back", "_law_long", "_law_two", "_law_tick", "_law_near", "_law_path", "_law_room", "_law_first", "_law_at", "_law_zigzag"] "law" (defScope s_law) f' cdv A outer s H E).calm = true := rfl
  have hu64 : (cxOf (L2.CX P w) P w K mg base ["_law_script", "_law_index", "_law_generator_here", "_law_level_here", "_law_back", "_law_long", "_law_two", "_law_tick", "_law_near", "_law_path", "_law_room", "_law_first", "_law_at", "_law_zigzag"] "law" (defScope s_law) f' cdv A outer s H E).A.units + 64 < cLine := hr.units
  have hu : (cxOf (L2.CX P w) P w K mg base ["_law_script", "_law_index", "_law_generator_here", "_law_level_here", "_law_back", "_law_long", "_law_two", "_law_tick", "_law_near", "_law_path", "_law_room", "_law_first", "_law_at", "_law_zigzag"] "law" (defScope s_law) f' cdv A outer s H E).A.units + 1 < cLine := Nat.lt_of_le_of_lt (Nat.add_le_add_left (by decide) _) hr.units
  have hu2 : (cxOf (L2.CX P w) P w K mg base ["_law_script", "_law_index", "_law_generator_here", "_law_level_here", "_law_back", "_law_long", "_law_two", "_law_tick", "_law_near", "_law_path", "_law_room", "_law_first", "_law_at", "_law_zigzag"] "law" (defScope s_law) f' cdv A outer s H E).A.units + 200 < cLine := Nat.lt_of_le_of_lt (Nat.add_le_add_right (Nat.le_add_right _ (16 * 11)) _) hr.un
  have hu65 : (cxOf (L2.CX P w) P w K mg base ["_law_script", "_law_index", "_law_generator_here", "_law_level_here", "_law_back", "_law_long", "_law_two", "_law_tick", "_law_near", "_law_path", "_law_room", "_law_first", "_law_at", "_law_zigzag"] "law" (defScope s_law) f' cdv A outer s H E).A.units + 65 < cLine := Nat.lt_of_le_of_lt (Nat.add_le_add_left (by decide) _) hu2
  exact ⟨_, (pss_cons (ps_for PassesOwn.leaving hc (pi_range1 (by rfl) T.range (pa_cons pe_int pa_nil)) (pg_name (i := 1) S.nd rfl (by first | exact Or.inl rfl | exact Or.inr rfl))
    (pss_cons (ps_set (i := 2) S.nd rfl (by first | exact Or.inl rfl | exact Or.inr rfl) (pe_f c__law_generator gu (hr.mono (by decide)) (by rfl) (pa_cons (pv 0) (pa_cons (pv 1) pa_nil))))
  (pss_cons (ps_set (i := 3) S.nd rfl (by first | exact Or.inl rfl | exact Or.inr rfl) (pe_fx c__law_level gu (hr.mono (by decide)) (by rfl) (fun σ => passAt tk σ) (pa_cons (pv 2) (pa_cons pe_int (pa_cons pe_int pa_nil)))))
  (pss_one (ps_if (pt_not (pt_val (pe_fx c__law_right gu (hr.mono (by decide)) (by rfl) (fun σ => passAt tk σ) (pa_cons (pv 3) (pa_cons (pe_fx c__law_presses gu (hr.mono (by decide)) (by rfl) (fun σ => passAt tk σ) (pa_cons (pv 2) (pa_cons (pv 3) (pa_cons pe_int pa_nil)))) pa_nil))))) (pss_one (ps_ret pe_bl)) pss_nil)))))
  (pss_cons (ps_set (i := 4) S.nd rfl (by first | exact Or.inl rfl | exact Or.inr rfl) (pe_tup (pa_cons pe_int (pa_cons (pe_lst (pa_cons (pe_tup (pa_cons (pe_lst (pa_cons pe_int pa_nil)) (pa_cons pe_int (pa_cons pe_int pa_nil)))) (pa_cons (pe_tup (pa_cons (pe_lst (pa_cons pe_int pa_nil)) (pa_cons pe_int (pa_cons (pe_un un_neg pe_int) pa_nil)))) (pa_cons (pe_tup (pa_cons (pe_lst (pa_cons pe_int pa_nil)) (pa_cons pe_int (pa_cons (pe_un un_neg pe_int) pa_nil)))) pa_nil)))) pa_nil))))
  (pss_cons (ps_if (PW.pt (pw_or (pt_cmpR (op_neA sm hu64) (pe_fx c_light gu (hr.mono (by decide)) (by rfl) (fun σ => passAt tk σ) (pa_cons (pv 4) (pa_cons (pe_lst (pa_cons (pe_lst pa_nil) (pa_cons (pe_lst pa_nil) (pa_cons (pe_lst (pa_cons pe_int pa_nil)) pa_nil)))) pa_nil))) (pe_lst (pa_cons (pe_lst (pa_cons pe_int pa_nil)) (pa_cons (pe_lst (pa_cons pe_int pa_nil)) (pa_cons (pe_lst (pa_cons pe_int (pa_cons pe_int pa_nil))) pa_nil)))) (nomark _)) (pw_or1 (pt_cmpR (op_neA sm hu64) (pe_fx c_lit_rounds gu (hr.mono (by decide)) (by rfl) (fun σ => passAt tk σ) (pa_cons (pv 4) (pa_cons (pe_lst (pa_cons (pe_lst pa_nil) (pa_cons (pe_lst pa_nil) (pa_cons (pe_lst (pa_cons pe_int pa_nil)) pa_nil)))) pa_nil))) (pe_lst (pa_cons (pe_lst (pa_cons pe_non (pa_cons pe_non (pa_cons pe_int pa_nil)))) (pa_cons (pe_lst (pa_cons pe_non (pa_cons pe_non (pa_cons pe_int pa_nil)))) (pa_cons (pe_lst (pa_cons pe_int (pa_cons pe_int (pa_cons pe_non pa_nil)))) pa_nil)))) (nomark _))))) (pss_one (ps_ret pe_bl)) pss_nil)
  (pss_cons (ps_set (i := 5) S.nd rfl (by first | exact Or.inl rfl | exact Or.inr rfl) (pe_tup (pa_cons pe_int (pa_cons (pe_lst (pa_cons (pe_tup (pa_cons (pe_lst (pa_cons pe_int pa_nil)) (pa_cons pe_int (pa_cons pe_int pa_nil)))) (pa_cons (pe_tup (pa_cons (pe_lst (pa_cons pe_int pa_nil)) (pa_cons pe_int (pa_cons (pe_un un_neg pe_int) pa_nil)))) (pa_cons (pe_tup (pa_cons (pe_lst (pa_cons pe_int pa_nil)) (pa_cons pe_int (pa_cons (pe_un un_neg pe_int) pa_nil)))) pa_nil)))) pa_nil))))
  (pss_cons (ps_if (pt_cmpR (op_neA sm hu64) (pe_fx c_light gu (hr.mono (by decide)) (by rfl) (fun σ => passAt tk σ) (pa_cons (pv 5) (pa_cons (pe_op op_cat (pe_lst (pa_cons (pe_lst (pa_cons pe_int pa_nil)) pa_nil)) (pe_op op_rep (pe_lst (pa_cons (pe_lst pa_nil) pa_nil)) pe_int)) pa_nil))) (pe_op op_cat (pe_op op_rep (pe_lst (pa_cons (pe_lst (pa_cons pe_int (pa_cons pe_int pa_nil))) pa_nil)) pe_int) (pe_lst (pa_cons (pe_lst (pa_cons pe_int pa_nil)) pa_nil))) (nomark _)) (pss_one (ps_ret pe_bl)) pss_nil)
  (pss_cons (ps_set (i := 6) S.nd rfl (by first | exact Or.inl rfl | exact Or.inr rfl) (pe_tup (pa_cons pe_int (pa_cons (pe_lst (pa_cons (pe_tup (pa_cons (pe_lst (pa_cons pe_int pa_nil)) (pa_cons pe_int (pa_cons pe_int pa_nil)))) (pa_cons (pe_tup (pa_cons (pe_lst (pa_cons pe_int pa_nil)) (pa_cons pe_int (pa_cons pe_int pa_nil)))) (pa_cons (pe_tup (pa_cons (pe_lst (pa_cons pe_int pa_nil)) (pa_cons pe_int (pa_cons pe_int pa_nil)))) (pa_cons (pe_tup (pa_cons (pe_lst (pa_cons pe_int pa_nil)) (pa_cons pe_int (pa_cons pe_int pa_nil)))) pa_nil))))) pa_nil))))
  (pss_cons (ps_if (pt_cmpR (op_neA sm hu64) (pe_fx c_lit_rounds gu (hr.mono (by decide)) (by rfl) (fun σ => passAt tk σ) (pa_cons (pv 6) (pa_cons (pe_op op_cat (pe_lst (pa_cons (pe_lst (pa_cons pe_int (pa_cons pe_int pa_nil))) pa_nil)) (pe_op op_rep (pe_lst (pa_cons (pe_lst pa_nil) pa_nil)) pe_int)) pa_nil))) (pe_lc (own := [("_law_tick", 7)]) hc S.nd (pi_range1 (by rfl) T.range (pa_cons pe_int pa_nil)) (blkOk_by (N := ["_law_script", "_law_index", "_law_generator_here", "_law_level_here", "_law_back", "_law_long", "_law_two", "_law_tick", "_law_near", "_law_path", "_law_room", "_law_first", "_law_at", "_law_zigzag"]) (sc := defScope s_law) (by decide +kernel)) (fun _ _ _ _ _ => (pg_name (i := 7) S.nd rfl (by first | exact Or.inl rfl | exact Or.inr rfl))) (fun _ _ _ _ _ => pts_nil) (fun _ _ _ _ _ => (pe_lst (pa_cons (pv 7) (pa_cons (pv 7) pa_nil))))) (nomark _)) (pss_one (ps_ret pe_bl)) pss_nil)
  (pss_cons (ps_par (i := 8) (j := 9) hc S.nd rfl rfl (by decide) rfl rfl (pa_cons (pe_lst pa_nil) (pa_cons (pe_lst (pa_cons (pe_lst (pa_cons pe_int pa_nil)) (pa_cons (pe_lst (pa_cons pe_int pa_nil)) (pa_cons (pe_lst (pa_cons pe_int pa_nil)) (pa_cons (pe_lst (pa_cons pe_int pa_nil)) (pa_cons (pe_lst (pa_cons pe_int pa_nil)) (pa_cons (pe_lst (pa_cons pe_int pa_nil)) (pa_cons (pe_lst (pa_cons pe_int pa_nil)) (pa_cons (pe_lst (pa_cons pe_int pa_nil)) (pa_cons (pe_lst (pa_cons pe_int pa_nil)) (pa_cons (pe_lst (pa_cons pe_int pa_nil)) (pa_cons (pe_lst (pa_cons pe_int pa_nil)) (pa_cons (pe_lst (pa_cons pe_int pa_nil)) pa_nil))))))))))))) pa_nil)) (by rfl))
  (pss_cons (ps_for PassesOwn.leaving hc (pi_range1 (by rfl) T.range (pa_cons pe_int pa_nil)) (pg_name (i := 10) S.nd rfl (by first | exact Or.inl rfl | exact Or.inr rfl))
    (pss_cons (ps_set (i := 11) S.nd rfl (by first | exact Or.inl rfl | exact Or.inr rfl) (pe_op op_add pe_int (pe_op op_mul pe_int (pv 10))))
  (pss_one (ps_set (i := 8) S.nd rfl (by first | exact Or.inl rfl | exact Or.inr rfl) (pe_op op_cat (pe_op op_cat (pe_op op_cat (pv 8) (pe_lst (pa_cons (pe_tup (pa_cons (pe_lst (pa_cons (pv 10) pa_nil)) (pa_cons (pv 11) (pa_cons pe_int pa_nil)))) pa_nil))) (pe_lc (own := [("_law_at", 12)]) hc S.nd (pi_range2 (by rfl) T.range (pa_cons (pv 11) (pa_cons (pe_op op_add (pv 11) pe_int) pa_nil))) (blkOk_by (N := ["_law_script", "_law_index", "_law_generator_here", "_law_level_here", "_law_back", "_law_long", "_law_two", "_law_tick", "_law_near", "_law_path", "_law_room", "_law_first", "_law_at", "_law_zigzag"]) (sc := defScope s_law) (by decide +kernel)) (fun _ _ _ _ _ => (pg_name (i := 12) S.nd rfl (by first | exact Or.inl rfl | exact Or.inr rfl))) (fun _ _ _ _ _ => pts_nil) (fun _ _ _ _ _ => (pe_tup (pa_cons (pe_lst (pa_cons (pv 12) pa_nil)) (pa_cons (pe_op op_add (pv 12) pe_int) (pa_cons pe_int pa_nil))))))) (pe_lst (pa_cons (pe_tup (pa_cons (pe_lst (pa_cons (pe_op op_add (pv 11) pe_int) pa_nil)) (pa_cons (pe_op op_mod (pe_callTy call_int1 (by rfl) T.int (by decide +kernel) (pa_cons (pe_op op_add (pv 10) pe_int) pa_nil)) pe_int) (pa_cons pe_int pa_nil)))) pa_nil)))))))
  (pss_cons (ps_if (pt_cmpR (op_neA sm hu64) (pe_fx c_light gu (hr.mono (by decide)) (by rfl) (fun σ => passAt tk σ) (pa_cons (pe_tup (pa_cons pe_int (pa_cons (pv 8) pa_nil))) (pa_cons (pe_op op_cat (pe_lst (pa_cons (pe_lst (pa_cons pe_int pa_nil)) pa_nil)) (pe_op op_rep (pe_lst (pa_cons (pe_lst pa_nil) pa_nil)) pe_int)) pa_nil))) (pv 9) (nomark _)) (pss_one (ps_ret pe_bl)) pss_nil)
  (pss_cons (ps_set (i := 13) S.nd rfl (by first | exact Or.inl rfl | exact Or.inr rfl) (pe_tup (pa_cons pe_int (pa_cons (pe_lst (pa_cons (pe_tup (pa_cons (pe_lst (pa_cons pe_int pa_nil)) (pa_cons pe_int (pa_cons (pe_un un_neg pe_int) pa_nil)))) (pa_cons (pe_tup (pa_cons (pe_lst (pa_cons pe_int pa_nil)) (pa_cons pe_int (pa_cons pe_int pa_nil)))) (pa_cons (pe_tup (pa_cons (pe_lst (pa_cons pe_int pa_nil)) (pa_cons pe_int (pa_cons pe_int pa_nil)))) pa_nil)))) pa_nil))))
  (pss_cons (ps_if (pt_cmpR (op_neA sm hu64) (pe_fx c_light gu (hr.mono (by decide)) (by rfl) (fun σ => passAt tk σ) (pa_cons (pv 13) (pa_cons (pe_op op_cat (pe_lst (pa_cons (pe_lst pa_nil) (pa_cons (pe_lst (pa_cons pe_int pa_nil)) pa_nil))) (pe_op op_rep (pe_lst (pa_cons (pe_lst pa_nil) pa_nil)) pe_int)) pa_nil))) (pe_op op_cat (pe_op op_cat (pe_lst (pa_cons (pe_lst (pa_cons pe_int pa_nil)) pa_nil)) (pe_op op_rep (pe_lst (pa_cons (pe_lst (pa_cons pe_int (pa_cons pe_int (pa_cons pe_int pa_nil)))) pa_nil)) pe_int)) (pe_lst (pa_cons (pe_lst (pa_cons pe_int (pa_cons pe_int pa_nil))) pa_nil))) (nomark _)) (pss_one (ps_ret pe_bl)) pss_nil)
  (pss_one (ps_ret (pe_and (pe_cmpR (op_eqA sm hu64) (pe_fx c_light gu (hr.mono (by decide)) (by rfl) (fun σ => passAt tk σ) (pa_cons (pe_tup (pa_cons pe_int (pa_cons (pe_lst (pa_cons (pe_tup (pa_cons (pe_lst pa_nil) (pa_cons pe_int (pa_cons pe_int pa_nil)))) pa_nil)) pa_nil))) (pa_cons (pe_lst (pa_cons (pe_lst pa_nil) (pa_cons (pe_lst pa_nil) (pa_cons (pe_lst pa_nil) pa_nil)))) pa_nil))) (pe_lst (pa_cons (pe_lst pa_nil) (pa_cons (pe_lst (pa_cons pe_int pa_nil)) (pa_cons (pe_lst (pa_cons pe_int pa_nil)) pa_nil)))) (nomark _)) (pe_and (pe_cmpR (op_eqA sm hu64) (pe_fx c_light gu (hr.mono (by decide)) (by rfl) (fun σ => passAt tk σ) (pa_cons (pe_tup (pa_cons pe_int (pa_cons (pe_lst pa_nil) pa_nil))) (pa_cons (pe_lst pa_nil) pa_nil))) (pe_lst pa_nil) (nomark _)) (pe_one (pe_cmpR (op_eqA sm hu64) (pe_fx c_light gu (hr.mono (by decide)) (by rfl) (fun σ => passAt tk σ) (pa_cons (pe_tup (pa_cons pe_int (pa_cons (pe_lst (pa_cons (pe_tup (pa_cons (pe_lst (pa_cons pe_int pa_nil)) (pa_cons pe_int (pa_cons pe_int pa_nil)))) pa_nil)) pa_nil))) (pa_cons (pe_lst (pa_cons (pe_lst pa_nil) pa_nil)) pa_nil))) (pe_lst (pa_cons (pe_lst pa_nil) pa_nil)) (nomark _))))))))))))))))))), (ys_seq (ys_for (yi_R1 (ya_cons ye_int ya_nil)) zg_name (ys_seq (ys_asgO (ye_genS ye_var)) (ys_seq (ys_asg (ye_fz (ye_call (ya_ownS (ya_cons ye_int (ya_cons ye_int ya_nil))))) zg_name) (ys_if (yt_not (yt_B (ye_fz (ye_call (ya_cons ye_var (ya_cons (ye_fz (ye_call (ya_ownS (ya_cons ye_var (ya_cons ye_int ya_nil))))) ya_nil)))))) (ys_ret ye_bl) ys_next)))) (ys_seq (ys_asg (ye_tup (ya_cons ye_int (ya_cons (ye_fz (ye_lst (ya_cons (ye_tup (ya_cons (ye_fz (ye_lst (ya_cons ye_int ya_nil))) (ya_cons ye_int (ya_cons ye_int ya_nil)))) (ya_cons (ye_tup (ya_cons (ye_fz (ye_lst (ya_cons ye_int ya_nil))) (ya_cons ye_int (ya_cons (ye_un o_neg ye_int) ya_nil)))) (ya_cons (ye_tup (ya_cons (ye_fz (ye_lst (ya_cons ye_int ya_nil))) (ya_cons ye_int (ya_cons (ye_un o_neg ye_int) ya_nil)))) ya_nil))))) ya_nil))) zg_name) (ys_seq (ys_if (yt_or (yt_val (ye_op o_neA (ye_fz (ye_call (ya_cons ye_var (ya_cons (ye_fz (ye_lst (ya_cons (ye_fz (ye_lst ya_nil)) (ya_cons (ye_fz (ye_lst ya_nil)) (ya_cons (ye_fz (ye_lst (ya_cons ye_int ya_nil))) ya_nil))))) ya_nil)))) (ye_fz (ye_lst (ya_cons (ye_fz (ye_lst (ya_cons ye_int ya_nil))) (ya_cons (ye_fz (ye_lst (ya_cons ye_int ya_nil))) (ya_cons (ye_fz (ye_lst (ya_cons ye_int (ya_cons ye_int ya_nil)))) ya_nil))))))) (yt_val (ye_op o_neA (ye_fz (ye_call (ya_cons ye_var (ya_cons (ye_fz (ye_lst (ya_cons (ye_fz (ye_lst ya_nil)) (ya_cons (ye_fz (ye_lst ya_nil)) (ya_cons (ye_fz (ye_lst (ya_cons ye_int ya_nil))) ya_nil))))) ya_nil)))) (ye_fz (ye_lst (ya_cons (ye_fz (ye_lst (ya_cons ye_non (ya_cons ye_non (ya_cons ye_int ya_nil))))) (ya_cons (ye_fz (ye_lst (ya_cons ye_non (ya_cons ye_non (ya_cons ye_int ya_nil))))) (ya_cons (ye_fz (ye_lst (ya_cons ye_int (ya_cons ye_int (ya_cons ye_non ya_nil))))) ya_nil)))))))) (ys_ret ye_bl) ys_next) (ys_seq (ys_asg (ye_tup (ya_cons ye_int (ya_cons (ye_fz (ye_lst (ya_cons (ye_tup (ya_cons (ye_fz (ye_lst (ya_cons ye_int ya_nil))) (ya_cons ye_int (ya_cons ye_int ya_nil)))) (ya_cons (ye_tup (ya_cons (ye_fz (ye_lst (ya_cons ye_int ya_nil))) (ya_cons ye_int (ya_cons (ye_un o_neg ye_int) ya_nil)))) (ya_cons (ye_tup (ya_cons (ye_fz (ye_lst (ya_cons ye_int ya_nil))) (ya_cons ye_int (ya_cons (ye_un o_neg ye_int) ya_nil)))) ya_nil))))) ya_nil))) zg_name) (ys_seq (ys_if (yt_val (ye_op o_neA (ye_fz (ye_call (ya_cons ye_var (ya_cons (ye_op o_cat (ye_fz (ye_lst (ya_cons (ye_fz (ye_lst (ya_cons ye_int ya_nil))) ya_nil))) (ye_op o_rep (ye_fz (ye_lst (ya_cons (ye_fz (ye_lst ya_nil)) ya_nil))) ye_int)) ya_nil)))) (ye_op o_cat (ye_op o_rep (ye_fz (ye_lst (ya_cons (ye_fz (ye_lst (ya_cons ye_int (ya_cons ye_int ya_nil)))) ya_nil))) ye_int) (ye_fz (ye_lst (ya_cons (ye_fz (ye_lst (ya_cons ye_int ya_nil))) ya_nil)))))) (ys_ret ye_bl) ys_next) (ys_seq (ys_asg (ye_tup (ya_cons ye_int (ya_cons (ye_fz (ye_lst (ya_cons (ye_tup (ya_cons (ye_fz (ye_lst (ya_cons ye_int ya_nil))) (ya_cons ye_int (ya_cons ye_int ya_nil)))) (ya_cons (ye_tup (ya_cons (ye_fz (ye_lst (ya_cons ye_int ya_nil))) (ya_cons ye_int (ya_cons ye_int ya_nil)))) (ya_cons (ye_tup (ya_cons (ye_fz (ye_lst (ya_cons ye_int ya_nil))) (ya_cons ye_int (ya_cons ye_int ya_nil)))) (ya_cons (ye_tup (ya_cons (ye_fz (ye_lst (ya_cons ye_int ya_nil))) (ya_cons ye_int (ya_cons ye_int ya_nil)))) ya_nil)))))) ya_nil))) zg_name) (ys_seq (ys_if (yt_val (ye_op o_neA (ye_fz (ye_call (ya_cons ye_var (ya_cons (ye_op o_cat (ye_fz (ye_lst (ya_cons (ye_fz (ye_lst (ya_cons ye_int (ya_cons ye_int ya_nil)))) ya_nil))) (ye_op o_rep (ye_fz (ye_lst (ya_cons (ye_fz (ye_lst ya_nil)) ya_nil))) ye_int)) ya_nil)))) (ye_fz (ye_lc (E' := fun _ _ _ => False) (yi_R1 (ya_cons ye_int ya_nil)) zgw_name yt_yes (ye_fz (ye_lst (ya_cons ye_var (ya_cons ye_var ya_nil)))))))) (ys_ret ye_bl) ys_next) (ys_seq (ys_par (ya_cons (ye_fz (ye_lst ya_nil)) (ya_cons (ye_fz (ye_lst (ya_cons (ye_fz (ye_lst (ya_cons ye_int ya_nil))) (ya_cons (ye_fz (ye_lst (ya_cons ye_int ya_nil))) (ya_cons (ye_fz (ye_lst (ya_cons ye_int ya_nil))) (ya_cons (ye_fz (ye_lst (ya_cons ye_int ya_nil))) (ya_cons (ye_fz (ye_lst (ya_cons ye_int ya_nil))) (ya_cons (ye_fz (ye_lst (ya_cons ye_int ya_nil))) (ya_cons (ye_fz (ye_lst (ya_cons ye_int ya_nil))) (ya_cons (ye_fz (ye_lst (ya_cons ye_int ya_nil))) (ya_cons (ye_fz (ye_lst (ya_cons ye_int ya_nil))) (ya_cons (ye_fz (ye_lst (ya_cons ye_int ya_nil))) (ya_cons (ye_fz (ye_lst (ya_cons ye_int ya_nil))) (ya_cons (ye_fz (ye_lst (ya_cons ye_int ya_nil))) ya_nil)))))))))))))) ya_nil))) (ys_seq (ys_for (yi_R1 (ya_cons ye_int ya_nil)) zg_name (ys_seq (ys_asg (ye_op o_I ye_int (ye_op (o_Ic cMul_ok) ye_int ye_var)) zg_name) (ys_asg (ye_op o_cat (ye_op o_cat (ye_op o_cat ye_var (ye_fz (ye_lst (ya_cons (ye_tup (ya_cons (ye_fz (ye_lst (ya_cons ye_var ya_nil))) (ya_cons ye_var (ya_cons ye_int ya_nil)))) ya_nil)))) (ye_fz (ye_lc (E' := fun _ _ _ => False) (yi_R2 (ya_cons ye_var (ya_cons (ye_op o_I ye_var ye_int) ya_nil))) zgw_name yt_yes (ye_tup (ya_cons (ye_fz (ye_lst (ya_cons ye_var ya_nil))) (ya_cons (ye_op o_I ye_var ye_int) (ya_cons ye_int ya_nil))))))) (ye_fz (ye_lst (ya_cons (ye_tup (ya_cons (ye_fz (ye_lst (ya_cons (ye_op o_I ye_var ye_int) ya_nil))) (ya_cons (ye_op (o_Ic cPos_ok) (ye_cb c_int (ya_cons (ye_op o_I ye_var ye_int) ya_nil)) ye_int) (ya_cons ye_int ya_nil)))) ya_nil)))) zg_name))) (ys_seq (ys_if (yt_val (ye_op o_neA (ye_fz (ye_call (ya_cons (ye_tup (ya_cons ye_int (ya_cons ye_var ya_nil))) (ya_cons (ye_op o_cat (ye_fz (ye_lst (ya_cons (ye_fz (ye_lst (ya_cons ye_int ya_nil))) ya_nil))) (ye_op o_rep (ye_fz (ye_lst (ya_cons (ye_fz (ye_lst ya_nil)) ya_nil))) ye_int)) ya_nil)))) ye_var)) (ys_ret ye_bl) ys_next) (ys_seq (ys_asg (ye_tup (ya_cons ye_int (ya_cons (ye_fz (ye_lst (ya_cons (ye_tup (ya_cons (ye_fz (ye_lst (ya_cons ye_int ya_nil))) (ya_cons ye_int (ya_cons (ye_un o_neg ye_int) ya_nil)))) (ya_cons (ye_tup (ya_cons (ye_fz (ye_lst (ya_cons ye_int ya_nil))) (ya_cons ye_int (ya_cons ye_int ya_nil)))) (ya_cons (ye_tup (ya_cons (ye_fz (ye_lst (ya_cons ye_int ya_nil))) (ya_cons ye_int (ya_cons ye_int ya_nil)))) ya_nil))))) ya_nil))) zg_name) (ys_seq (ys_if (yt_val (ye_op o_neA (ye_fz (ye_call (ya_cons ye_var (ya_cons (ye_op o_cat (ye_fz (ye_lst (ya_cons (ye_fz (ye_lst ya_nil)) (ya_cons (ye_fz (ye_lst (ya_cons ye_int ya_nil))) ya_nil)))) (ye_op o_rep (ye_fz (ye_lst (ya_cons (ye_fz (ye_lst ya_nil)) ya_nil))) ye_int)) ya_nil)))) (ye_op o_cat (ye_op o_cat (ye_fz (ye_lst (ya_cons (ye_fz (ye_lst (ya_cons ye_int ya_nil))) ya_nil))) (ye_op o_rep (ye_fz (ye_lst (ya_cons (ye_fz (ye_lst (ya_cons ye_int (ya_cons ye_int (ya_cons ye_int ya_nil))))) ya_nil))) ye_int)) (ye_fz (ye_lst (ya_cons (ye_fz (ye_lst (ya_cons ye_int (ya_cons ye_int ya_nil)))) ya_nil)))))) (ys_ret ye_bl) ys_next) (ys_ret (ye_and (ye_op o_eqA (ye_fz (ye_call (ya_cons (ye_tup (ya_cons ye_int (ya_cons (ye_fz (ye_lst (ya_cons (ye_tup (ya_cons (ye_fz (ye_lst ya_nil)) (ya_cons ye_int (ya_cons ye_int ya_nil)))) ya_nil))) ya_nil))) (ya_cons (ye_fz (ye_lst (ya_cons (ye_fz (ye_lst ya_nil)) (ya_cons (ye_fz (ye_lst ya_nil)) (ya_cons (ye_fz (ye_lst ya_nil)) ya_nil))))) ya_nil)))) (ye_fz (ye_lst (ya_cons (ye_fz (ye_lst ya_nil)) (ya_cons (ye_fz (ye_lst (ya_cons ye_int ya_nil))) (ya_cons (ye_fz (ye_lst (ya_cons ye_int ya_nil))) ya_nil)))))) (ye_and (ye_op o_eqA (ye_fz (ye_call (ya_cons (ye_tup (ya_cons ye_int (ya_cons (ye_fz (ye_lst ya_nil)) ya_nil))) (ya_cons (ye_fz (ye_lst ya_nil)) ya_nil)))) (ye_fz (ye_lst ya_nil))) (ye_op o_eqA (ye_fz (ye_call (ya_cons (ye_tup (ya_cons ye_int (ya_cons (ye_fz (ye_lst (ya_cons (ye_tup (ya_cons (ye_fz (ye_lst (ya_cons ye_int ya_nil))) (ya_cons ye_int (ya_cons ye_int ya_nil)))) ya_nil))) ya_nil))) (ya_cons (ye_fz (ye_lst (ya_cons (ye_fz (ye_lst ya_nil)) ya_nil))) ya_nil)))) (ye_fz (ye_lst (ya_cons (ye_fz (ye_lst ya_nil)) ya_nil)))))))))))))))))))⟩
end
end TD
set_option maxHeartbeats 4000000
namespace TD
open PySem PySem.Spec PyProof.Rows L2
theorem cMul_r {i j : Int} (h : -2 ^ 64 < j ∧ j < 2 ^ 64) : cMul i j = true := by
  unfold cMul
  simp only [Bool.or_eq_true, Bool.and_eq_true, decide_eq_true_eq]
  exact .inr h
theorem cMul_l {i j : Int} (h : -2 ^ 64 < i ∧ i < 2 ^ 64) : cMul i j = true := by
  unfold cMul
  simp only [Bool.or_eq_true, Bool.and_eq_true, decide_eq_true_eq]
  exact .inl h
def hash1 (s i : Int) : Int := (s * 1140671 + 27644437 * i * i + 131 * i + 19) % 2147483629
def hash2 (s i : Int) : Int := (hash1 s i * hash1 s i + 62089 * i + 32416187) % 2147483587
def hash3 (s i : Int) : Int := hash2 s i * 48271 % 2147483647
theorem hash_tells {s i : Int} (hs : 0 ≤ s ∧ s < 2147483647) (hi : 0 ≤ i ∧ i ≤ 1000000000) : F__law_hash [.int s, .int i] = .v (.int (hash3 s i)) .none := by
  have q1 := Int.emod_nonneg (s * 1140671 + 27644437 * i * i + 131 * i + 19) (show (2147483629 : Int) ≠ 0 by decide)
  have q2 := Int.emod_lt_of_pos (s * 1140671 + 27644437 * i * i + 131 * i + 19) (show (0 : Int) < 2147483629 by decide)
  have c1 : cMul s 1140671 = true := cMul_r (by decide)
  have c2 : cMul 27644437 i = true := cMul_l (by decide)
  have c3 : cMul (27644437 * i) i = true := cMul_r ⟨by omega, by omega⟩
  have c4 : cMul 131 i = true := cMul_l (by decide)
  have c5 : cMul (hash1 s i) (hash1 s i) = true := cMul_l (by unfold hash1; exact ⟨by omega, by omega⟩)
  have c6 : cMul 62089 i = true := cMul_l (by decide)
  have c7 : cMul (hash2 s i) 48271 = true := cMul_r (by decide)
  have p1 : ∀ x, cPos x 2147483629 = true := fun _ => rfl
  have p2 : ∀ x, cPos x 2147483587 = true := fun _ => rfl
  have p3 : ∀ x, cPos x 2147483647 = true := fun _ => rfl
  unfold hash1 at c5
  unfold hash2 hash1 at c7
  simp [F__law_hash, fnY, finY, sSeq, sAsg, sRet, sE, eOp, eThen, eo, eCB, aE, aThen, aCons, aNil, eVar, eC, gI, gIc, gInt, gN, c1, c2, c3, c4, c5, c6, c7, p1, p2, p3, stands, endOf, hash1, hash2, hash3]
def gen (a b c : Int) : PyData := .list [.int a, .int b, .int c]
def rndI (a b c m : Int) : Int := if 0 < a then a % m else hash3 b (c + 1) % m
def rndG (a b c m : Int) : PyData := if 0 < a then gen (a / m) b c else gen a b (c + 1)
theorem random_tells {a b c m : Int} (hb : 0 ≤ b ∧ b < 2147483647) (hc : 0 ≤ c ∧ c < 1000000000) (hm : 1 ≤ m ∧ m ≤ 1000) : F__law_random [gen a b c, .int m] = .v (.int (rndI a b c m)) (rndG a b c m) := by
  have p1 : ∀ x, cPos x m = true := fun _ => decide_eq_true (by omega)
  have d1 : ∀ x, cDivW x m = true := fun x => by
    unfold cDivW
    simp only [Bool.and_eq_true, decide_eq_true_eq]
    refine ⟨by omega, ?_⟩
    have : m.natAbs.log2 < 64 := by
      rw [Nat.log2_lt (by omega)]
      omega
    omega
  have d2 : ∀ x, cDivW x 30 = true := fun x => by
    unfold cDivW
    simp only [Bool.and_eq_true, decide_eq_true_eq]
    decide
  by_cases h : 0 < a
  · simp [F__law_random, fnY, finY, sSeq, sAsg, sRet, sIf, sE, sSetO, eOp, eThen, eo, eCB, eIxO, ownL, aE, aThen, aCons, aNil, eVar, eC, gB, gIc, gInt, gN, stands, endOf, tVal', h, p1, d1, gen, rndI, rndG]
  · have hbits : (Builtin.Int.intBits m : Int) / 30 = 0 := by
      have : Builtin.Int.intBits m ≤ 29 := intBits_le_iff.mpr (by
        have : m.natAbs ≤ 1000 := by omega
        exact Nat.lt_of_le_of_lt this (by decide))
      omega
    have c0 : cMul 0 2147483587 = true := cMul_l (by decide)
    have hh := hash_tells hb (i := c + 1) ⟨by omega, by omega⟩
    simp [F__law_random, fnY, finY, sSeq, sAsg, sRet, sIf, sE, sSetO, sNext, sFor, sTurns, iR1, eOp, eThen, eo, eUn, eFz, eCall, ownArg, eCB, eIxO, ownL, aE, aThen, aCons, aNil, eVar, eC, gB, gI, gIc, gInt, gBits, gN, stands, endOf, tVal', h, p1, d1, d2, c0, hbits, hh, gen, rndI, rndG, rgD]
theorem rndI_in {a b c m : Int} (hm : 1 ≤ m) : 0 ≤ rndI a b c m ∧ rndI a b c m < m := by
  unfold rndI
  split
  · exact ⟨Int.emod_nonneg _ (by omega), Int.emod_lt_of_pos _ (by omega)⟩
  · exact ⟨Int.emod_nonneg _ (by omega), Int.emod_lt_of_pos _ (by omega)⟩
def Gn (N : Int) (g : PyData) : Prop := ∃ a b c, g = gen a b c ∧ (0 ≤ b ∧ b < 2147483647) ∧ 0 ≤ c ∧ c ≤ N
theorem Gn.up {N M : Int} {g : PyData} (h : Gn N g) (k : N ≤ M) : Gn M g := let ⟨a, b, c, e, h1, h2, h3⟩ := h; ⟨a, b, c, e, h1, h2, by omega⟩
theorem random_gn {N m : Int} {g : PyData} (h : Gn N g) (hN : N < 1000000000) (hm : 1 ≤ m ∧ m ≤ 1000) : ∃ i g', F__law_random [g, .int m] = .v (.int i) g' ∧ 0 ≤ i ∧ i < m ∧ Gn (N + 1) g' := by
  obtain ⟨a, b, c, rfl, hb, hc, hcN⟩ := h
  refine ⟨_, _, random_tells hb ⟨hc, by omega⟩ hm, (rndI_in hm.1).1, (rndI_in hm.1).2, ?_⟩
  unfold rndG
  split
  · exact ⟨_, b, c, rfl, hb, hc, by omega⟩
  · exact ⟨a, b, c + 1, rfl, hb, by omega, by omega⟩
def ftSome : En → TR := tVal' (eOp gEq (eFz (eCall F__law_random [.o 0, .d] (aOwnS 0 (aCons (eVar 2) aNil)))) (eC (.int 0)))
theorem some_test {N p : Int} {g : PyData} {r k : PyData} (h : Gn N g) (hN : N < 1000000000) (hp : 1 ≤ p ∧ p ≤ 1000) : ∃ b g', ftSome [some g, some r, some (.int p), some k] = .b b [some g', some r, some (.int p), some k] ∧ Gn (N + 1) g' := by
  obtain ⟨i, g', e, h1, h2, h3⟩ := random_gn h hN hp
  refine ⟨decide (i = 0), g', ?_, h3⟩
  simp [ftSome, tVal', eOp, eThen, eo, eFz, eCall, ownArg, aE, aOwnS, aOwn, aThen, aCons, aNil, eVar, eC, e, gEq]
theorem some_items {p : Int} {r : PyData} (hp : 1 ≤ p ∧ p ≤ 1000) : ∀ (ks : List Int) (N : Int) (g : PyData), Gn N g → N + ks.length < 1000000000 → ∃ (xs : List Int) (g' : PyData), lcItems [3] (gN 3) ftSome (eVar 3) (ks.map PyData.int) [some g, some r, some (.int p), none] = some (xs.map PyData.int, [some g', some r, some (.int p), none]) ∧ xs.Sublist ks ∧ Gn (N + ks.length) g'
  | [], N, g, h, _ => ⟨[], g, rfl, List.Sublist.slnil, h.up (by simp)⟩
  | k :: ks, N, g, h, hN => by
    simp only [List.length_cons] at hN ⊢
    obtain ⟨b, g1, e1, h1⟩ := some_test (r := r) (k := .int k) h (by omega) hp
    obtain ⟨xs, g2, e2, h2, h3⟩ := some_items (r := r) hp ks (N + 1) g1 h1 (by omega)
    cases b with
    | true =>
      refine ⟨k :: xs, g2, ?_, h2.cons₂ k, h3.up (by omega)⟩
      simp [lcItems, gN, lcOne, e1, eVar, wipeD, e2]
    | false =>
      refine ⟨xs, g2, ?_, h2.cons k, h3.up (by omega)⟩
      simp [lcItems, gN, lcOne, e1, eVar, wipeD, e2]
def below (n : Nat) : List Int := (List.range n).map fun (i : Nat) => (i : Int)
theorem rgD_below (n : Nat) : rgD 0 n = (below n).map PyData.int := by
  unfold rgD below
  rw [List.map_map]
  refine List.map_congr_left fun i _ => ?_
  show PyData.int (0 + (i : Int)) = PyData.int (i : Int)
  rw [Int.zero_add]
theorem below_len (n : Nat) : (below n).length = n := by
  unfold below
  rw [List.length_map, List.length_range]
theorem some_tells {N p : Int} {n : Nat} {g : PyData} (h : Gn N g) (hN : N + n < 1000000000) (hp : 1 ≤ p ∧ p ≤ 1000) (hn : n ≤ 40000) : ∃ (xs : List Int) (g' : PyData), F__law_some [g, .int (n : Nat), .int p] = .o (.list (xs.map PyData.int)) g' ∧ xs.Sublist (below n) ∧ Gn (N + n) g' := by
  obtain ⟨xs, g', e, h1, h2⟩ := some_items (r := .int (n : Nat)) hp (below n) N g h (by rw [below_len]; exact hN)
  rw [below_len] at h2
  refine ⟨xs, g', ?_, h1, h2⟩
  have e' := e
  unfold ftSome at e'
  have hz : decide (((n : Nat) : Int) ≤ 40000) = true := decide_eq_true (by omega)
  have hl : (below n).length ≤ 40000 := by rw [below_len]; exact hn
  simp [F__law_some, fnY, finY, sRet, eLc, iR1, aThen, aCons, aNil, eVar, hz, rgD_below, hl, wipeD, e', stands, endOf]
structure Dr where
  needs : List Int
  room : Int
  shift : Int
def Dr.enc (d : Dr) : PyData := .tuple [.list (d.needs.map PyData.int), .int d.room, .int d.shift]
def Dr.Fit (n : Nat) (d : Dr) : Prop := d.needs.Sublist (below n) ∧ (0 ≤ d.room ∧ d.room < n) ∧ -1 ≤ d.shift ∧ d.shift ≤ 1
def encL (n : Nat) (ds : List Dr) : PyData := .tuple [.int (n : Nat), .list (ds.map Dr.enc)]
def doorTurn : En → SR := sApp 4 (eTup (aCons (eFz (eCall F__law_some [.o 0, .d, .d] (aOwnS 0 (aCons (eVar 3) (aCons (eC (.int 3)) aNil))))) (aCons (eFz (eCall F__law_random [.o 0, .d] (aOwnS 0 (aCons (eVar 3) aNil)))) (aCons (eOp (gI fun i j => i - j) (eFz (eCall F__law_random [.o 0, .d] (aOwnS 0 (aCons (eC (.int 3)) aNil)))) (eC (.int 1))) aNil))))
theorem door_turn {N : Int} {n : Nat} {g x y z : PyData} {ds : List Dr} (h : Gn N g) (hn : 1 ≤ n ∧ n ≤ 1000) (hN : N + n + 2 < 1000000000) (hd : ds.length ≤ 90000) : ∃ (d : Dr) (g' : PyData), doorTurn [some g, some x, some y, some (.int (n : Nat)), some (.list (ds.map Dr.enc)), some z] = .nx [some g', some x, some y, some (.int (n : Nat)), some (.list ((ds ++ [d]).map Dr.enc)), some z] ∧ d.Fit n ∧ Gn (N + n + 2) g' := by
  obtain ⟨xs, g1, e1, f1, k1⟩ := some_tells h (n := n) (p := 3) (by omega) (by decide) (by omega)
  obtain ⟨r, g2, e2, f2, f3, k2⟩ := random_gn k1 (m := (n : Int)) (by omega) ⟨by omega, by omega⟩
  obtain ⟨q, g3, e3, f4, f5, k3⟩ := random_gn k2 (m := 3) (by omega) (by decide)
  refine ⟨⟨xs, r, q - 1⟩, g3, ?_, ⟨f1, ⟨f2, f3⟩, by show -1 ≤ q - 1; omega, by show q - 1 ≤ 1; omega⟩, k3.up (by omega)⟩
  have hl : decide ((ds.map Dr.enc).length ≤ 90000) = true := decide_eq_true (by rw [List.length_map]; exact hd)
  rw [List.length_map] at hl
  simp [doorTurn, sApp, ownL, sE, eTup, eOp, eThen, eo, eFz, eCall, ownArg, aE, aOwnS, aOwn, aThen, aCons, aNil, eVar, eC, gI, e1, e2, e3, hd, Dr.enc]
theorem door_turns {n : Nat} {x y : PyData} (hn : 1 ≤ n ∧ n ≤ 1000) : ∀ (ks : List PyData) (N : Int) (g : PyData) (ds : List Dr) (z : Option PyData), Gn N g → N + ks.length * (n + 2) < 1000000000 → ds.length + ks.length ≤ 90000 → ∃ (es : List Dr) (g' : PyData) (z' : Option PyData), sTurns (gN 5) doorTurn ks [some g, some x, some y, some (.int (n : Nat)), some (.list (ds.map Dr.enc)), z] = .nx [some g', some x, some y, some (.int (n : Nat)), some (.list ((ds ++ es).map Dr.enc)), z'] ∧ es.length = ks.length ∧ (∀ d ∈ es, d.Fit n) ∧ Gn (N + ks.length * (n + 2)) g'
  | [], N, g, ds, z, h, _, _ => ⟨[], g, z, by rw [List.append_nil]; rfl, rfl, (fun _ w => nomatch w), h.up (by simp)⟩
  | k :: ks, N, g, ds, z, h, hN, hl => by
    simp only [List.length_cons] at hN hl ⊢
    have e0 : (((ks.length + 1 : Nat) : Int)) * ((n : Int) + 2) = ks.length * (n + 2) + (n + 2) := by
      rw [Int.natCast_add, Int.add_mul]
      simp
    rw [e0] at hN ⊢
    have pos : (0 : Int) ≤ ks.length * (n + 2) := Int.mul_nonneg (by omega) (by omega)
    obtain ⟨d, g1, e1, f1, h1⟩ := door_turn (x := x) (y := y) (z := k) h hn (by omega) (ds := ds) (by omega)
    obtain ⟨es, g2, z2, e2, f2, f3, h2⟩ := door_turns (x := x) (y := y) hn ks (N + n + 2) g1 (ds ++ [d]) (some k) h1 (by omega) (by rw [List.length_append, List.length_singleton]; omega)
    refine ⟨d :: es, g2, z2, ?_, by rw [List.length_cons, f2], fun q hq => ?_, h2.up (by omega)⟩
    · rw [List.append_assoc] at e2
      simp only [sTurns, gN, List.set_cons_succ, List.set_cons_zero]
      rw [e1]
      exact e2
    · rcases List.mem_cons.mp hq with w | w
      · rw [w]
        exact f1
      · exact f3 q w
theorem level_tells {N most doors : Int} {g : PyData} (h : Gn N g) (hm : 1 ≤ most ∧ most ≤ 100) (hd : 0 ≤ doors ∧ doors ≤ 100) (hN : N < 900000000) : ∃ (n : Nat) (ds : List Dr) (g' : PyData), F__law_level [g, .int most, .int doors] = .v (encL n ds) g' ∧ (1 ≤ n ∧ (n : Int) ≤ most) ∧ (ds.length : Int) ≤ doors ∧ (∀ d ∈ ds, d.Fit n) ∧ Gn (N + 100000) g' := by
  obtain ⟨r, g1, e1, f1, f2, h1⟩ := random_gn h (m := most) (by omega) ⟨by omega, by omega⟩
  obtain ⟨q, g2, e2, f3, f4, h2⟩ := random_gn h1 (m := doors + 1) (by omega) ⟨by omega, by omega⟩
  obtain ⟨n, hn⟩ : ∃ n : Nat, 1 + r = (n : Int) := ⟨(1 + r).toNat, by omega⟩
  obtain ⟨k, hk⟩ : ∃ k : Nat, q = (k : Int) := ⟨q.toNat, by omega⟩
  have hlen : (rgD 0 k).length = k := by rw [rgD_below, List.length_map, below_len]
  have hkn : (k : Int) * (n + 2) ≤ 100 * 102 := Int.mul_le_mul (by omega) (by omega) (by omega) (by decide)
  obtain ⟨es, g3, z3, e3, f5, f6, h3⟩ := door_turns (n := n) (x := .int most) (y := .int doors) ⟨by omega, by omega⟩ (rgD 0 k) (N + 1 + 1) g2 [] none h2 (by rw [hlen]; omega) (by rw [hlen]; simp; omega)
  rw [hlen] at h3 f5
  refine ⟨n, es, g3, ?_, ⟨by omega, by omega⟩, by omega, f6, h3.up (by omega)⟩
  have e3' := e3
  unfold doorTurn at e3'
  have hz : decide ((k : Int) ≤ 40000) = true := decide_eq_true (by omega)
  have hz2 : (-40000 : Int) ≤ (k : Int) := by omega
  simp only [List.map_nil, List.nil_append] at e3'
  simp [F__law_level, fnY, finY, sSeq, sAsg, sAsgO, sRet, sFor, sE, iR1, eLst, eTup, eMove, eOp, eThen, eo, eFz, eCall, ownArg, aE, aOwnS, aOwn, aThen, aCons, aNil, eVar, eC, gI, gN, e1, hn, e2, hk, hz, hz2, e3', stands, endOf, encL]
def encP (xss : List (List Int)) : List PyData := xss.map fun xs => .list (xs.map PyData.int)
def pressE : En → ER := eFz (eCall F__law_some [.o 0, .d, .d] (aOwnS 0 (aCons (eOp gIxT (eVar 1) (eC (.int 0))) (aCons (eC (.int 4)) aNil))))
theorem press_items {n : Nat} {ds : List Dr} {y : PyData} (hn : n ≤ 1000) : ∀ (ks : List PyData) (N : Int) (g : PyData), Gn N g → N + ks.length * n < 1000000000 → ∃ (xss : List (List Int)) (g' : PyData), lcItems [3] (gN 3) tYesZ pressE ks [some g, some (encL n ds), some y, none] = some (encP xss, [some g', some (encL n ds), some y, none]) ∧ xss.length = ks.length ∧ (∀ xs ∈ xss, xs.Sublist (below n)) ∧ Gn (N + ks.length * n) g'
  | [], N, g, h, _ => ⟨[], g, rfl, rfl, (fun _ w => nomatch w), h.up (by simp)⟩
  | k :: ks, N, g, h, hN => by
    simp only [List.length_cons] at hN ⊢
    have e0 : (((ks.length + 1 : Nat) : Int)) * (n : Int) = ks.length * n + n := by
      rw [Int.natCast_add, Int.add_mul]
      simp
    rw [e0] at hN ⊢
    have pos : (0 : Int) ≤ ks.length * n := Int.mul_nonneg (by omega) (by omega)
    obtain ⟨xs, g1, e1, f1, h1⟩ := some_tells h (n := n) (p := 4) (by omega) (by decide) (by omega)
    obtain ⟨xss, g2, e2, f2, f3, h2⟩ := press_items (ds := ds) (y := y) hn ks (N + n) g1 h1 (by omega)
    have e1' : pressE [some g, some (encL n ds), some y, some k] = .v (.list (xs.map PyData.int)) [some g1, some (encL n ds), some y, some k] := by
      simp [pressE, eFz, eCall, ownArg, eOp, eThen, eo, gIxT, encL, aE, aOwnS, aOwn, aThen, aCons, aNil, eVar, eC, e1]
    refine ⟨xs :: xss, g2, ?_, by rw [List.length_cons, f2], fun q hq => ?_, h2.up (by omega)⟩
    · simp [lcItems, gN, lcOne, tYesZ, e1', wipeD, e2, encP]
    · rcases List.mem_cons.mp hq with w | w
      · rw [w]
        exact f1
      · exact f3 q w
theorem presses_tells {N most : Int} {n : Nat} {ds : List Dr} {g : PyData} (h : Gn N g) (hn : n ≤ 1000) (hm : 0 ≤ most ∧ most ≤ 100) (hN : N < 900000000) : ∃ (xss : List (List Int)) (g' : PyData), F__law_presses [g, encL n ds, .int most] = .o (.list (encP xss)) g' ∧ (xss.length : Int) ≤ most ∧ (∀ xs ∈ xss, xs.Sublist (below n)) ∧ Gn (N + 1000000) g' := by
  obtain ⟨q, g1, e1, f1, f2, h1⟩ := random_gn h (m := most + 1) (by omega) ⟨by omega, by omega⟩
  obtain ⟨k, hk⟩ : ∃ k : Nat, q = (k : Int) := ⟨q.toNat, by omega⟩
  have hlen : (rgD 0 k).length = k := by rw [rgD_below, List.length_map, below_len]
  have hkn : (k : Int) * n ≤ 100 * 1000 := Int.mul_le_mul (by omega) (by omega) (by omega) (by decide)
  obtain ⟨xss, g2, e2, f3, f4, h2⟩ := press_items (ds := ds) (y := .int most) hn (rgD 0 k) (N + 1) g1 h1 (by rw [hlen]; omega)
  rw [hlen] at f3 h2
  refine ⟨xss, g2, ?_, by omega, f4, h2.up (by omega)⟩
  have e2' := e2
  unfold pressE at e2'
  have hz : decide ((k : Int) ≤ 40000) = true := decide_eq_true (by omega)
  have hz2 : (-40000 : Int) ≤ (k : Int) := by omega
  have hz3 : k ≤ 40000 := by omega
  simp [F__law_presses, fnY, finY, sRet, eLc, iR1, eOp, eThen, eo, eFz, eCall, ownArg, aE, aOwnS, aOwn, aThen, aCons, aNil, eVar, eC, gI, e1, hk, hz, hz2, hlen, hz3, wipeD, e2', stands, endOf]
theorem markL_mark {ρ : En} {i : Nat} {s : List Int} (h : ρ[i]? = some (some (markD s))) : markL i ρ = some s := by
  unfold markL
  rw [h]
  exact intsOf_map s
theorem gen_gn (s : List Int) {k : Nat} : Gn (1000 * k) (genV s k) := ⟨_, _, _, rfl, ⟨Int.emod_nonneg _ (by decide), Int.emod_lt_of_pos _ (by decide)⟩, (show (0 : Int) ≤ 1000 * (k : Int) by omega), Int.le_refl _⟩
theorem genS_tells {s : List Int} {k i : Nat} {fk : En → ER} {ρ ρ1 : En} (hk : k ≤ 1000) (h : ρ[i]? = some (some (markD s))) (h2 : fk ρ = .v (.int (k : Nat)) ρ1) : eGenS i fk ρ = .o (genV s k) ρ1 := by
  unfold eGenS
  rw [markL_mark h]
  dsimp only
  rw [h2]
  dsimp only
  rw [decide_eq_true (show (0 : Int) ≤ (k : Int) by omega), decide_eq_true (show (k : Int) ≤ 1000 by omega)]
  rfl
end TD
set_option maxHeartbeats 4000000
namespace TD
open PySem PySem.Spec PyProof.Rows L2
theorem bitNot_neg (a : Nat) : (0 ≤ Builtin.bitNot (a : Int)) = False := by
  unfold Builtin.bitNot
  simp
  omega
theorem bitNot_two (a : Int) : Builtin.bitNot (Builtin.bitNot a) = a := by
  unfold Builtin.bitNot
  omega
theorem bitAnd_nat (a b : Nat) : Builtin.bitAnd (a : Int) (b : Int) = ((a &&& b : Nat) : Int) := by
  unfold Builtin.bitAnd
  simp
theorem bitOr_nat (a b : Nat) : Builtin.bitOr (a : Int) (b : Int) = ((a ||| b : Nat) : Int) := by
  unfold Builtin.bitOr Builtin.bitAnd
  rw [decide_eq_false (by rw [bitNot_neg]; exact id), decide_eq_false (by rw [bitNot_neg]; exact id)]
  simp only [bitNot_two, Int.toNat_natCast]
theorem andNot_nat (a b : Nat) : Builtin.bitAnd (a : Int) (Builtin.bitNot (b : Int)) = ((a - (a &&& b) : Nat) : Int) := by
  unfold Builtin.bitAnd
  rw [decide_eq_true (Int.natCast_nonneg a), decide_eq_false (by rw [bitNot_neg]; exact id)]
  simp only [bitNot_two, Int.toNat_natCast]
  have : a &&& b ≤ a := Nat.and_le_left
  omega
def natD (xs : List Nat) : List PyData := xs.map fun n => PyData.int (n : Nat)
def maskN (xs : List Nat) : Nat := xs.foldl (fun m n => m ||| 2 ^ n) 0
theorem mask_turns : ∀ (xs : List Nat) (m : Nat) (l : PyData) (z : Option PyData), (∀ n ∈ xs, n ≤ 1000) → ∃ z', sTurns (gN 2) (sAug 1 (gI Builtin.bitOr) (eOp (gIc cPow fun i j => i * 2 ^ j.toNat) (eC (.int 1)) (eVar 2))) (natD xs) [some l, some (.int (m : Nat)), z] = .nx [some l, some (.int ((xs.foldl (fun m n => m ||| 2 ^ n) m : Nat) : Int)), z']
  | [], m, l, z, _ => ⟨z, rfl⟩
  | n :: xs, m, l, z, h => by
    obtain ⟨z', e⟩ := mask_turns xs (m ||| 2 ^ n) l (some (.int (n : Nat))) fun k hk => h k (List.mem_cons_of_mem _ hk)
    refine ⟨z', ?_⟩
    have hn := h n List.mem_cons_self
    have c : cPow 1 (n : Int) = true := by
      unfold cPow
      simp only [Bool.and_eq_true, decide_eq_true_eq]
      exact ⟨by omega, by omega, by decide⟩
    have pw : (1 : Int) * 2 ^ ((n : Int)).toNat = ((2 ^ n : Nat) : Int) := by
      rw [Int.one_mul, Int.toNat_natCast]
      norm_cast
    have step : sAug 1 (gI Builtin.bitOr) (eOp (gIc cPow fun i j => i * 2 ^ j.toNat) (eC (.int 1)) (eVar 2)) [some l, some (.int (m : Nat)), some (.int (n : Nat))] = .nx [some l, some (.int ((m ||| 2 ^ n : Nat) : Int)), some (.int (n : Nat))] := by
      have g1 : gIc cPow (fun i j => i * 2 ^ j.toNat) (.int 1) (.int (n : Nat)) = some (.int ((2 ^ n : Nat) : Int)) := by
        show (match cPow 1 (n : Int) with | true => some (PyData.int (1 * 2 ^ ((n : Int)).toNat)) | false => none) = _
        rw [c]
        dsimp only
        rw [pw]
      have g2 : gI Builtin.bitOr (.int (m : Nat)) (.int ((2 ^ n : Nat) : Int)) = some (.int ((m ||| 2 ^ n : Nat) : Int)) := by
        show some (PyData.int (Builtin.bitOr (m : Int) ((2 ^ n : Nat) : Int))) = _
        rw [bitOr_nat]
      simp only [sAug, eOp, eThen, eo, eC, eVar, sE, List.getElem?_cons_zero, List.getElem?_cons_succ, g1, g2]
      rfl
    show sTurns _ _ (.int (n : Nat) :: natD xs) _ = _
    simp only [sTurns, gN]
    rw [show ([some l, some (.int (m : Nat)), z] : En).set 2 (some (.int (n : Nat))) = [some l, some (.int (m : Nat)), some (.int (n : Nat))] from rfl, step]
    exact e
theorem mask_tells {xs : List Nat} (h : ∀ n ∈ xs, n ≤ 1000) : F_mask_of [.list (natD xs)] = .v (.int (maskN xs : Nat)) .none := by
  obtain ⟨z', e⟩ := mask_turns xs 0 (.list (natD xs)) none h
  have e' : sTurns (gN 2) (sAug 1 (gI Builtin.bitOr) (eOp (gIc cPow fun i j => i * 2 ^ j.toNat) (eC (.int 1)) (eVar 2))) (natD xs) [some (.list (natD xs)), some (.int 0), none] = .nx [some (.list (natD xs)), some (.int ((maskN xs : Nat) : Int)), z'] := e
  simp [F_mask_of, fnY, finY, sSeq, sAsg, sRet, sE, sFor, iL, eC, eVar, gN, e', stands, endOf]
def bitsF : Nat → Nat → Nat → List Nat
  | 0, _, _ => []
  | k + 1, m, r => if m = 0 then [] else (if m % 2 = 1 then [r] else []) ++ bitsF k (m / 2) (r + 1)
def bitsN (m : Nat) : List Nat := bitsF 999 m 0
def lightT : En → TR := tVal' (eOp (gB fun i j => decide (j < i)) (eVar 0) (eC (.int 0)))
def lightB : En → SR := sSeq (sIf (tTru' (eOp (gI Builtin.bitAnd) (eVar 0) (eC (.int 1)))) (sApp 1 (eVar 2)) sNext) (sSeq (sAug 0 (gIc cNn fun i j => i / 2 ^ j.toNat) (eC (.int 1))) (sAug 2 (gI fun i j => i + j) (eC (.int 1))))
theorem natD_app (xs : List Nat) (n : Nat) : natD xs ++ [.int (n : Nat)] = natD (xs ++ [n]) := by
  unfold natD
  rw [List.map_append]
  rfl
theorem light_turn {m r : Nat} {acc : List Nat} (ha : acc.length ≤ 80000) : lightB [some (.int (m : Nat)), some (.list (natD acc)), some (.int (r : Nat))] = .nx [some (.int ((m / 2 : Nat) : Int)), some (.list (natD (acc ++ if m % 2 = 1 then [r] else []))), some (.int ((r + 1 : Nat) : Int))] := by
  have g1 : gI Builtin.bitAnd (.int (m : Nat)) (.int 1) = some (.int ((m % 2 : Nat) : Int)) := by
    show some (PyData.int (Builtin.bitAnd (m : Int) ((1 : Nat) : Int))) = _
    rw [bitAnd_nat, Nat.and_one_is_mod]
  have g2 : gIc cNn (fun i j => i / 2 ^ j.toNat) (.int (m : Nat)) (.int 1) = some (.int ((m / 2 : Nat) : Int)) := by
    show some (PyData.int ((m : Int) / 2 ^ (1 : Int).toNat)) = _
    rfl
  have g3 : gI (fun i j => i + j) (.int (r : Nat)) (.int 1) = some (.int ((r + 1 : Nat) : Int)) := rfl
  have hl : decide ((natD acc).length ≤ 90000) = true := decide_eq_true (by unfold natD; rw [List.length_map]; omega)
  by_cases h : m % 2 = 1
  · rw [if_pos h]
    have tr : truD (.int ((m % 2 : Nat) : Int)) = some true := by
      rw [h]
      rfl
    simp only [lightB, sSeq, sIf, tTru', eOp, eThen, eo, eVar, eC, List.getElem?_cons_zero, List.getElem?_cons_succ, g1, tr, sApp, ownL, sE, hl, natD_app, List.set_cons_succ, List.set_cons_zero, sAug, g2, g3]
  · rw [if_neg h, List.append_nil]
    have tr : truD (.int ((m % 2 : Nat) : Int)) = some false := by
      rw [show m % 2 = 0 by omega]
      rfl
    simp only [lightB, sSeq, sIf, tTru', eOp, eThen, eo, eVar, eC, List.getElem?_cons_zero, List.getElem?_cons_succ, g1, tr, sNext, sE, List.set_cons_succ, List.set_cons_zero, sAug, g2, g3]
theorem light_loop : ∀ (k m r : Nat) (acc : List Nat), m < 2 ^ k → acc.length + k ≤ 80000 → ∃ r' : PyData, sWhile lightT lightB (k + 1) [some (.int (m : Nat)), some (.list (natD acc)), some (.int (r : Nat))] = .nx [some (.int 0), some (.list (natD (acc ++ bitsF k m r))), some r']
  | 0, m, r, acc, h, _ => by
    have : m = 0 := by simpa using h
    subst this
    refine ⟨.int (r : Nat), ?_⟩
    rw [show bitsF 0 0 r = [] from rfl, List.append_nil]
    simp [sWhile, lightT, tVal', eOp, eThen, eo, eVar, eC, gB]
  | k + 1, m, r, acc, h, ha => by
    by_cases hm : m = 0
    · subst hm
      refine ⟨.int (r : Nat), ?_⟩
      rw [show bitsF (k + 1) 0 r = [] from rfl, List.append_nil]
      simp [sWhile, lightT, tVal', eOp, eThen, eo, eVar, eC, gB]
    · have ht : lightT [some (.int (m : Nat)), some (.list (natD acc)), some (.int (r : Nat))] = .b true [some (.int (m : Nat)), some (.list (natD acc)), some (.int (r : Nat))] := by
        have : decide ((0 : Int) < (m : Int)) = true := decide_eq_true (by omega)
        simp only [lightT, tVal', eOp, eThen, eo, eVar, eC, gB, List.getElem?_cons_zero, this]
      have hh : m / 2 < 2 ^ k := by
        rw [Nat.pow_succ] at h
        omega
      obtain ⟨r', e⟩ := light_loop k (m / 2) (r + 1) (acc ++ if m % 2 = 1 then [r] else []) hh (by
        rw [List.length_append]
        split <;> simp <;> omega)
      refine ⟨r', ?_⟩
      rw [show bitsF (k + 1) m r = (if m % 2 = 1 then [r] else []) ++ bitsF k (m / 2) (r + 1) from if_neg hm, ← List.append_assoc, ← e]
      show (match lightT _ with
        | .b false ρ1 => SR.nx ρ1
        | .b true ρ1 => match lightB ρ1 with
          | .nx ρ2 => sWhile lightT lightB (k + 1) ρ2
          | .ct ρ2 => sWhile lightT lightB (k + 1) ρ2
          | .br ρ2 => .nx ρ2
          | r => r
        | .x c i => .x c i
        | .st => .st) = _
      rw [ht]
      dsimp only
      rw [light_turn (by omega)]
theorem lights_tells {m : Nat} (h : m < 2 ^ 999) : F_lights_of [.int (m : Nat)] = .o (.list (natD (bitsN m))) .none := by
  obtain ⟨r', e⟩ := light_loop 999 m 0 [] h (by simp)
  have e' : sWhile lightT lightB 1000 [some (.int (m : Nat)), some (.list []), some (.int 0)] = .nx [some (.int 0), some (.list (natD (bitsN m))), some r'] := e
  unfold lightT lightB at e'
  simp [F_lights_of, fnY, finY, sSeq, sAsg, sAsgO, sRet, sE, eLst, eMove, aE, aNil, eC, gN, e', stands, endOf]
theorem bitsF_mem : ∀ (k m r n : Nat), m < 2 ^ k → (n ∈ bitsF k m r ↔ r ≤ n ∧ m.testBit (n - r) = true)
  | 0, m, r, n, h => by
    have : m = 0 := by simpa using h
    subst this
    simp [bitsF]
  | k + 1, m, r, n, h => by
    by_cases hm : m = 0
    · subst hm
      simp [bitsF]
    · have hh : m / 2 < 2 ^ k := by
        rw [Nat.pow_succ] at h
        omega
      have ih := bitsF_mem k (m / 2) (r + 1) n hh
      rw [show bitsF (k + 1) m r = (if m % 2 = 1 then [r] else []) ++ bitsF k (m / 2) (r + 1) from if_neg hm, List.mem_append, ih]
      by_cases e : n = r
      · subst e
        rw [Nat.sub_self, Nat.testBit_zero]
        by_cases h1 : m % 2 = 1
        · simp [h1]
        · simp [h1]
          omega
      · have h2 : ¬ n ∈ (if m % 2 = 1 then [r] else []) := by
          split <;> simp [e]
        simp only [h2, false_or]
        constructor
        · rintro ⟨a, b⟩
          refine ⟨by omega, ?_⟩
          rw [show n - r = (n - (r + 1)) + 1 by omega, Nat.testBit_succ]
          exact b
        · rintro ⟨a, b⟩
          refine ⟨by omega, ?_⟩
          rw [show n - r = (n - (r + 1)) + 1 by omega, Nat.testBit_succ] at b
          exact b
theorem bitsN_mem {m n : Nat} (h : m < 2 ^ 999) : n ∈ bitsN m ↔ m.testBit n = true := by
  unfold bitsN
  rw [bitsF_mem 999 m 0 n h]
  simp
theorem bitsF_rise : ∀ (k m r : Nat), (bitsF k m r).Pairwise (· < ·) ∧ ∀ n ∈ bitsF k m r, r ≤ n
  | 0, _, _ => ⟨.nil, fun _ w => nomatch w⟩
  | k + 1, m, r => by
    by_cases hm : m = 0
    · subst hm
      exact ⟨.nil, fun _ w => nomatch w⟩
    · obtain ⟨a, b⟩ := bitsF_rise k (m / 2) (r + 1)
      rw [show bitsF (k + 1) m r = (if m % 2 = 1 then [r] else []) ++ bitsF k (m / 2) (r + 1) from if_neg hm]
      split
      · refine ⟨List.pairwise_cons.mpr ⟨fun n hn => b n hn, a⟩, fun n hn => ?_⟩
        rcases List.mem_cons.mp hn with w | w
        · omega
        · have := b n w
          omega
      · exact ⟨a, fun n hn => by have := b n hn; omega⟩
theorem maskN_bit : ∀ (xs : List Nat) (m n : Nat), (xs.foldl (fun m n => m ||| 2 ^ n) m).testBit n = (m.testBit n || decide (n ∈ xs))
  | [], m, n => by simp
  | x :: xs, m, n => by
    show (xs.foldl _ (m ||| 2 ^ x)).testBit n = _
    rw [maskN_bit xs, Nat.testBit_or, Nat.testBit_two_pow]
    by_cases h : x = n
    · subst h
      simp
    · have : ¬ n = x := fun w => h w.symm
      simp [h, this]
end TD
set_option maxHeartbeats 4000000
namespace TD
open PySem PySem.Spec PyProof.Rows L2
def encG (g : List (Nat × Nat)) : List (PyData × PyData) := g.map fun q => (.int (q.1 : Nat), .int (q.2 : Nat))
def getN (g : List (Nat × Nat)) (k : Nat) : Option Nat := (g.find? fun q => decide (q.1 = k)).map (·.2)
def putN (g : List (Nat × Nat)) (k v : Nat) : List (Nat × Nat) := if (g.any fun q => decide (q.1 = k)) = true then g.map fun q => if q.1 = k then (q.1, v) else q else g ++ [(k, v)]
theorem key_eq (a k : Nat) : (isKeyD (.int (a : Nat)) = some (Sum.inl ((k : Nat) : Int))) ↔ a = k := by
  constructor
  · intro h
    have h1 := Option.some.inj h
    have h2 := Sum.inl.inj h1
    omega
  · intro h
    rw [h]
    rfl
theorem get_enc {k : Nat} : ∀ g : List (Nat × Nat), getBy isKeyD (encG g) (Sum.inl ((k : Nat) : Int)) = (getN g k).map fun v => .int (v : Nat)
  | [] => rfl
  | q :: g => by
    have ih := get_enc (k := k) g
    unfold getBy encG getN at *
    rw [List.map_cons, List.find?_cons, List.find?_cons]
    by_cases h : q.1 = k
    · rw [decide_eq_true ((key_eq q.1 k).mpr h), decide_eq_true h]
      rfl
    · rw [decide_eq_false (fun w => h ((key_eq q.1 k).mp w)), decide_eq_false h]
      exact ih
theorem look_enc {k : Nat} (g : List (Nat × Nat)) : lookD (encG g) (.int (k : Nat)) = some ((getN g k).map fun v => .int (v : Nat)) := by
  show some (getBy isKeyD (encG g) (Sum.inl ((k : Nat) : Int))) = _
  rw [get_enc]
theorem put_enc {k v : Nat} (g : List (Nat × Nat)) : putBy isKeyD keyD (encG g) (Sum.inl ((k : Nat) : Int)) (.int (v : Nat)) = encG (putN g k v) := by
  have h1 : ((encG g).any fun q => decide (isKeyD q.1 = some (Sum.inl ((k : Nat) : Int)))) = g.any fun q => decide (q.1 = k) := by
    induction g with
    | nil => rfl
    | cons q g ih =>
      show (decide (isKeyD (.int (q.1 : Nat)) = _) || (encG g).any _) = (decide (q.1 = k) || _)
      rw [ih]
      congr 1
      exact decide_eq_decide.mpr (key_eq q.1 k)
  unfold putBy putN
  rw [h1]
  split
  · unfold encG
    rw [List.map_map, List.map_map]
    refine List.map_congr_left fun q _ => ?_
    show (if isKeyD (.int (q.1 : Nat)) = _ then _ else _) = _
    by_cases h : q.1 = k
    · rw [if_pos ((key_eq q.1 k).mpr h)]
      simp [h]
    · rw [if_neg (fun w => h ((key_eq q.1 k).mp w))]
      simp [h]
  · unfold encG
    rw [List.map_append]
    rfl
end TD
set_option maxHeartbeats 4000000
namespace TD
open PySem PySem.Spec PyProof.Rows L2
structure Dm where
  needs : Nat
  gives : Nat
  shift : Int
def Dm.enc (d : Dm) : PyData := .tuple [.int (d.needs : Nat), .int (d.gives : Nat), .int d.shift]
def stepG (lit : List Nat) (t : Nat) (g : List (Nat × Nat)) (d : Dm) : List (Nat × Nat) :=
  if lit.getD t 0 &&& d.needs = d.needs ∧ 0 ≤ (t : Int) + d.shift ∧ (t : Int) + d.shift < lit.length then putN g ((t : Int) + d.shift).toNat ((getN g ((t : Int) + d.shift).toNat).getD 0 ||| d.gives) else g
def givB : En → SR := sSeq (sAsg (eOp (gI fun i j => i + j) (eVar 4) (eVar 8)) (gN 9)) (sIf (tAndZ (tVal' (eOp gEq (eOp (gI Builtin.bitAnd) (eIxO 1 (eVar 4)) (eVar 6)) (eVar 6))) (tVal' (eChain (gB fun i j => decide (i ≤ j)) (gB fun i j => decide (i < j)) (eC (.int 0)) (eVar 9) (eLenO 1)))) (sDSetO 3 (eVar 9) (eOp (gI Builtin.bitOr) (eDGetO 3 (eVar 9) (eC (.int 0))) (eVar 7))) sNext)
theorem giv_turn {da wv u z : Option PyData} {lit : List Nat} {t : Nat} {g : List (Nat × Nat)} {d : Dm} (ht : t < lit.length) (hl : lit.length ≤ 40000) (hg : g.length ≤ 80000) : ∃ z', givB [da, some (.list (natD lit)), wv, some (.dict (encG g)), some (.int (t : Nat)), u, some (.int (d.needs : Nat)), some (.int (d.gives : Nat)), some (.int d.shift), z] = .nx [da, some (.list (natD lit)), wv, some (.dict (encG (stepG lit t g d))), some (.int (t : Nat)), u, some (.int (d.needs : Nat)), some (.int (d.gives : Nat)), some (.int d.shift), z'] := by
  refine ⟨some (.int ((t : Int) + d.shift)), ?_⟩
  have x1 : (natD lit)[t]? = some (.int ((lit.getD t 0 : Nat) : Int)) := by
    unfold natD
    rw [List.getElem?_map, List.getElem?_eq_getElem ht, List.getD_eq_getElem?_getD, List.getElem?_eq_getElem ht]
    rfl
  have x2 : gI Builtin.bitAnd (.int ((lit.getD t 0 : Nat) : Int)) (.int (d.needs : Nat)) = some (.int ((lit.getD t 0 &&& d.needs : Nat) : Int)) := by
    show some (PyData.int (Builtin.bitAnd _ _)) = _
    rw [bitAnd_nat]
  have ix : ∀ ρ : En, ρ[1]? = some (some (.list (natD lit))) → ρ[4]? = some (some (.int (t : Nat))) → eIxO 1 (eVar 4) ρ = .v (.int ((lit.getD t 0 : Nat) : Int)) ρ := fun ρ h1 h4 => by
    have c : (PyData.int ((t : Nat) : Int)) = .int (Int.ofNat t) := rfl
    rw [c] at h4
    simp only [eIxO, ownL, eVar, h1, h4, eThen, x1]
  have ln : ∀ ρ : En, ρ[1]? = some (some (.list (natD lit))) → eLenO 1 ρ = .v (.int ((lit.length : Nat) : Int)) ρ := fun ρ h1 => by
    have hz : decide ((natD lit).length ≤ 100000) = true := decide_eq_true (by unfold natD; rw [List.length_map]; omega)
    unfold eLenO ownL
    rw [h1]
    simp [natD]
  have dg : ∀ (ρ : En) (k : Nat), ρ[3]? = some (some (.dict (encG g))) → ρ[9]? = some (some (.int (k : Nat))) → eDGetO 3 (eVar 9) (eC (.int 0)) ρ = .v (.int (((getN g k).getD 0 : Nat) : Int)) ρ := fun ρ k h3 h9 => by
    unfold eDGetO isDO
    rw [h3]
    simp only [eThen, eVar, h9, eC, lookO, h3, look_enc]
    cases getN g k <;> rfl
  have lg : decide ((encG g).length ≤ 90000) = true := decide_eq_true (by unfold encG; rw [List.length_map]; omega)
  have pu : ∀ (ρ : En) (k v : Nat), ρ[3]? = some (some (.dict (encG g))) → putO 3 ρ (.int (k : Nat)) (.int (v : Nat)) = some (.dict (encG (putN g k v))) := fun ρ k v h3 => by
    unfold putO
    rw [h3]
    show (match isKeyD (.int ((k : Nat) : Int)), decide ((encG g).length ≤ 90000) with | some q, true => some (PyData.dict (putBy isKeyD keyD (encG g) q (.int (v : Nat)))) | _, _ => none) = _
    rw [lg]
    show some (PyData.dict (putBy isKeyD keyD (encG g) (Sum.inl ((k : Nat) : Int)) (.int (v : Nat)))) = _
    rw [put_enc]
  have sx : ∀ (ρ : En) (x y : Int), ρ[4]? = some (some (.int x)) → ρ[8]? = some (some (.int y)) → sAsg (eOp (gI fun i j => i + j) (eVar 4) (eVar 8)) (gN 9) ρ = .nx (ρ.set 9 (some (.int (x + y)))) := fun ρ x y h4 h8 => by
    simp only [sAsg, sE, eOp, eThen, eo, eVar, h4, h8, gI, gN]
  unfold givB sSeq
  rw [sx _ (t : Int) d.shift rfl rfl]
  dsimp only [List.set_cons_succ, List.set_cons_zero]
  generalize hgo : (t : Int) + d.shift = goal
  have test : ∀ ρ : En, ρ[1]? = some (some (.list (natD lit))) → ρ[4]? = some (some (.int (t : Nat))) → ρ[6]? = some (some (.int (d.needs : Nat))) → ρ[9]? = some (some (.int goal)) → tAndZ (tVal' (eOp gEq (eOp (gI Builtin.bitAnd) (eIxO 1 (eVar 4)) (eVar 6)) (eVar 6))) (tVal' (eChain (gB fun i j => decide (i ≤ j)) (gB fun i j => decide (i < j)) (eC (.int 0)) (eVar 9) (eLenO 1))) ρ = .b (decide (lit.getD t 0 &&& d.needs = d.needs ∧ 0 ≤ goal ∧ goal < lit.length)) ρ := fun ρ h1 h4 h6 h9 => by
    have q1 : decide (((lit.getD t 0 &&& d.needs : Nat) : Int) = ((d.needs : Nat) : Int)) = decide (lit.getD t 0 &&& d.needs = d.needs) := decide_eq_decide.mpr ⟨fun w => by omega, fun w => by rw [w]⟩
    simp only [tAndZ, tVal', eOp, eThen, eo, eVar, h6, ix ρ h1 h4, x2, gEq, eChain, eC, h9, gB, ln ρ h1, q1]
    by_cases c1 : lit.getD t 0 &&& d.needs = d.needs
    · rw [decide_eq_true c1]
      simp only [h9, ln ρ h1]
      by_cases c2 : (0 : Int) ≤ goal
      · rw [decide_eq_true c2]
        dsimp only
        congr 1
        exact decide_eq_decide.mpr ⟨fun w => ⟨c1, c2, w⟩, fun w => w.2.2⟩
      · rw [decide_eq_false c2, decide_eq_false (show ¬ (lit.getD t 0 &&& d.needs = d.needs ∧ 0 ≤ goal ∧ goal < (lit.length : Int)) from fun w => c2 w.2.1)]
    · rw [decide_eq_false c1, decide_eq_false (show ¬ (lit.getD t 0 &&& d.needs = d.needs ∧ 0 ≤ goal ∧ goal < (lit.length : Int)) from fun w => c1 w.1)]
  unfold sIf
  rw [test _ rfl rfl rfl rfl]
  unfold stepG
  rw [hgo]
  by_cases hc : lit.getD t 0 &&& d.needs = d.needs ∧ 0 ≤ goal ∧ goal < lit.length
  · rw [decide_eq_true hc, if_pos hc]
    obtain ⟨k, hk⟩ : ∃ k : Nat, goal = (k : Int) := ⟨goal.toNat, by omega⟩
    subst hk
    rw [Int.toNat_natCast]
    dsimp only
    have x3 : gI Builtin.bitOr (.int (((getN g k).getD 0 : Nat) : Int)) (.int ((d.gives : Nat) : Int)) = some (.int (((getN g k).getD 0 ||| d.gives : Nat) : Int)) := by
      show some (PyData.int (Builtin.bitOr _ _)) = _
      rw [bitOr_nat]
    unfold sDSetO sE eOp eThen
    rw [dg _ k rfl rfl]
    simp only [eVar, List.getElem?_cons_zero, List.getElem?_cons_succ, x3, eo, hasO]
    rw [pu _ k _ rfl]
    rfl
  · rw [decide_eq_false hc, if_neg hc]
    rfl
theorem putN_len (g : List (Nat × Nat)) (k v : Nat) : (putN g k v).length ≤ g.length + 1 := by
  unfold putN
  split <;> simp
theorem stepG_len (lit : List Nat) (t : Nat) (g : List (Nat × Nat)) (d : Dm) : (stepG lit t g d).length ≤ g.length + 1 := by
  unfold stepG
  split
  · exact putN_len _ _ _
  · omega
theorem giv_turns {da wv u : Option PyData} {lit : List Nat} {t : Nat} (ht : t < lit.length) (hl : lit.length ≤ 40000) : ∀ (ds : List Dm) (g : List (Nat × Nat)) (z6 z7 z8 z9 : Option PyData), g.length + ds.length ≤ 80000 → ∃ z6' z7' z8' z9', sTurns (gT [gN 6, gN 7, gN 8]) givB (ds.map Dm.enc) [da, some (.list (natD lit)), wv, some (.dict (encG g)), some (.int (t : Nat)), u, z6, z7, z8, z9] = .nx [da, some (.list (natD lit)), wv, some (.dict (encG (ds.foldl (stepG lit t) g))), some (.int (t : Nat)), u, z6', z7', z8', z9'] ∧ (ds.foldl (stepG lit t) g).length ≤ g.length + ds.length
  | [], g, z6, z7, z8, z9, _ => ⟨z6, z7, z8, z9, rfl, Nat.le_refl _⟩
  | d :: ds, g, z6, z7, z8, z9, h => by
    simp only [List.length_cons] at h ⊢
    obtain ⟨z', e⟩ := giv_turn (da := da) (wv := wv) (u := u) (z := z9) (d := d) (g := g) ht hl (by omega)
    have sl := stepG_len lit t g d
    obtain ⟨a6, a7, a8, a9, e2, l2⟩ := giv_turns ht hl ds (stepG lit t g d) (some (.int (d.needs : Nat))) (some (.int (d.gives : Nat))) (some (.int d.shift)) z' (by omega)
    refine ⟨a6, a7, a8, a9, ?_, by
      show (ds.foldl (stepG lit t) (stepG lit t g d)).length ≤ _
      omega⟩
    have eg : gT [gN 6, gN 7, gN 8] d.enc [da, some (.list (natD lit)), wv, some (.dict (encG g)), some (.int (t : Nat)), u, z6, z7, z8, z9] = some [da, some (.list (natD lit)), wv, some (.dict (encG g)), some (.int (t : Nat)), u, some (.int (d.needs : Nat)), some (.int (d.gives : Nat)), some (.int d.shift), z9] := rfl
    show sTurns _ _ (d.enc :: ds.map Dm.enc) _ = _
    simp only [sTurns]
    rw [eg]
    dsimp only
    rw [e]
    exact e2
def wavD (w : List (Nat × Nat)) : List PyData := w.map fun q => .tuple [.int (q.1 : Nat), .int (q.2 : Nat)]
def givN (doors : List (List Dm)) (lit : List Nat) (wave : List (Nat × Nat)) : List (Nat × Nat) := wave.foldl (fun g q => (doors.getD q.1 []).foldl (stepG lit q.1) g) []
def doorsD (doors : List (List Dm)) : List PyData := doors.map fun ds => .list (ds.map Dm.enc)
theorem giv_waves {doors : List (List Dm)} {wv : Option PyData} {lit : List Nat} {M : Nat} (hd : doors.length = lit.length) (hl : lit.length ≤ 40000) (hM : ∀ ds ∈ doors, ds.length ≤ M) : ∀ (wave : List (Nat × Nat)) (g : List (Nat × Nat)) (z4 z5 z6 z7 z8 z9 : Option PyData), (∀ q ∈ wave, q.1 < lit.length) → g.length + wave.length * M ≤ 80000 → ∃ a4 a5 a6 a7 a8 a9, sTurns (gT [gN 4, gN 5]) (sFor (iL (eOp gIxL (eVar 0) (eVar 4))) (gT [gN 6, gN 7, gN 8]) givB) (wavD wave) [some (.list (doorsD doors)), some (.list (natD lit)), wv, some (.dict (encG g)), z4, z5, z6, z7, z8, z9] = .nx [some (.list (doorsD doors)), some (.list (natD lit)), wv, some (.dict (encG (wave.foldl (fun g q => (doors.getD q.1 []).foldl (stepG lit q.1) g) g))), a4, a5, a6, a7, a8, a9]
  | [], g, z4, z5, z6, z7, z8, z9, _, _ => ⟨z4, z5, z6, z7, z8, z9, rfl⟩
  | q :: wave, g, z4, z5, z6, z7, z8, z9, hq, h => by
    have ht := hq q List.mem_cons_self
    simp only [List.length_cons, Nat.succ_mul] at h
    have hds : doors[q.1]? = some (doors.getD q.1 []) := by
      rw [List.getD_eq_getElem?_getD, List.getElem?_eq_getElem (by omega)]
      rfl
    have hm := hM _ (List.mem_of_getElem? hds)
    obtain ⟨b6, b7, b8, b9, e, le⟩ := giv_turns (da := some (.list (doorsD doors))) (wv := wv) (u := some (.int (q.2 : Nat))) ht hl (doors.getD q.1 []) g z6 z7 z8 z9 (by omega)
    obtain ⟨a4, a5, a6, a7, a8, a9, e2⟩ := giv_waves (wv := wv) hd hl hM wave ((doors.getD q.1 []).foldl (stepG lit q.1) g) (some (.int (q.1 : Nat))) (some (.int (q.2 : Nat))) b6 b7 b8 b9 (fun r hr => hq r (List.mem_cons_of_mem _ hr)) (by omega)
    refine ⟨a4, a5, a6, a7, a8, a9, ?_⟩
    have hx : gIxL (.list (doorsD doors)) (.int (q.1 : Nat)) = some (.list ((doors.getD q.1 []).map Dm.enc)) := by
      show (doorsD doors)[q.1]? = _
      unfold doorsD
      rw [List.getElem?_map, hds]
      rfl
    have ef : sFor (iL (eOp gIxL (eVar 0) (eVar 4))) (gT [gN 6, gN 7, gN 8]) givB [some (.list (doorsD doors)), some (.list (natD lit)), wv, some (.dict (encG g)), some (.int (q.1 : Nat)), some (.int (q.2 : Nat)), z6, z7, z8, z9] = .nx [some (.list (doorsD doors)), some (.list (natD lit)), wv, some (.dict (encG ((doors.getD q.1 []).foldl (stepG lit q.1) g))), some (.int (q.1 : Nat)), some (.int (q.2 : Nat)), b6, b7, b8, b9] := by
      simp only [sFor, iL, eOp, eThen, eo, eVar, List.getElem?_cons_zero, List.getElem?_cons_succ, hx]
      exact e
    have eg : gT [gN 4, gN 5] (.tuple [.int (q.1 : Nat), .int (q.2 : Nat)]) [some (.list (doorsD doors)), some (.list (natD lit)), wv, some (.dict (encG g)), z4, z5, z6, z7, z8, z9] = some [some (.list (doorsD doors)), some (.list (natD lit)), wv, some (.dict (encG g)), some (.int (q.1 : Nat)), some (.int (q.2 : Nat)), z6, z7, z8, z9] := rfl
    show sTurns _ _ (.tuple [.int (q.1 : Nat), .int (q.2 : Nat)] :: wavD wave) _ = _
    simp only [sTurns]
    rw [eg]
    dsimp only
    rw [ef]
    exact e2
theorem given_tells {doors : List (List Dm)} {lit : List Nat} {wave : List (Nat × Nat)} {M : Nat} (hd : doors.length = lit.length) (hl : lit.length ≤ 40000) (hM : ∀ ds ∈ doors, ds.length ≤ M) (hq : ∀ q ∈ wave, q.1 < lit.length) (hz : wave.length * M ≤ 80000) : F_given_by [.list (doorsD doors), .list (natD lit), .list (wavD wave)] = .o (.dict (encG (givN doors lit wave))) (.list (natD lit)) := by
  obtain ⟨a4, a5, a6, a7, a8, a9, e⟩ := giv_waves (wv := some (.list (wavD wave))) hd hl hM wave [] none none none none none none hq (by simpa using hz)
  have s1 : sAsgO 3 eNewK ([.list (doorsD doors), .list (natD lit), .list (wavD wave)].map some ++ List.replicate 7 none) = .nx [some (.list (doorsD doors)), some (.list (natD lit)), some (.list (wavD wave)), some (.dict (encG [])), none, none, none, none, none, none] := rfl
  have s2 : sFor (iL (eVar 2)) (gT [gN 4, gN 5]) (sFor (iL (eOp gIxL (eVar 0) (eVar 4))) (gT [gN 6, gN 7, gN 8]) givB) [some (.list (doorsD doors)), some (.list (natD lit)), some (.list (wavD wave)), some (.dict (encG [])), none, none, none, none, none, none] = .nx [some (.list (doorsD doors)), some (.list (natD lit)), some (.list (wavD wave)), some (.dict (encG (givN doors lit wave))), a4, a5, a6, a7, a8, a9] := e
  show finY (some 1) (sSeq (sAsgO 3 eNewK) (sSeq (sFor (iL (eVar 2)) (gT [gN 4, gN 5]) (sFor (iL (eOp gIxL (eVar 0) (eVar 4))) (gT [gN 6, gN 7, gN 8]) givB)) (sRet (eMove 3))) _) = _
  unfold sSeq
  rw [s1]
  dsimp only
  rw [s2]
  rfl
end TD
set_option maxHeartbeats 4000000
namespace TD
open PySem PySem.Spec PyProof.Rows L2
theorem nat_of_below {n : Nat} {xs : List Int} (h : xs.Sublist (below n)) : xs.map PyData.int = natD (xs.map Int.toNat) ∧ ∀ k ∈ xs.map Int.toNat, k < n := by
  have hm : ∀ x ∈ xs, 0 ≤ x ∧ x < n := fun x hx => by
    have := h.subset hx
    unfold below at this
    obtain ⟨i, hi, rfl⟩ := List.mem_map.mp this
    have := List.mem_range.mp hi
    omega
  refine ⟨?_, fun k hk => ?_⟩
  · unfold natD
    rw [List.map_map]
    refine List.map_congr_left fun x hx => ?_
    have := hm x hx
    show PyData.int x = PyData.int ((x.toNat : Nat) : Int)
    rw [Int.toNat_of_nonneg this.1]
  · obtain ⟨x, hx, rfl⟩ := List.mem_map.mp hk
    have := hm x hx
    omega
def dmOf (d : Dr) : Dm := ⟨maskN (d.needs.map Int.toNat), 2 ^ d.room.toNat, d.shift⟩
def dmE : En → ER := eTup (aCons (eFz (eCall F_mask_of [.d] (aCons (eVar 1) aNil))) (aCons (eOp (gIc cPow fun i j => i * 2 ^ j.toNat) (eC (.int 1)) (eVar 2)) (aCons (eVar 3) aNil)))
theorem dm_items {n : Nat} {lv : PyData} (hn : n ≤ 1000) : ∀ ds : List Dr, (∀ d ∈ ds, d.Fit n) → lcItems [1, 2, 3] (gT [gN 1, gN 2, gN 3]) tYesZ dmE (ds.map Dr.enc) [some lv, none, none, none] = some (ds.map fun d => (dmOf d).enc, [some lv, none, none, none])
  | [], _ => rfl
  | d :: ds, h => by
    have ih := dm_items (lv := lv) hn ds fun q hq => h q (List.mem_cons_of_mem _ hq)
    obtain ⟨f1, f2, f3, f4⟩ := h d List.mem_cons_self
    obtain ⟨e1, e2⟩ := nat_of_below f1
    have mt := mask_tells (xs := d.needs.map Int.toNat) fun k hk => by have := e2 k hk; omega
    rw [← e1] at mt
    obtain ⟨r, hr⟩ : ∃ r : Nat, d.room = (r : Int) := ⟨d.room.toNat, by omega⟩
    have c : cPow 1 (r : Int) = true := by
      unfold cPow
      simp only [Bool.and_eq_true, decide_eq_true_eq]
      exact ⟨by omega, by omega, by decide⟩
    have pw : (1 : Int) * 2 ^ ((r : Int)).toNat = ((2 ^ r : Nat) : Int) := by
      rw [Int.one_mul, Int.toNat_natCast]
      norm_cast
    have g1 : gIc cPow (fun i j => i * 2 ^ j.toNat) (.int 1) (.int d.room) = some (.int ((2 ^ d.room.toNat : Nat) : Int)) := by
      rw [hr]
      show (match cPow 1 (r : Int) with | true => some (PyData.int (1 * 2 ^ ((r : Int)).toNat)) | false => none) = _
      rw [c]
      dsimp only
      rw [pw, Int.toNat_natCast]
    have eg : gT [gN 1, gN 2, gN 3] d.enc [some lv, none, none, none] = some [some lv, some (.list (d.needs.map PyData.int)), some (.int d.room), some (.int d.shift)] := rfl
    have ee : dmE [some lv, some (.list (d.needs.map PyData.int)), some (.int d.room), some (.int d.shift)] = .v (dmOf d).enc [some lv, some (.list (d.needs.map PyData.int)), some (.int d.room), some (.int d.shift)] := by
      simp [dmE, eTup, eFz, eCall, ownArg, eOp, eThen, eo, aE, aThen, aCons, aNil, eVar, eC, mt, g1, dmOf, Dm.enc]
    show lcItems _ _ _ _ (d.enc :: ds.map Dr.enc) _ = _
    simp only [lcItems, eg, lcOne, tYesZ, ee]
    rw [show wipeD [some lv, some (.list (d.needs.map PyData.int)), some (.int d.room), some (.int d.shift)] [1, 2, 3] = [some lv, none, none, none] from rfl, ih]
    rfl
theorem door_masks_tells {n : Nat} {ds : List Dr} (hn : n ≤ 1000) (h : ∀ d ∈ ds, d.Fit n) (hl : ds.length ≤ 40000) : F_door_masks [encL n ds] = .o (.list (ds.map fun d => (dmOf d).enc)) .none := by
  have e := dm_items (lv := encL n ds) hn ds h
  have hz : decide ((ds.map Dr.enc).length ≤ 40000) = true := decide_eq_true (by rw [List.length_map]; exact hl)
  have s1 : iL (eOp gIxT (eVar 0) (eC (.int 1))) [some (encL n ds), none, none, none] = .vs (ds.map Dr.enc) [some (encL n ds), none, none, none] := rfl
  show finY none (sRet (eLc (iL (eOp gIxT (eVar 0) (eC (.int 1)))) [1, 2, 3] (gT [gN 1, gN 2, gN 3]) tYesZ dmE) [some (encL n ds), none, none, none]) = _
  unfold sRet eLc
  rw [s1]
  dsimp only
  rw [hz]
  dsimp only
  rw [show wipeD [some (encL n ds), none, none, none] [1, 2, 3] = [some (encL n ds), none, none, none] from rfl, e]
  rfl
end TD
set_option maxHeartbeats 4000000
namespace TD
open PySem PySem.Spec PyProof.Rows L2
def orAt (lit : List Nat) (q : Nat × Nat) : List Nat := lit.set q.1 (lit.getD q.1 0 ||| q.2)
theorem orAt_len (lit : List Nat) (q : Nat × Nat) : (orAt lit q).length = lit.length := by
  unfold orAt
  rw [List.length_set]
theorem natD_len (xs : List Nat) : (natD xs).length = xs.length := by
  unfold natD
  rw [List.length_map]
theorem natD_at {xs : List Nat} {t : Nat} (h : t < xs.length) : (natD xs)[t]? = some (.int ((xs.getD t 0 : Nat) : Int)) := by
  unfold natD
  rw [List.getElem?_map, List.getElem?_eq_getElem h, List.getD_eq_getElem?_getD, List.getElem?_eq_getElem h]
  rfl
theorem natD_set (xs : List Nat) (t v : Nat) : (natD xs).set t (.int (v : Nat)) = natD (xs.set t v) := by
  unfold natD
  rw [List.map_set]
def mwB : En → SR := sAugO 3 (gI Builtin.bitOr) (eVar 5) (eVar 6)
theorem mw_turn {a b c w : Option PyData} {lit : List Nat} {q : Nat × Nat} (h : q.1 < lit.length) : mwB [a, b, c, some (.list (natD lit)), w, some (.int (q.1 : Nat)), some (.int (q.2 : Nat))] = .nx [a, b, c, some (.list (natD (orAt lit q))), w, some (.int (q.1 : Nat)), some (.int (q.2 : Nat))] := by
  have k : (PyData.int ((q.1 : Nat) : Int)) = .int (Int.ofNat q.1) := rfl
  have x3 : gI Builtin.bitOr (.int ((lit.getD q.1 0 : Nat) : Int)) (.int ((q.2 : Nat) : Int)) = some (.int ((lit.getD q.1 0 ||| q.2 : Nat) : Int)) := by
    show some (PyData.int (Builtin.bitOr _ _)) = _
    rw [bitOr_nat]
  have hd : decide (q.1 < (natD lit).length) = true := decide_eq_true (by rw [natD_len]; exact h)
  rw [k]
  simp only [mwB, sAugO, ownL, sE, eVar, List.getElem?_cons_zero, List.getElem?_cons_succ, natD_at h, x3, hd, natD_set, List.set_cons_succ, List.set_cons_zero]
  rfl
theorem mw_turns {a b c w : Option PyData} : ∀ (wave : List (Nat × Nat)) (lit : List Nat) (z5 z6 : Option PyData), (∀ q ∈ wave, q.1 < lit.length) → ∃ z5' z6', sTurns (gT [gN 5, gN 6]) mwB (wavD wave) [a, b, c, some (.list (natD lit)), w, z5, z6] = .nx [a, b, c, some (.list (natD (wave.foldl orAt lit))), w, z5', z6']
  | [], lit, z5, z6, _ => ⟨z5, z6, rfl⟩
  | q :: wave, lit, z5, z6, h => by
    obtain ⟨a5, a6, e⟩ := mw_turns (a := a) (b := b) (c := c) (w := w) wave (orAt lit q) (some (.int (q.1 : Nat))) (some (.int (q.2 : Nat))) fun r hr => by
      rw [orAt_len]
      exact h r (List.mem_cons_of_mem _ hr)
    refine ⟨a5, a6, ?_⟩
    show sTurns _ _ (.tuple [.int (q.1 : Nat), .int (q.2 : Nat)] :: wavD wave) _ = _
    simp only [sTurns]
    rw [show gT [gN 5, gN 6] (.tuple [.int (q.1 : Nat), .int (q.2 : Nat)]) [a, b, c, some (.list (natD lit)), w, z5, z6] = some [a, b, c, some (.list (natD lit)), w, some (.int (q.1 : Nat)), some (.int (q.2 : Nat))] from rfl]
    dsimp only
    rw [mw_turn (h q List.mem_cons_self)]
    exact e
theorem foldl_orAt_len : ∀ (wave : List (Nat × Nat)) (lit : List Nat), (wave.foldl orAt lit).length = lit.length
  | [], _ => rfl
  | q :: wave, lit => (foldl_orAt_len wave (orAt lit q)).trans (orAt_len lit q)
def wavesD (ws : List (List (Nat × Nat))) : List PyData := ws.map fun w => .list (wavD w)
theorem mw_waves {a b c : Option PyData} : ∀ (ws : List (List (Nat × Nat))) (lit : List Nat) (z4 z5 z6 : Option PyData), (∀ w ∈ ws, ∀ q ∈ w, q.1 < lit.length) → ∃ z4' z5' z6', sTurns (gN 4) (sFor (iL (eVar 4)) (gT [gN 5, gN 6]) mwB) (wavesD ws) [a, b, c, some (.list (natD lit)), z4, z5, z6] = .nx [a, b, c, some (.list (natD (ws.foldl (fun l w => w.foldl orAt l) lit))), z4', z5', z6']
  | [], lit, z4, z5, z6, _ => ⟨z4, z5, z6, rfl⟩
  | w :: ws, lit, z4, z5, z6, h => by
    obtain ⟨b5, b6, e⟩ := mw_turns (a := a) (b := b) (c := c) (w := some (.list (wavD w))) w lit z5 z6 (h w List.mem_cons_self)
    obtain ⟨a4, a5, a6, e2⟩ := mw_waves (a := a) (b := b) (c := c) ws (w.foldl orAt lit) (some (.list (wavD w))) b5 b6 fun v hv r hr => by
      rw [foldl_orAt_len]
      exact h v (List.mem_cons_of_mem _ hv) r hr
    refine ⟨a4, a5, a6, ?_⟩
    show sTurns _ _ (.list (wavD w) :: wavesD ws) _ = _
    simp only [sTurns]
    rw [show gN 4 (.list (wavD w)) [a, b, c, some (.list (natD lit)), z4, z5, z6] = some [a, b, c, some (.list (natD lit)), some (.list (wavD w)), z5, z6] from rfl]
    dsimp only
    rw [show sFor (iL (eVar 4)) (gT [gN 5, gN 6]) mwB [a, b, c, some (.list (natD lit)), some (.list (wavD w)), z5, z6] = .nx [a, b, c, some (.list (natD (w.foldl orAt lit))), some (.list (wavD w)), b5, b6] from e]
    exact e2
def zeros (n : Nat) : List Nat := List.replicate n 0
theorem zero_items {a b d e f g : Option PyData} : ∀ ks : List PyData, lcItems [2] (gN 2) tYesZ (eC (.int 0)) ks [a, b, none, d, e, f, g] = some (natD (zeros ks.length), [a, b, none, d, e, f, g])
  | [] => rfl
  | k :: ks => by
    have ih := zero_items (a := a) (b := b) (d := d) (e := e) (f := f) (g := g) ks
    simp only [lcItems, lcOne, tYesZ, eC]
    rw [show gN 2 k [a, b, none, d, e, f, g] = some [a, b, some k, d, e, f, g] from rfl]
    dsimp only
    rw [show wipeD [a, b, some k, d, e, f, g] [2] = [a, b, none, d, e, f, g] from rfl, ih]
    rfl
theorem masks_of_waves_tells {n : Nat} {ws : List (List (Nat × Nat))} (hn : n ≤ 40000) (h : ∀ w ∈ ws, ∀ q ∈ w, q.1 < n) : F_masks_of_waves [.int (n : Nat), .list (wavesD ws)] = .o (.list (natD (ws.foldl (fun l w => w.foldl orAt l) (zeros n)))) .none := by
  have hz : (decide (-40000 ≤ ((n : Nat) : Int)) && decide (((n : Nat) : Int) ≤ 40000)) = true := by
    rw [decide_eq_true (show (-40000 : Int) ≤ (n : Int) by omega), decide_eq_true (show (n : Int) ≤ 40000 by omega)]
    rfl
  have hlen : (rgD 0 n).length = n := by rw [rgD_below, List.length_map, below_len]
  have s0 : iR1 (aCons (eVar 0) aNil) [some (.int (n : Nat)), some (.list (wavesD ws)), none, none, none, none, none] = .vs (rgD 0 n) [some (.int (n : Nat)), some (.list (wavesD ws)), none, none, none, none, none] := by
    simp only [iR1, aCons, eVar, aThen, aNil, List.getElem?_cons_zero, hz, Int.toNat_natCast]
  have s1 : sAsgO 3 (eLc (iR1 (aCons (eVar 0) aNil)) [2] (gN 2) tYesZ (eC (.int 0))) [some (.int (n : Nat)), some (.list (wavesD ws)), none, none, none, none, none] = .nx [some (.int (n : Nat)), some (.list (wavesD ws)), none, some (.list (natD (zeros n))), none, none, none] := by
    unfold sAsgO eLc
    rw [s0]
    dsimp only
    rw [decide_eq_true (show (rgD 0 n).length ≤ 40000 by rw [hlen]; exact hn)]
    dsimp only
    rw [show wipeD [some (.int (n : Nat)), some (.list (wavesD ws)), none, none, none, none, none] [2] = [some (.int (n : Nat)), some (.list (wavesD ws)), none, none, none, none, none] from rfl, zero_items, hlen]
    rfl
  obtain ⟨a4, a5, a6, e⟩ := mw_waves (a := some (.int (n : Nat))) (b := some (.list (wavesD ws))) (c := none) ws (zeros n) none none none (fun w hw q hq => by
    have := h w hw q hq
    unfold zeros
    rw [List.length_replicate]
    exact this)
  have s2 : sFor (iL (eVar 1)) (gN 4) (sFor (iL (eVar 4)) (gT [gN 5, gN 6]) mwB) [some (.int (n : Nat)), some (.list (wavesD ws)), none, some (.list (natD (zeros n))), none, none, none] = .nx [some (.int (n : Nat)), some (.list (wavesD ws)), none, some (.list (natD (ws.foldl (fun l w => w.foldl orAt l) (zeros n)))), a4, a5, a6] := e
  show finY none (sSeq (sAsgO 3 (eLc (iR1 (aCons (eVar 0) aNil)) [2] (gN 2) tYesZ (eC (.int 0)))) (sSeq (sFor (iL (eVar 1)) (gN 4) (sFor (iL (eVar 4)) (gT [gN 5, gN 6]) mwB)) (sRet (eMove 3))) [some (.int (n : Nat)), some (.list (wavesD ws)), none, none, none, none, none]) = _
  unfold sSeq
  rw [s1]
  dsimp only
  rw [s2]
  rfl
end TD
set_option maxHeartbeats 4000000
namespace TD
open PySem PySem.Spec PyProof.Rows L2
def newAt (g : List (Nat × Nat)) (lit : List Nat) (t : Nat) : Nat := (getN g t).getD 0 - ((getN g t).getD 0 &&& lit.getD t 0)
def newW (g : List (Nat × Nat)) (lit : List Nat) (ks : List Nat) : List (Nat × Nat) := ks.filterMap fun t => if newAt g lit t = 0 then none else some (t, newAt g lit t)
def nwX : En → ER := eOp (gI Builtin.bitAnd) (eOp gDIx (eVar 5) (eVar 6)) (eUn (gUI Builtin.bitNot) (eIxO 2 (eVar 6)))
theorem nw_x {a b w ws m : Option PyData} {lit : List Nat} {g : List (Nat × Nat)} {t : Nat} (ht : t < lit.length) (hg : getN g t ≠ none) : nwX [a, b, some (.list (natD lit)), w, ws, some (.dict (encG g)), some (.int (t : Nat)), m] = .v (.int (newAt g lit t : Nat)) [a, b, some (.list (natD lit)), w, ws, some (.dict (encG g)), some (.int (t : Nat)), m] := by
  obtain ⟨v, hv⟩ := Option.ne_none_iff_exists'.mp hg
  have k : (PyData.int ((t : Nat) : Int)) = .int (Int.ofNat t) := rfl
  have x1 : gDIx (.dict (encG g)) (.int ((t : Nat) : Int)) = some (.int ((v : Nat) : Int)) := by
    unfold gDIx
    simp only [look_enc, hv]
    rfl
  have x2 : gUI Builtin.bitNot (.int ((lit.getD t 0 : Nat) : Int)) = some (.int (Builtin.bitNot ((lit.getD t 0 : Nat) : Int))) := rfl
  have x3 : gI Builtin.bitAnd (.int ((v : Nat) : Int)) (.int (Builtin.bitNot ((lit.getD t 0 : Nat) : Int))) = some (.int (newAt g lit t : Nat)) := by
    show some (PyData.int (Builtin.bitAnd _ _)) = _
    rw [andNot_nat]
    unfold newAt
    rw [hv]
    rfl
  have ix : eIxO 2 (eVar 6) [a, b, some (.list (natD lit)), w, ws, some (.dict (encG g)), some (.int (t : Nat)), m] = .v (.int ((lit.getD t 0 : Nat) : Int)) [a, b, some (.list (natD lit)), w, ws, some (.dict (encG g)), some (.int (t : Nat)), m] := by
    rw [k]
    simp only [eIxO, ownL, eVar, eThen, List.getElem?_cons_zero, List.getElem?_cons_succ, natD_at ht]
  simp only [nwX, eOp, eUn, eThen, eo, eVar, List.getElem?_cons_zero, List.getElem?_cons_succ, x1]
  have ix' := ix
  rw [ix']
  simp only [x2, x3]
def nwE : En → ER := eTup (aCons (eVar 6) (aCons nwX aNil))
theorem nw_items {a b w ws m : Option PyData} {lit : List Nat} {g : List (Nat × Nat)} : ∀ ks : List Nat, (∀ t ∈ ks, t < lit.length ∧ getN g t ≠ none) → lcItems [6] (gN 6) (tTru' nwX) nwE (natD ks) [a, b, some (.list (natD lit)), w, ws, some (.dict (encG g)), none, m] = some (wavD (newW g lit ks), [a, b, some (.list (natD lit)), w, ws, some (.dict (encG g)), none, m])
  | [], _ => rfl
  | t :: ks, h => by
    have ih := nw_items (a := a) (b := b) (w := w) (ws := ws) (m := m) ks fun q hq => h q (List.mem_cons_of_mem _ hq)
    have hx := nw_x (a := a) (b := b) (w := w) (ws := ws) (m := m) (h t List.mem_cons_self).1 (h t List.mem_cons_self).2
    have eg : gN 6 (.int (t : Nat)) [a, b, some (.list (natD lit)), w, ws, some (.dict (encG g)), none, m] = some [a, b, some (.list (natD lit)), w, ws, some (.dict (encG g)), some (.int (t : Nat)), m] := rfl
    have ew : wipeD [a, b, some (.list (natD lit)), w, ws, some (.dict (encG g)), some (.int (t : Nat)), m] [6] = [a, b, some (.list (natD lit)), w, ws, some (.dict (encG g)), none, m] := rfl
    show lcItems _ _ _ _ (.int (t : Nat) :: natD ks) _ = _
    simp only [lcItems]
    rw [eg]
    dsimp only
    by_cases z : newAt g lit t = 0
    · have tt : tTru' nwX [a, b, some (.list (natD lit)), w, ws, some (.dict (encG g)), some (.int (t : Nat)), m] = .b false [a, b, some (.list (natD lit)), w, ws, some (.dict (encG g)), some (.int (t : Nat)), m] := by
        simp only [tTru', hx, z]
        rfl
      have en : newW g lit (t :: ks) = newW g lit ks := by
        unfold newW
        rw [List.filterMap_cons]
        simp [z]
      simp only [lcOne, tt, ew, ih, en]
    · have tt : tTru' nwX [a, b, some (.list (natD lit)), w, ws, some (.dict (encG g)), some (.int (t : Nat)), m] = .b true [a, b, some (.list (natD lit)), w, ws, some (.dict (encG g)), some (.int (t : Nat)), m] := by
        have tr : truD (.int ((newAt g lit t : Nat) : Int)) = some true := by
          show some (((newAt g lit t : Nat) : Int) != 0) = some true
          congr 1
          rw [bne_iff_ne]
          omega
        simp only [tTru', hx, tr]
      have ee : nwE [a, b, some (.list (natD lit)), w, ws, some (.dict (encG g)), some (.int (t : Nat)), m] = .v (.tuple [.int (t : Nat), .int (newAt g lit t : Nat)]) [a, b, some (.list (natD lit)), w, ws, some (.dict (encG g)), some (.int (t : Nat)), m] := by
        simp [nwE, eTup, aE, aCons, aThen, aNil, eVar, hx]
      have en : newW g lit (t :: ks) = (t, newAt g lit t) :: newW g lit ks := by
        unfold newW
        rw [List.filterMap_cons]
        simp [z]
      simp only [lcOne, tt, ee, ew, ih, en]
      rfl
end TD
set_option maxHeartbeats 4000000
namespace TD
open PySem PySem.Spec PyProof.Rows L2
def castL (ks : List Nat) : List Int := ks.map fun n => ((n : Nat) : Int)
def insN (n : Nat) : List Nat → List Nat
  | [] => [n]
  | k :: ks => if n ≤ k then n :: k :: ks else k :: insN n ks
def sortN : List Nat → List Nat
  | [] => []
  | n :: ns => insN n (sortN ns)
theorem ins_cast (n : Nat) : ∀ ks : List Nat, insI (n : Int) (castL ks) = castL (insN n ks)
  | [] => rfl
  | k :: ks => by
    show (match decide ((n : Int) ≤ (k : Int)) with | true => (n : Int) :: (k : Int) :: castL ks | false => (k : Int) :: insI (n : Int) (castL ks)) = castL (if n ≤ k then n :: k :: ks else k :: insN n ks)
    by_cases h : n ≤ k
    · rw [if_pos h, decide_eq_true (show (n : Int) ≤ (k : Int) by omega)]
      rfl
    · rw [if_neg h, decide_eq_false (show ¬ (n : Int) ≤ (k : Int) by omega), ins_cast n ks]
      rfl
theorem sort_cast : ∀ ks : List Nat, sortI (castL ks) = castL (sortN ks)
  | [] => rfl
  | k :: ks => by
    show insI (k : Int) (sortI (castL ks)) = _
    rw [sort_cast ks, ins_cast]
    rfl
theorem insN_mem (n x : Nat) : ∀ ks : List Nat, x ∈ insN n ks ↔ x = n ∨ x ∈ ks
  | [] => by simp [insN]
  | k :: ks => by
    unfold insN
    split
    · simp
    · rw [List.mem_cons, insN_mem n x ks, List.mem_cons]
      constructor
      · rintro (h | h | h)
        · exact .inr (.inl h)
        · exact .inl h
        · exact .inr (.inr h)
      · rintro (h | h | h)
        · exact .inr (.inl h)
        · exact .inl h
        · exact .inr (.inr h)
theorem sortN_mem (x : Nat) : ∀ ks : List Nat, x ∈ sortN ks ↔ x ∈ ks
  | [] => Iff.rfl
  | k :: ks => by
    show x ∈ insN k (sortN ks) ↔ _
    rw [insN_mem, sortN_mem x ks, List.mem_cons]
theorem natD_cast (ks : List Nat) : natD ks = (castL ks).map PyData.int := by
  unfold natD castL
  rw [List.map_map]
  rfl
theorem sortedD_tells {g : List (Nat × Nat)} (h : g.length < 64) : gSortedD [.dict (encG g)] = some (.list (natD (sortN (g.map (·.1))))) := by
  have e : (encG g).map (·.1) = (castL (g.map (·.1))).map PyData.int := by
    unfold encG castL
    rw [List.map_map, List.map_map, List.map_map]
    rfl
  have hl : decide ((castL (g.map (·.1))).length < 64) = true := decide_eq_true (by unfold castL; rw [List.length_map, List.length_map]; exact h)
  unfold gSortedD
  dsimp only
  rw [e, intsOf_map]
  dsimp only
  rw [hl]
  dsimp only
  rw [sort_cast, ← natD_cast]
theorem getN_some {g : List (Nat × Nat)} {k : Nat} : getN g k ≠ none ↔ k ∈ g.map (·.1) := by
  induction g with
  | nil => simp [getN]
  | cons q g ih =>
    unfold getN at *
    rw [List.find?_cons]
    by_cases h : q.1 = k
    · simp [h]
    · have : ¬ k = q.1 := fun w => h w.symm
      simp only [decide_eq_false h, List.map_cons, List.mem_cons, this, false_or]
      exact ih
end TD
set_option maxHeartbeats 4000000
namespace TD
open PySem PySem.Spec PyProof.Rows L2
def w2B : En → SR := sAugO 2 (gI Builtin.bitOr) (eVar 6) (eVar 7)
theorem w2_turn {a b w ws g : Option PyData} {lit : List Nat} {q : Nat × Nat} (h : q.1 < lit.length) : w2B [a, b, some (.list (natD lit)), w, ws, g, some (.int (q.1 : Nat)), some (.int (q.2 : Nat))] = .nx [a, b, some (.list (natD (orAt lit q))), w, ws, g, some (.int (q.1 : Nat)), some (.int (q.2 : Nat))] := by
  have k : (PyData.int ((q.1 : Nat) : Int)) = .int (Int.ofNat q.1) := rfl
  have x3 : gI Builtin.bitOr (.int ((lit.getD q.1 0 : Nat) : Int)) (.int ((q.2 : Nat) : Int)) = some (.int ((lit.getD q.1 0 ||| q.2 : Nat) : Int)) := by
    show some (PyData.int (Builtin.bitOr _ _)) = _
    rw [bitOr_nat]
  have hd : decide (q.1 < (natD lit).length) = true := decide_eq_true (by rw [natD_len]; exact h)
  rw [k]
  simp only [w2B, sAugO, ownL, sE, eVar, List.getElem?_cons_zero, List.getElem?_cons_succ, natD_at h, x3, hd, natD_set, List.set_cons_succ, List.set_cons_zero]
  rfl
theorem w2_turns {a b w ws g : Option PyData} : ∀ (wave : List (Nat × Nat)) (lit : List Nat) (z5 z6 : Option PyData), (∀ q ∈ wave, q.1 < lit.length) → ∃ z5' z6', sTurns (gT [gN 6, gN 7]) w2B (wavD wave) [a, b, some (.list (natD lit)), w, ws, g, z5, z6] = .nx [a, b, some (.list (natD (wave.foldl orAt lit))), w, ws, g, z5', z6']
  | [], lit, z5, z6, _ => ⟨z5, z6, rfl⟩
  | q :: wave, lit, z5, z6, h => by
    obtain ⟨a5, a6, e⟩ := w2_turns (a := a) (b := b) (w := w) (ws := ws) (g := g) wave (orAt lit q) (some (.int (q.1 : Nat))) (some (.int (q.2 : Nat))) fun r hr => by
      rw [orAt_len]
      exact h r (List.mem_cons_of_mem _ hr)
    refine ⟨a5, a6, ?_⟩
    show sTurns _ _ (.tuple [.int (q.1 : Nat), .int (q.2 : Nat)] :: wavD wave) _ = _
    simp only [sTurns]
    rw [show gT [gN 6, gN 7] (.tuple [.int (q.1 : Nat), .int (q.2 : Nat)]) [a, b, some (.list (natD lit)), w, ws, g, z5, z6] = some [a, b, some (.list (natD lit)), w, ws, g, some (.int (q.1 : Nat)), some (.int (q.2 : Nat))] from rfl]
    dsimp only
    rw [w2_turn (h q List.mem_cons_self)]
    exact e
def nextW (doors : List (List Dm)) (lit : List Nat) (wave : List (Nat × Nat)) : List (Nat × Nat) := newW (givN doors lit wave) lit (sortN ((givN doors lit wave).map (·.1)))
def wfB : En → SR := sSeq (sApp 4 (eVar 3)) (sSeq (sAsg (eFz (eCall F_given_by [.s 0, .o 2, .d] (aCons (eVar 0) (aOwnS 2 (aCons (eVar 3) aNil))))) (gN 5)) (sSeq (sAsg (eFz (eLc (iL (eCB gSortedD (aCons (eVar 5) aNil))) [6] (gN 6) (tTru' nwX) nwE)) (gN 3)) (sFor (iL (eVar 3)) (gT [gN 6, gN 7]) w2B)))
theorem wf_turn {doors : List (List Dm)} {b z5 z6 z7 : Option PyData} {lit : List Nat} {wave : List (Nat × Nat)} {ws : List (List (Nat × Nat))} {M : Nat} (hd : doors.length = lit.length) (hl : lit.length ≤ 40000) (hM : ∀ ds ∈ doors, ds.length ≤ M) (hq : ∀ q ∈ wave, q.1 < lit.length) (hz : wave.length * M ≤ 80000) (hw : ws.length ≤ 80000) (hg : (givN doors lit wave).length < 64) (hk : ∀ t ∈ (givN doors lit wave).map (·.1), t < lit.length) : ∃ z6' z7', wfB [some (.list (doorsD doors)), b, some (.list (natD lit)), some (.list (wavD wave)), some (.list (wavesD ws)), z5, z6, z7] = .nx [some (.list (doorsD doors)), b, some (.list (natD ((nextW doors lit wave).foldl orAt lit))), some (.list (wavD (nextW doors lit wave))), some (.list (wavesD (ws ++ [wave]))), some (.dict (encG (givN doors lit wave))), z6', z7'] := by
  have gt := given_tells hd hl hM hq hz
  have s1 : sApp 4 (eVar 3) [some (.list (doorsD doors)), b, some (.list (natD lit)), some (.list (wavD wave)), some (.list (wavesD ws)), z5, z6, z7] = .nx [some (.list (doorsD doors)), b, some (.list (natD lit)), some (.list (wavD wave)), some (.list (wavesD (ws ++ [wave]))), z5, z6, z7] := by
    have hl2 : decide ((wavesD ws).length ≤ 90000) = true := decide_eq_true (by unfold wavesD; rw [List.length_map]; omega)
    have ea : wavesD ws ++ [.list (wavD wave)] = wavesD (ws ++ [wave]) := by
      unfold wavesD
      rw [List.map_append]
      rfl
    simp only [sApp, ownL, sE, eVar, List.getElem?_cons_zero, List.getElem?_cons_succ, hl2, ea, List.set_cons_succ, List.set_cons_zero]
  have s2 : sAsg (eFz (eCall F_given_by [.s 0, .o 2, .d] (aCons (eVar 0) (aOwnS 2 (aCons (eVar 3) aNil))))) (gN 5) [some (.list (doorsD doors)), b, some (.list (natD lit)), some (.list (wavD wave)), some (.list (wavesD (ws ++ [wave]))), z5, z6, z7] = .nx [some (.list (doorsD doors)), b, some (.list (natD lit)), some (.list (wavD wave)), some (.list (wavesD (ws ++ [wave]))), some (.dict (encG (givN doors lit wave))), z6, z7] := by
    simp [sAsg, sE, eFz, eCall, ownArg, aE, aCons, aOwnS, aOwn, aThen, aNil, eVar, gt, gN]
  have hkeys : ∀ t ∈ sortN ((givN doors lit wave).map (·.1)), t < lit.length ∧ getN (givN doors lit wave) t ≠ none := fun t ht => by
    have h1 := (sortN_mem t _).mp ht
    exact ⟨hk t h1, getN_some.mpr h1⟩
  have e3 := nw_items (a := some (.list (doorsD doors))) (b := b) (w := some (.list (wavD wave))) (ws := some (.list (wavesD (ws ++ [wave])))) (m := z7) (lit := lit) (g := givN doors lit wave) _ hkeys
  have si : iL (eCB gSortedD (aCons (eVar 5) aNil)) [some (.list (doorsD doors)), b, some (.list (natD lit)), some (.list (wavD wave)), some (.list (wavesD (ws ++ [wave]))), some (.dict (encG (givN doors lit wave))), z6, z7] = .vs (natD (sortN ((givN doors lit wave).map (·.1)))) [some (.list (doorsD doors)), b, some (.list (natD lit)), some (.list (wavD wave)), some (.list (wavesD (ws ++ [wave]))), some (.dict (encG (givN doors lit wave))), z6, z7] := by
    simp only [iL, eCB, aE, aCons, aThen, aNil, eVar, List.getElem?_cons_zero, List.getElem?_cons_succ, sortedD_tells hg, eo]
  have hle : (natD (sortN ((givN doors lit wave).map (·.1)))).length ≤ 40000 := by
    have hp := (sortI_perm (castL ((givN doors lit wave).map (·.1)))).length_eq
    rw [sort_cast] at hp
    unfold castL at hp
    rw [List.length_map, List.length_map, List.length_map] at hp
    rw [natD_len]
    omega
  have s3 : sAsg (eFz (eLc (iL (eCB gSortedD (aCons (eVar 5) aNil))) [6] (gN 6) (tTru' nwX) nwE)) (gN 3) [some (.list (doorsD doors)), b, some (.list (natD lit)), some (.list (wavD wave)), some (.list (wavesD (ws ++ [wave]))), some (.dict (encG (givN doors lit wave))), z6, z7] = .nx [some (.list (doorsD doors)), b, some (.list (natD lit)), some (.list (wavD (nextW doors lit wave))), some (.list (wavesD (ws ++ [wave]))), some (.dict (encG (givN doors lit wave))), none, z7] := by
    unfold sAsg sE eFz eLc
    rw [si]
    dsimp only
    rw [decide_eq_true hle]
    dsimp only
    rw [show wipeD [some (.list (doorsD doors)), b, some (.list (natD lit)), some (.list (wavD wave)), some (.list (wavesD (ws ++ [wave]))), some (.dict (encG (givN doors lit wave))), z6, z7] [6] = [some (.list (doorsD doors)), b, some (.list (natD lit)), some (.list (wavD wave)), some (.list (wavesD (ws ++ [wave]))), some (.dict (encG (givN doors lit wave))), none, z7] from rfl, e3]
    rfl
  have hn : ∀ q ∈ nextW doors lit wave, q.1 < lit.length := fun q hq => by
    unfold nextW newW at hq
    obtain ⟨t, ht, e⟩ := List.mem_filterMap.mp hq
    have := (hkeys t ht).1
    split at e
    · exact nomatch e
    · cases e
      exact this
  obtain ⟨z6', z7', e4⟩ := w2_turns (a := some (.list (doorsD doors))) (b := b) (w := some (.list (wavD (nextW doors lit wave)))) (ws := some (.list (wavesD (ws ++ [wave])))) (g := some (.dict (encG (givN doors lit wave)))) (nextW doors lit wave) lit none z7 hn
  have s4 : sFor (iL (eVar 3)) (gT [gN 6, gN 7]) w2B [some (.list (doorsD doors)), b, some (.list (natD lit)), some (.list (wavD (nextW doors lit wave))), some (.list (wavesD (ws ++ [wave]))), some (.dict (encG (givN doors lit wave))), none, z7] = .nx _ := e4
  refine ⟨z6', z7', ?_⟩
  unfold wfB sSeq
  rw [s1]
  dsimp only
  rw [s2]
  dsimp only
  rw [s3]
  dsimp only
  rw [s4]
end TD
set_option maxHeartbeats 4000000
namespace TD
open PySem PySem.Spec PyProof.Rows L2
theorem bitsN_rise (m : Nat) : (bitsN m).Pairwise (· < ·) := (bitsF_rise 999 m 0).1
theorem getN_put (g : List (Nat × Nat)) (k v j : Nat) : getN (putN g k v) j = if j = k then some v else getN g j := by
  unfold putN
  split
  · next h =>
    unfold getN
    induction g with
    | nil => simp at h
    | cons q g ih =>
      rw [List.map_cons, List.find?_cons, List.find?_cons]
      by_cases hq : q.1 = k
      · rw [if_pos hq]
        by_cases hj : j = k
        · rw [if_pos hj, decide_eq_true (show q.1 = j by omega)]
          rfl
        · have hqj : ¬ q.1 = j := by omega
          rw [if_neg hj]
          simp only [decide_eq_false hqj]
          by_cases ha : (g.any fun q => decide (q.1 = k)) = true
          · have := ih ha
            rw [if_neg hj] at this
            exact this
          · congr 1
            have : (g.map fun q => if q.1 = k then (q.1, v) else q) = g := by
              have hn : ∀ q ∈ g, ¬ q.1 = k := fun q hq w => ha (List.any_eq_true.mpr ⟨q, hq, decide_eq_true w⟩)
              conv => rhs; rw [← List.map_id g]
              exact List.map_congr_left fun q hq => if_neg (hn q hq)
            rw [this]
      · rw [if_neg hq]
        have ha : (g.any fun q => decide (q.1 = k)) = true := by
          rw [List.any_cons, decide_eq_false hq] at h
          simpa using h
        have := ih ha
        by_cases hqj : q.1 = j
        · have hj : ¬ j = k := by omega
          simp only [decide_eq_true hqj, if_neg hj]
        · simp only [decide_eq_false hqj]
          exact this
  · next h =>
    unfold getN
    have hn : ∀ q ∈ g, ¬ q.1 = k := fun q hq w => h (List.any_eq_true.mpr ⟨q, hq, decide_eq_true w⟩)
    rw [List.find?_append]
    by_cases hj : j = k
    · subst hj
      rw [if_pos rfl]
      have : (g.find? fun q => decide (q.1 = j)) = none := List.find?_eq_none.mpr fun q hq w => hn q hq (of_decide_eq_true w)
      rw [this]
      simp
    · rw [if_neg hj]
      have : ([(k, v)].find? fun q => decide (q.1 = j)) = none := List.find?_eq_none.mpr fun q hq w => by
        rw [List.mem_singleton.mp hq] at w
        exact hj (of_decide_eq_true w).symm
      rw [this, Option.or_none]
theorem putN_keys (g : List (Nat × Nat)) (k v x : Nat) : x ∈ (putN g k v).map (·.1) ↔ x = k ∨ x ∈ g.map (·.1) := by
  unfold putN
  split
  · next h =>
    obtain ⟨q, hq, e⟩ := List.any_eq_true.mp h
    have e := of_decide_eq_true e
    have : (g.map fun q => if q.1 = k then (q.1, v) else q).map (·.1) = g.map (·.1) := by
      rw [List.map_map]
      refine List.map_congr_left fun q _ => ?_
      show (if q.1 = k then (q.1, v) else q).1 = q.1
      split <;> rfl
    rw [this]
    constructor
    · exact .inr
    · rintro (rfl | w)
      · exact List.mem_map.mpr ⟨q, hq, e⟩
      · exact w
  · rw [List.map_append, List.mem_append]
    simp [or_comm]
theorem putN_nodup {g : List (Nat × Nat)} {k v : Nat} (h : (g.map (·.1)).Nodup) : ((putN g k v).map (·.1)).Nodup := by
  unfold putN
  split
  · have : (g.map fun q => if q.1 = k then (q.1, v) else q).map (·.1) = g.map (·.1) := by
      rw [List.map_map]
      refine List.map_congr_left fun q _ => ?_
      show (if q.1 = k then (q.1, v) else q).1 = q.1
      split <;> rfl
    rw [this]
    exact h
  · next hn =>
    rw [List.map_append]
    refine List.nodup_append.mpr ⟨h, by simp, fun a ha b hb e => ?_⟩
    have hb : b = k := by simpa using hb
    subst hb
    subst e
    obtain ⟨q, hq, e⟩ := List.mem_map.mp ha
    exact hn (List.any_eq_true.mpr ⟨q, hq, decide_eq_true e⟩)
theorem nodup_below : ∀ (N : Nat) (xs : List Nat), xs.Nodup → (∀ x ∈ xs, x < N) → xs.length ≤ N
  | 0, xs, _, h => by
    cases xs with
    | nil => exact Nat.le_refl _
    | cons x xs => exact absurd (h x List.mem_cons_self) (by omega)
  | N + 1, xs, hn, h => by
    have h1 := nodup_below N (xs.erase N) (hn.erase N) fun x hx => by
      have h2 := hn.mem_erase_iff.mp hx
      have := h x h2.2
      have := h2.1
      omega
    have h3 : xs.length ≤ (xs.erase N).length + 1 := by
      rw [List.length_erase]
      split <;> omega
    omega
def GB (g : List (Nat × Nat)) (k r : Nat) : Prop := ((getN g k).getD 0).testBit r = true
def On (lit : List Nat) (t r : Nat) : Prop := (lit.getD t 0).testBit r = true
def GivesM (lit : List Nat) (t : Nat) (d : Dm) (k r : Nat) : Prop := lit.getD t 0 &&& d.needs = d.needs ∧ (t : Int) + d.shift = (k : Int) ∧ k < lit.length ∧ d.gives.testBit r = true
theorem stepG_bit (lit : List Nat) (t : Nat) (g : List (Nat × Nat)) (d : Dm) (k r : Nat) : GB (stepG lit t g d) k r ↔ GB g k r ∨ GivesM lit t d k r := by
  unfold stepG
  split
  · next h =>
    obtain ⟨h1, h2, h3⟩ := h
    unfold GB
    rw [getN_put]
    by_cases hk : k = ((t : Int) + d.shift).toNat
    · rw [if_pos hk, ← hk]
      show ((getN g k).getD 0 ||| d.gives).testBit r = true ↔ _
      rw [Nat.testBit_or, Bool.or_eq_true]
      have : (t : Int) + d.shift = (k : Int) := by omega
      constructor
      · rintro (w | w)
        · exact .inl w
        · exact .inr ⟨h1, this, by omega, w⟩
      · rintro (w | w)
        · exact .inl w
        · exact .inr w.2.2.2
    · rw [if_neg hk]
      constructor
      · exact .inl
      · rintro (w | w)
        · exact w
        · exact absurd w.2.1 (by omega)
  · next h =>
    constructor
    · exact .inl
    · rintro (w | w)
      · exact w
      · exact absurd ⟨w.1, by have := w.2.1; omega, by have := w.2.1; have := w.2.2.1; omega⟩ h
theorem stepsG_bit (lit : List Nat) (t k r : Nat) : ∀ (ds : List Dm) (g : List (Nat × Nat)), GB (ds.foldl (stepG lit t) g) k r ↔ GB g k r ∨ ∃ d ∈ ds, GivesM lit t d k r
  | [], g => by simp
  | d :: ds, g => by
    rw [List.foldl_cons, stepsG_bit lit t k r ds, stepG_bit]
    simp only [List.mem_cons, exists_eq_or_imp, or_assoc]
theorem wavesG_bit (doors : List (List Dm)) (lit : List Nat) (k r : Nat) : ∀ (wave g : List (Nat × Nat)), GB (wave.foldl (fun g q => (doors.getD q.1 []).foldl (stepG lit q.1) g) g) k r ↔ GB g k r ∨ ∃ q ∈ wave, ∃ d ∈ doors.getD q.1 [], GivesM lit q.1 d k r
  | [], g => by simp
  | q :: wave, g => by
    rw [List.foldl_cons, wavesG_bit doors lit k r wave, stepsG_bit]
    simp only [List.mem_cons, exists_eq_or_imp, or_assoc]
theorem givN_bit (doors : List (List Dm)) (lit : List Nat) (wave : List (Nat × Nat)) (k r : Nat) : GB (givN doors lit wave) k r ↔ ∃ q ∈ wave, ∃ d ∈ doors.getD q.1 [], GivesM lit q.1 d k r := by
  unfold givN
  rw [wavesG_bit]
  have : ¬ GB [] k r := by
    unfold GB getN
    simp
  simp [this]
def GOK (L : Nat) (g : List (Nat × Nat)) : Prop := (g.map (·.1)).Nodup ∧ ∀ k ∈ g.map (·.1), k < L
theorem stepG_ok {lit : List Nat} {t : Nat} {g : List (Nat × Nat)} {d : Dm} (h : GOK lit.length g) : GOK lit.length (stepG lit t g d) := by
  unfold stepG
  split
  · next c =>
    refine ⟨putN_nodup h.1, fun k hk => ?_⟩
    rcases (putN_keys _ _ _ _).mp hk with w | w
    · omega
    · exact h.2 k w
  · exact h
theorem stepsG_ok {lit : List Nat} {t : Nat} : ∀ (ds : List Dm) (g : List (Nat × Nat)), GOK lit.length g → GOK lit.length (ds.foldl (stepG lit t) g)
  | [], _, h => h
  | d :: ds, g, h => stepsG_ok ds _ (stepG_ok h)
theorem givN_ok (doors : List (List Dm)) (lit : List Nat) (wave : List (Nat × Nat)) : GOK lit.length (givN doors lit wave) := by
  unfold givN
  have : ∀ (wave g : List (Nat × Nat)), GOK lit.length g → GOK lit.length (wave.foldl (fun g q => (doors.getD q.1 []).foldl (stepG lit q.1) g) g) := by
    intro wave
    induction wave with
    | nil => exact fun g h => h
    | cons q wave ih => exact fun g h => ih _ (stepsG_ok _ _ h)
  exact this wave [] ⟨by simp, by simp⟩
theorem GOK.len {L : Nat} {g : List (Nat × Nat)} (h : GOK L g) : g.length ≤ L := by
  have := nodup_below L _ h.1 h.2
  rwa [List.length_map] at this
theorem sub_and_bit : ∀ (r a b : Nat), (a - (a &&& b)).testBit r = (a.testBit r && !b.testBit r)
  | 0, a, b => by
    have h1 : a &&& b ≤ a := Nat.and_le_left
    have h2 : (a &&& b) % 2 = (a % 2) &&& (b % 2) := Nat.and_mod_two_pow (n := 1) ..
    rw [Nat.testBit_zero, Nat.testBit_zero, Nat.testBit_zero]
    generalize a &&& b = c at *
    rcases Nat.mod_two_eq_zero_or_one a with ha | ha <;> rcases Nat.mod_two_eq_zero_or_one b with hb | hb <;> rw [ha, hb] at h2
    · rw [show (a - c) % 2 = 0 by have : c % 2 = 0 := h2; omega, ha, hb]; rfl
    · rw [show (a - c) % 2 = 0 by have : c % 2 = 0 := h2; omega, ha, hb]; rfl
    · rw [show (a - c) % 2 = 1 by have : c % 2 = 0 := h2; omega, ha, hb]; rfl
    · rw [show (a - c) % 2 = 0 by have : c % 2 = 1 := h2; omega, ha, hb]; rfl
  | r + 1, a, b => by
    have h1 : a &&& b ≤ a := Nat.and_le_left
    have h2 : (a &&& b) % 2 = (a % 2) &&& (b % 2) := Nat.and_mod_two_pow (n := 1) ..
    have h3 : (a &&& b) / 2 = (a / 2) &&& (b / 2) := Nat.and_div_two_pow (n := 1) ..
    have h4 : (a - (a &&& b)) / 2 = a / 2 - (a / 2 &&& b / 2) := by
      rw [← h3]
      have : (a &&& b) % 2 ≤ a % 2 := by
        rw [h2]
        exact Nat.and_le_left
      omega
    rw [Nat.testBit_succ, Nat.testBit_succ, Nat.testBit_succ, h4]
    exact sub_and_bit r (a / 2) (b / 2)
theorem newAt_bit (g : List (Nat × Nat)) (lit : List Nat) (t r : Nat) : (newAt g lit t).testBit r = true ↔ GB g t r ∧ ¬ On lit t r := by
  unfold newAt GB On
  rw [sub_and_bit]
  simp
theorem newW_mem (g : List (Nat × Nat)) (lit : List Nat) (ks : List Nat) (q : Nat × Nat) : q ∈ newW g lit ks ↔ q.1 ∈ ks ∧ q.2 = newAt g lit q.1 ∧ q.2 ≠ 0 := by
  unfold newW
  rw [List.mem_filterMap]
  constructor
  · rintro ⟨t, ht, e⟩
    split at e
    · exact nomatch e
    · next h =>
      cases e
      exact ⟨ht, rfl, h⟩
  · rintro ⟨h1, h2, h3⟩
    refine ⟨q.1, h1, ?_⟩
    rw [if_neg (by rw [← h2]; exact h3), ← h2]
theorem orAt_get (lit : List Nat) (q : Nat × Nat) (h : q.1 < lit.length) (t : Nat) : (orAt lit q).getD t 0 = if q.1 = t then lit.getD t 0 ||| q.2 else lit.getD t 0 := by
  unfold orAt
  rw [List.getD_eq_getElem?_getD, List.getElem?_set]
  by_cases e : q.1 = t
  · rw [if_pos e, if_pos h, if_pos e, e]
    rfl
  · rw [if_neg e, if_neg e, List.getD_eq_getElem?_getD]
theorem orAt_on (lit : List Nat) (q : Nat × Nat) (h : q.1 < lit.length) (t r : Nat) : On (orAt lit q) t r ↔ On lit t r ∨ (q.1 = t ∧ q.2.testBit r = true) := by
  unfold On
  rw [orAt_get lit q h]
  by_cases e : q.1 = t
  · rw [if_pos e, Nat.testBit_or, Bool.or_eq_true]
    simp [e]
  · rw [if_neg e]
    simp [e]
theorem ors_on (t r : Nat) : ∀ (w : List (Nat × Nat)) (lit : List Nat), (∀ q ∈ w, q.1 < lit.length) → (On (w.foldl orAt lit) t r ↔ On lit t r ∨ ∃ q ∈ w, q.1 = t ∧ q.2.testBit r = true)
  | [], lit, _ => by simp
  | q :: w, lit, h => by
    rw [List.foldl_cons, ors_on t r w (orAt lit q) fun p hp => by
      rw [orAt_len]
      exact h p (List.mem_cons_of_mem _ hp), orAt_on lit q (h q List.mem_cons_self)]
    simp only [List.mem_cons, exists_eq_or_imp, or_assoc]
theorem ors_off (t : Nat) : ∀ (w : List (Nat × Nat)) (lit : List Nat), (∀ q ∈ w, q.1 < lit.length ∧ q.1 ≠ t) → (w.foldl orAt lit).getD t 0 = lit.getD t 0
  | [], lit, _ => rfl
  | q :: w, lit, h => by
    rw [List.foldl_cons, ors_off t w (orAt lit q) fun p hp => by
      rw [orAt_len]
      exact h p (List.mem_cons_of_mem _ hp), orAt_get lit q (h q List.mem_cons_self).1, if_neg (h q List.mem_cons_self).2]
theorem nextW_mem {doors : List (List Dm)} {lit : List Nat} {wave : List (Nat × Nat)} {q : Nat × Nat} (h : q ∈ nextW doors lit wave) : q.1 < lit.length ∧ q.2 = newAt (givN doors lit wave) lit q.1 ∧ q.2 ≠ 0 := by
  unfold nextW at h
  obtain ⟨h1, h2, h3⟩ := (newW_mem _ _ _ _).mp h
  exact ⟨(givN_ok doors lit wave).2 _ ((sortN_mem _ _).mp h1), h2, h3⟩
theorem next_on (doors : List (List Dm)) (lit : List Nat) (wave : List (Nat × Nat)) (k r : Nat) : On ((nextW doors lit wave).foldl orAt lit) k r ↔ On lit k r ∨ GB (givN doors lit wave) k r := by
  rw [ors_on k r _ lit fun q hq => (nextW_mem hq).1]
  constructor
  · rintro (w | ⟨q, hq, e, w⟩)
    · exact .inl w
    · obtain ⟨_, h2, _⟩ := nextW_mem hq
      rw [h2, e] at w
      exact .inr ((newAt_bit _ _ _ _).mp w).1
  · rintro (w | w)
    · exact .inl w
    · by_cases hl : On lit k r
      · exact .inl hl
      · have hb := (newAt_bit (givN doors lit wave) lit k r).mpr ⟨w, hl⟩
        refine .inr ⟨(k, newAt (givN doors lit wave) lit k), ?_, rfl, hb⟩
        unfold nextW
        refine (newW_mem _ _ _ _).mpr ⟨(sortN_mem _ _).mpr (getN_some.mp ?_), rfl, ?_⟩
        · intro z
          unfold GB at w
          rw [z] at w
          simp at w
        · intro z
          rw [show newAt (givN doors lit wave) lit k = 0 from z] at hb
          simp at hb
def Giv (ds : List Dr) (T : Nat) (S : Nat → Nat → Prop) (k r : Nat) : Prop := ∃ d ∈ ds, ∃ t, t < T ∧ (∀ x ∈ d.needs, S t x.toNat) ∧ (t : Int) + d.shift = (k : Int) ∧ k < T ∧ d.room.toNat = r
def Rn (ds : List Dr) (T : Nat) (P : Nat → Nat → Prop) : Nat → Nat → Nat → Prop
  | 0 => P
  | n + 1 => fun k r => Rn ds T P n k r ∨ Giv ds T (Rn ds T P n) k r
def Lt (ds : List Dr) (T : Nat) (P : Nat → Nat → Prop) (k r : Nat) : Prop := ∃ n, Rn ds T P n k r
theorem Rn_up {ds : List Dr} {T : Nat} {P : Nat → Nat → Prop} {k r : Nat} : ∀ {n m : Nat}, n ≤ m → Rn ds T P n k r → Rn ds T P m k r
  | n, 0, h, w => by
    have : n = 0 := by omega
    subst this
    exact w
  | n, m + 1, h, w => by
    by_cases e : n = m + 1
    · subst e
      exact w
    · exact .inl (Rn_up (by omega) w)
theorem Lt_of_kept {ds : List Dr} {T : Nat} {P : Nat → Nat → Prop} {n : Nat} (h : ∀ k r, Giv ds T (Rn ds T P n) k r → Rn ds T P n k r) (k r : Nat) : Lt ds T P k r ↔ Rn ds T P n k r := by
  constructor
  · rintro ⟨m, w⟩
    have up : ∀ m k r, Rn ds T P (n + m) k r → Rn ds T P n k r := by
      intro m
      induction m with
      | zero => exact fun k r w => w
      | succ m ih =>
        intro k r w
        rcases w with w | w
        · exact ih k r w
        · obtain ⟨d, hd, t, ht, hn, e1, e2, e3⟩ := w
          exact h k r ⟨d, hd, t, ht, fun x hx => ih _ _ (hn x hx), e1, e2, e3⟩
    exact up m k r (Rn_up (by omega) w)
  · exact fun w => ⟨n, w⟩
theorem Rn_in {N : Nat} {ds : List Dr} {T : Nat} {P : Nat → Nat → Prop} (hd : ∀ d ∈ ds, d.room.toNat < N) (hP : ∀ k r, P k r → k < T ∧ r < N) : ∀ n k r, Rn ds T P n k r → k < T ∧ r < N
  | 0, k, r, h => hP k r h
  | n + 1, k, r, h => by
    rcases h with h | ⟨d, hd', t, ht, hn, e1, e2, e3⟩
    · exact Rn_in hd hP n k r h
    · exact ⟨e2, by rw [← e3]; exact hd d hd'⟩
theorem Lt_in {N : Nat} {ds : List Dr} {T : Nat} {P : Nat → Nat → Prop} (hd : ∀ d ∈ ds, d.room.toNat < N) (hP : ∀ k r, P k r → k < T ∧ r < N) {k r : Nat} (h : Lt ds T P k r) : k < T ∧ r < N := let ⟨n, w⟩ := h; Rn_in hd hP n k r w
theorem need_mask (m : Nat) (xs : List Nat) : m &&& maskN xs = maskN xs ↔ ∀ x ∈ xs, m.testBit x = true := by
  have hb : ∀ x, (maskN xs).testBit x = decide (x ∈ xs) := fun x => by
    unfold maskN
    rw [maskN_bit]
    simp
  constructor
  · intro h x hx
    have h1 : (m &&& maskN xs).testBit x = true := by rw [h, hb]; exact decide_eq_true hx
    rw [Nat.testBit_and, Bool.and_eq_true] at h1
    exact h1.1
  · intro h
    refine Nat.eq_of_testBit_eq fun x => ?_
    rw [Nat.testBit_and, hb]
    by_cases hx : x ∈ xs
    · rw [h x hx, decide_eq_true hx]
      rfl
    · rw [decide_eq_false hx, Bool.and_false]
theorem gives_dm (lit : List Nat) (t : Nat) (d : Dr) (k r : Nat) : GivesM lit t (dmOf d) k r ↔ (∀ x ∈ d.needs, On lit t x.toNat) ∧ (t : Int) + d.shift = (k : Int) ∧ k < lit.length ∧ d.room.toNat = r := by
  unfold GivesM dmOf
  dsimp only
  rw [need_mask, Nat.testBit_two_pow]
  simp only [List.mem_map, forall_exists_index, and_imp, forall_apply_eq_imp_iff₂, decide_eq_true_eq, On]
structure WI (ds : List Dr) (T : Nat) (P : Nat → Nat → Prop) (n : Nat) (lit : List Nat) (wave : List (Nat × Nat)) : Prop where
  len : lit.length = T
  on : ∀ k r, On lit k r ↔ Rn ds T P n k r
  inn : ∀ q ∈ wave, q.1 < T
  wl : wave.length ≤ T
  kept : ∀ t, t < T → (∀ q ∈ wave, q.1 ≠ t) → ∀ d ∈ ds, ∀ k : Nat, (∀ x ∈ d.needs, On lit t x.toNat) → (t : Int) + d.shift = (k : Int) → k < T → On lit k d.room.toNat
def doorsN (ds : List Dr) (T : Nat) : List (List Dm) := List.replicate T (ds.map dmOf)
theorem doorsN_at {ds : List Dr} {T t : Nat} (h : t < T) : (doorsN ds T).getD t [] = ds.map dmOf := by
  unfold doorsN
  rw [List.getD_eq_getElem?_getD, List.getElem?_replicate, if_pos h]
  rfl
theorem giv_bit {ds : List Dr} {T n : Nat} {P : Nat → Nat → Prop} {lit : List Nat} {wave : List (Nat × Nat)} (h : WI ds T P n lit wave) (k r : Nat) : GB (givN (doorsN ds T) lit wave) k r ↔ ∃ q ∈ wave, ∃ d ∈ ds, (∀ x ∈ d.needs, On lit q.1 x.toNat) ∧ (q.1 : Int) + d.shift = (k : Int) ∧ k < T ∧ d.room.toNat = r := by
  rw [givN_bit]
  refine exists_congr fun q => and_congr_right fun hq => ?_
  rw [doorsN_at (h.inn q hq)]
  simp only [List.mem_map]
  constructor
  · rintro ⟨d', ⟨d, hd, rfl⟩, w⟩
    rw [gives_dm, h.len] at w
    exact ⟨d, hd, w⟩
  · rintro ⟨d, hd, w⟩
    refine ⟨_, ⟨d, hd, rfl⟩, ?_⟩
    rw [gives_dm, h.len]
    exact w
theorem insN_len (n : Nat) : ∀ ks : List Nat, (insN n ks).length = ks.length + 1
  | [] => rfl
  | k :: ks => by
    unfold insN
    split
    · rfl
    · rw [List.length_cons, insN_len n ks, List.length_cons]
theorem sortN_len : ∀ ks : List Nat, (sortN ks).length = ks.length
  | [] => rfl
  | k :: ks => by
    show (insN k (sortN ks)).length = _
    rw [insN_len, sortN_len ks]
    rfl
theorem nextW_len (doors : List (List Dm)) (lit : List Nat) (wave : List (Nat × Nat)) : (nextW doors lit wave).length ≤ lit.length := by
  unfold nextW newW
  refine Nat.le_trans (List.length_filterMap_le _ _) ?_
  rw [sortN_len, List.length_map]
  exact (givN_ok doors lit wave).len
theorem WI.next {ds : List Dr} {T n : Nat} {P : Nat → Nat → Prop} {lit : List Nat} {wave : List (Nat × Nat)} (h : WI ds T P n lit wave) : WI ds T P (n + 1) ((nextW (doorsN ds T) lit wave).foldl orAt lit) (nextW (doorsN ds T) lit wave) := by
  have hl := h.len
  have on' : ∀ k r, On ((nextW (doorsN ds T) lit wave).foldl orAt lit) k r ↔ On lit k r ∨ GB (givN (doorsN ds T) lit wave) k r := next_on _ _ _
  refine ⟨by rw [foldl_orAt_len]; exact hl, fun k r => ?_, fun q hq => by rw [← hl]; exact (nextW_mem hq).1, by rw [← hl]; exact nextW_len _ _ _, fun t ht hw d hd k hn e hk => ?_⟩
  · rw [on', giv_bit h]
    show _ ↔ Rn ds T P n k r ∨ Giv ds T (Rn ds T P n) k r
    constructor
    · rintro (w | ⟨q, hq, d, hd, hn, e1, e2, e3⟩)
      · exact .inl ((h.on k r).mp w)
      · exact .inr ⟨d, hd, q.1, h.inn q hq, fun x hx => (h.on _ _).mp (hn x hx), e1, e2, e3⟩
    · rintro (w | ⟨d, hd, t, ht, hn, e1, e2, e3⟩)
      · exact .inl ((h.on k r).mpr w)
      · have hn' : ∀ x ∈ d.needs, On lit t x.toNat := fun x hx => (h.on _ _).mpr (hn x hx)
        by_cases hw : ∀ q ∈ wave, q.1 ≠ t
        · have := h.kept t ht hw d hd k hn' e1 e2
          rw [e3] at this
          exact .inl this
        · have hw : ∃ q ∈ wave, q.1 = t := by
            refine Classical.byContradiction fun w => hw fun q hq e => w ⟨q, hq, e⟩
          obtain ⟨q, hq, e⟩ := hw
          subst e
          exact .inr ⟨q, hq, d, hd, hn', e1, e2, e3⟩
  · have off : ((nextW (doorsN ds T) lit wave).foldl orAt lit).getD t 0 = lit.getD t 0 := ors_off t _ _ fun q hq => ⟨(nextW_mem hq).1, hw q hq⟩
    have hn' : ∀ x ∈ d.needs, On lit t x.toNat := fun x hx => by
      have := hn x hx
      unfold On at this ⊢
      rwa [off] at this
    rw [on', giv_bit h]
    by_cases hw2 : ∀ q ∈ wave, q.1 ≠ t
    · exact .inl (h.kept t ht hw2 d hd k hn' e hk)
    · have hw2 : ∃ q ∈ wave, q.1 = t := by
        refine Classical.byContradiction fun w => hw2 fun q hq e => w ⟨q, hq, e⟩
      obtain ⟨q, hq, e'⟩ := hw2
      subst e'
      exact .inr ⟨q, hq, d, hd, hn', e, hk, rfl⟩
theorem WI.last {ds : List Dr} {T n : Nat} {P : Nat → Nat → Prop} {lit : List Nat} (h : WI ds T P n lit []) (k r : Nat) : On lit k r ↔ Lt ds T P k r := by
  rw [Lt_of_kept (n := n) (fun k r w => ?_) k r, h.on]
  obtain ⟨d, hd, t, ht, hn, e1, e2, e3⟩ := w
  have := h.kept t ht (fun q hq => nomatch hq) d hd k (fun x hx => (h.on _ _).mpr (hn x hx)) e1 e2
  rw [e3] at this
  exact (h.on k r).mp this
theorem sum_set : ∀ (lit : List Nat) (k v : Nat), k < lit.length → (lit.set k v).sum + lit.getD k 0 = lit.sum + v
  | [], k, v, h => nomatch h
  | a :: lit, 0, v, h => by
    simp only [List.set_cons_zero, List.sum_cons, List.getD_cons_zero]
    omega
  | a :: lit, k + 1, v, h => by
    have := sum_set lit k v (by simpa using h)
    simp only [List.set_cons_succ, List.sum_cons, List.getD_cons_succ]
    omega
theorem orAt_sum {lit : List Nat} {q : Nat × Nat} (h : q.1 < lit.length) : lit.sum ≤ (orAt lit q).sum := by
  have := sum_set lit q.1 (lit.getD q.1 0 ||| q.2) h
  have h2 : lit.getD q.1 0 ≤ lit.getD q.1 0 ||| q.2 := Nat.left_le_or
  unfold orAt
  omega
theorem ors_sum : ∀ (w : List (Nat × Nat)) (lit : List Nat), (∀ q ∈ w, q.1 < lit.length) → lit.sum ≤ (w.foldl orAt lit).sum
  | [], _, _ => Nat.le_refl _
  | q :: w, lit, h => Nat.le_trans (orAt_sum (h q List.mem_cons_self)) (ors_sum w (orAt lit q) fun p hp => by
    rw [orAt_len]
    exact h p (List.mem_cons_of_mem _ hp))
theorem or_new {a b : Nat} {r : Nat} (h1 : b.testBit r = true) (h2 : ¬ a.testBit r = true) : a < a ||| b := by
  have : a ≤ a ||| b := Nat.left_le_or
  refine Nat.lt_of_le_of_ne this fun e => h2 ?_
  rw [e, Nat.testBit_or, h1, Bool.or_true]
theorem next_sum {doors : List (List Dm)} {lit : List Nat} {wave : List (Nat × Nat)} (h : nextW doors lit wave ≠ []) : lit.sum < ((nextW doors lit wave).foldl orAt lit).sum := by
  have hm : ∀ q ∈ nextW doors lit wave, q.1 < lit.length ∧ q.2 = newAt (givN doors lit wave) lit q.1 ∧ q.2 ≠ 0 := fun q hq => nextW_mem hq
  revert h hm
  cases nextW doors lit wave with
  | nil => exact fun h => absurd rfl h
  | cons q w =>
    intro _ hm
    obtain ⟨h1, h2, h3⟩ := hm q List.mem_cons_self
    have hs : lit.sum < (orAt lit q).sum := by
      have e := sum_set lit q.1 (lit.getD q.1 0 ||| q.2) h1
      obtain ⟨r, hr⟩ := Nat.exists_testBit_of_ne_zero h3
      have hb := hr
      rw [h2] at hb
      have := (newAt_bit _ _ _ _).mp hb
      have := or_new hr this.2
      unfold orAt
      omega
    exact Nat.lt_of_lt_of_le hs (ors_sum w (orAt lit q) fun p hp => by
      rw [orAt_len]
      exact (hm p (List.mem_cons_of_mem _ hp)).1)
theorem sum_le {B : Nat} : ∀ lit : List Nat, (∀ m ∈ lit, m ≤ B) → lit.sum ≤ lit.length * B
  | [], _ => Nat.zero_le _
  | a :: lit, h => by
    have h1 := h a List.mem_cons_self
    have h2 := sum_le lit fun m hm => h m (List.mem_cons_of_mem _ hm)
    rw [List.sum_cons, List.length_cons, Nat.succ_mul]
    omega
theorem WI.small {N : Nat} {ds : List Dr} {T n : Nat} {P : Nat → Nat → Prop} {lit : List Nat} {wave : List (Nat × Nat)} (h : WI ds T P n lit wave) (hd : ∀ d ∈ ds, d.room.toNat < N) (hP : ∀ k r, P k r → k < T ∧ r < N) : ∀ m ∈ lit, m < 2 ^ N := by
  intro m hm
  obtain ⟨k, hk, e⟩ := List.mem_iff_getElem.mp hm
  refine Nat.lt_pow_two_of_testBit _ fun r hr => ?_
  refine Bool.eq_false_iff.mpr fun w => ?_
  have : On lit k r := by
    unfold On
    rw [List.getD_eq_getElem?_getD, List.getElem?_eq_getElem hk, e]
    exact w
  have := (Rn_in hd hP n k r ((h.on k r).mp this)).2
  omega
theorem WI.sum {N : Nat} {ds : List Dr} {T n : Nat} {P : Nat → Nat → Prop} {lit : List Nat} {wave : List (Nat × Nat)} (h : WI ds T P n lit wave) (hd : ∀ d ∈ ds, d.room.toNat < N) (hP : ∀ k r, P k r → k < T ∧ r < N) : lit.sum ≤ T * 2 ^ N := by
  have := sum_le lit fun m hm => Nat.le_of_lt (h.small hd hP m hm)
  rwa [h.len] at this
def putQ (g : List ((Nat × Nat) × Nat)) (k : Nat × Nat) (v : Nat) : List ((Nat × Nat) × Nat) := if (g.any fun q => decide (q.1 = k)) = true then g.map fun q => if q.1 = k then (q.1, v) else q else g ++ [(k, v)]
def keysQ (g : List ((Nat × Nat) × Nat)) : List (Nat × Nat) := g.map (·.1)
theorem anyQ {g : List ((Nat × Nat) × Nat)} {k : Nat × Nat} : (g.any fun q => decide (q.1 = k)) = true ↔ k ∈ keysQ g := by
  unfold keysQ
  rw [List.any_eq_true, List.mem_map]
  exact exists_congr fun q => and_congr_right fun _ => decide_eq_true_iff
theorem mapQ (g : List ((Nat × Nat) × Nat)) (k : Nat × Nat) (v : Nat) : (g.map fun q => if q.1 = k then (q.1, v) else q).map (·.1) = g.map (·.1) := by
  rw [List.map_map]
  refine List.map_congr_left fun q _ => ?_
  show (if q.1 = k then (q.1, v) else q).1 = q.1
  split <;> rfl
theorem putQ_keys (g : List ((Nat × Nat) × Nat)) (k x : Nat × Nat) (v : Nat) : x ∈ keysQ (putQ g k v) ↔ x = k ∨ x ∈ keysQ g := by
  unfold putQ
  split
  · next h =>
    unfold keysQ
    rw [mapQ]
    constructor
    · exact .inr
    · rintro (rfl | w)
      · exact anyQ.mp h
      · exact w
  · unfold keysQ
    rw [List.map_append, List.mem_append]
    simp [or_comm]
theorem putQ_nodup {g : List ((Nat × Nat) × Nat)} {k : Nat × Nat} {v : Nat} (h : (keysQ g).Nodup) : (keysQ (putQ g k v)).Nodup := by
  unfold putQ
  split
  · unfold keysQ
    rw [mapQ]
    exact h
  · next hn =>
    unfold keysQ
    rw [List.map_append]
    refine List.nodup_append.mpr ⟨h, by simp, fun a ha b hb e => ?_⟩
    have hb : b = k := by simpa using hb
    subst hb
    subst e
    exact hn (anyQ.mpr ha)
theorem putQ_mem {g : List ((Nat × Nat) × Nat)} {k : Nat × Nat} {v : Nat} {e : (Nat × Nat) × Nat} (h : e ∈ putQ g k v) : e ∈ g ∨ e = (k, v) := by
  unfold putQ at h
  split at h
  · obtain ⟨q, hq, rfl⟩ := List.mem_map.mp h
    by_cases w : q.1 = k
    · rw [if_pos w, w]
      exact .inr rfl
    · rw [if_neg w]
      exact .inl hq
  · rcases List.mem_append.mp h with w | w
    · exact .inl w
    · exact .inr (List.mem_singleton.mp w)
theorem putQ_len (g : List ((Nat × Nat) × Nat)) (k : Nat × Nat) (v : Nat) : g.length ≤ (putQ g k v).length ∧ (putQ g k v).length ≤ g.length + 1 ∧ (k ∉ keysQ g → (putQ g k v).length = g.length + 1) := by
  unfold putQ
  split
  · next h =>
    rw [List.length_map]
    exact ⟨Nat.le_refl _, by omega, fun w => absurd (anyQ.mp h) w⟩
  · rw [List.length_append, List.length_singleton]
    exact ⟨by omega, by omega, fun _ => rfl⟩
def putsQ (n : Nat) (g : List ((Nat × Nat) × Nat)) (qs : List (Nat × Nat)) : List ((Nat × Nat) × Nat) := qs.foldl (fun g q => putQ g q n) g
theorem putsQ_keys (n : Nat) (x : Nat × Nat) : ∀ (qs : List (Nat × Nat)) (g : List ((Nat × Nat) × Nat)), x ∈ keysQ (putsQ n g qs) ↔ x ∈ keysQ g ∨ x ∈ qs
  | [], g => by simp [putsQ]
  | q :: qs, g => by
    have := putsQ_keys n x qs (putQ g q n)
    unfold putsQ at this ⊢
    rw [List.foldl_cons, this, putQ_keys, List.mem_cons]
    constructor
    · rintro ((h | h) | h)
      · exact .inr (.inl h)
      · exact .inl h
      · exact .inr (.inr h)
    · rintro (h | h | h)
      · exact .inl (.inr h)
      · exact .inl (.inl h)
      · exact .inr h
theorem putsQ_nodup (n : Nat) : ∀ (qs : List (Nat × Nat)) (g : List ((Nat × Nat) × Nat)), (keysQ g).Nodup → (keysQ (putsQ n g qs)).Nodup
  | [], _, h => h
  | q :: qs, g, h => putsQ_nodup n qs (putQ g q n) (putQ_nodup h)
theorem putsQ_mem (n : Nat) (e : (Nat × Nat) × Nat) : ∀ (qs : List (Nat × Nat)) (g : List ((Nat × Nat) × Nat)), e ∈ putsQ n g qs → e ∈ g ∨ (e.1 ∈ qs ∧ e.2 = n)
  | [], _, h => .inl h
  | q :: qs, g, h => by
    rcases putsQ_mem n e qs (putQ g q n) h with w | ⟨w1, w2⟩
    · rcases putQ_mem w with w | w
      · exact .inl w
      · rw [w]
        exact .inr ⟨List.mem_cons_self, rfl⟩
    · exact .inr ⟨List.mem_cons_of_mem _ w1, w2⟩
theorem putsQ_len (n : Nat) : ∀ (qs : List (Nat × Nat)) (g : List ((Nat × Nat) × Nat)), g.length ≤ (putsQ n g qs).length ∧ (putsQ n g qs).length ≤ g.length + qs.length
  | [], _ => ⟨Nat.le_refl _, Nat.le_refl _⟩
  | q :: qs, g => by
    have h1 := putQ_len g q n
    have h2 := putsQ_len n qs (putQ g q n)
    show g.length ≤ (putsQ n (putQ g q n) qs).length ∧ (putsQ n (putQ g q n) qs).length ≤ g.length + (q :: qs).length
    rw [List.length_cons]
    omega
def lgStep (ks : List (Nat × Nat)) (T : Nat) (d : Dr) (f : List (Nat × Nat)) (t : Nat) : List (Nat × Nat) :=
  if (0 ≤ (t : Int) + d.shift ∧ (t : Int) + d.shift < (T : Int)) ∧ (∀ x ∈ d.needs, (t, x.toNat) ∈ ks) ∧ (((t : Int) + d.shift).toNat, d.room.toNat) ∉ f then f ++ [(((t : Int) + d.shift).toNat, d.room.toNat)] else f
def lgN (ks : List (Nat × Nat)) (T : Nat) (ds : List Dr) : List (Nat × Nat) := ds.foldl (fun f d => (List.range T).foldl (lgStep ks T d) f) []
theorem lgStep_mem (ks : List (Nat × Nat)) (T : Nat) (d : Dr) (f : List (Nat × Nat)) (t : Nat) (q : Nat × Nat) : q ∈ lgStep ks T d f t ↔ q ∈ f ∨ ((∀ x ∈ d.needs, (t, x.toNat) ∈ ks) ∧ (t : Int) + d.shift = (q.1 : Int) ∧ q.1 < T ∧ d.room.toNat = q.2) := by
  unfold lgStep
  split
  · next h =>
    obtain ⟨h1, h2, h3⟩ := h
    rw [List.mem_append, List.mem_singleton]
    constructor
    · rintro (w | w)
      · exact .inl w
      · rw [w]
        exact .inr ⟨h2, by dsimp only; omega, by dsimp only; omega, rfl⟩
    · rintro (w | ⟨w1, w2, w3, w4⟩)
      · exact .inl w
      · refine .inr (Prod.ext ?_ w4.symm)
        dsimp only
        omega
  · next h =>
    constructor
    · exact .inl
    · rintro (w | ⟨w1, w2, w3, w4⟩)
      · exact w
      · refine Classical.byContradiction fun hq => h ⟨by omega, w1, ?_⟩
        rw [show ((t : Int) + d.shift).toNat = q.1 by omega, w4]
        exact hq
theorem lgSteps_mem (ks : List (Nat × Nat)) (T : Nat) (d : Dr) (q : Nat × Nat) : ∀ (ts : List Nat) (f : List (Nat × Nat)), q ∈ ts.foldl (lgStep ks T d) f ↔ q ∈ f ∨ ∃ t ∈ ts, (∀ x ∈ d.needs, (t, x.toNat) ∈ ks) ∧ (t : Int) + d.shift = (q.1 : Int) ∧ q.1 < T ∧ d.room.toNat = q.2
  | [], f => by simp
  | t :: ts, f => by
    rw [List.foldl_cons, lgSteps_mem ks T d q ts, lgStep_mem]
    simp only [List.mem_cons, exists_eq_or_imp, or_assoc]
theorem lgDoors_mem (ks : List (Nat × Nat)) (T : Nat) (q : Nat × Nat) : ∀ (ds : List Dr) (f : List (Nat × Nat)), q ∈ ds.foldl (fun f d => (List.range T).foldl (lgStep ks T d) f) f ↔ q ∈ f ∨ ∃ d ∈ ds, ∃ t ∈ List.range T, (∀ x ∈ d.needs, (t, x.toNat) ∈ ks) ∧ (t : Int) + d.shift = (q.1 : Int) ∧ q.1 < T ∧ d.room.toNat = q.2
  | [], f => by simp
  | d :: ds, f => by
    rw [List.foldl_cons, lgDoors_mem ks T q ds, lgSteps_mem]
    simp only [List.mem_cons, exists_eq_or_imp, or_assoc]
theorem lgN_mem (ks : List (Nat × Nat)) (T : Nat) (ds : List Dr) (q : Nat × Nat) : q ∈ lgN ks T ds ↔ Giv ds T (fun t r => (t, r) ∈ ks) q.1 q.2 := by
  unfold lgN Giv
  rw [lgDoors_mem]
  simp only [List.not_mem_nil, false_or, List.mem_range]
theorem lgStep_len (ks : List (Nat × Nat)) (T : Nat) (d : Dr) (f : List (Nat × Nat)) (t : Nat) : (lgStep ks T d f t).length ≤ f.length + 1 := by
  unfold lgStep
  split <;> simp
theorem lgSteps_len (ks : List (Nat × Nat)) (T : Nat) (d : Dr) : ∀ (ts : List Nat) (f : List (Nat × Nat)), (ts.foldl (lgStep ks T d) f).length ≤ f.length + ts.length
  | [], f => Nat.le_refl _
  | t :: ts, f => by
    have h1 := lgStep_len ks T d f t
    have h2 := lgSteps_len ks T d ts (lgStep ks T d f t)
    rw [List.foldl_cons, List.length_cons]
    omega
theorem lgDoors_len (ks : List (Nat × Nat)) (T : Nat) : ∀ (ds : List Dr) (f : List (Nat × Nat)), (ds.foldl (fun f d => (List.range T).foldl (lgStep ks T d) f) f).length ≤ f.length + ds.length * T
  | [], f => by simp
  | d :: ds, f => by
    have h1 := lgSteps_len ks T d (List.range T) f
    have h2 := lgDoors_len ks T ds ((List.range T).foldl (lgStep ks T d) f)
    rw [List.length_range] at h1
    rw [List.foldl_cons, List.length_cons, Nat.succ_mul]
    omega
theorem lgN_len (ks : List (Nat × Nat)) (T : Nat) (ds : List Dr) : (lgN ks T ds).length ≤ ds.length * T := by
  have := lgDoors_len ks T ds []
  simpa [lgN] using this
def moreN (g : List ((Nat × Nat) × Nat)) (T : Nat) (ds : List Dr) : List (Nat × Nat) := (lgN (keysQ g) T ds).filter fun q => decide (q ∉ keysQ g)
structure LI (ds : List Dr) (T : Nat) (P : Nat → Nat → Prop) (n : Nat) (g : List ((Nat × Nat) × Nat)) : Prop where
  on : ∀ k r, (k, r) ∈ keysQ g ↔ Rn ds T P n k r
  nd : (keysQ g).Nodup
  val : ∀ e ∈ g, Rn ds T P e.2 e.1.1 e.1.2 ∧ ∀ j, j < e.2 → ¬ Rn ds T P j e.1.1 e.1.2
theorem moreN_mem {ds : List Dr} {T n : Nat} {P : Nat → Nat → Prop} {g : List ((Nat × Nat) × Nat)} (h : LI ds T P n g) (q : Nat × Nat) : q ∈ moreN g T ds ↔ Giv ds T (Rn ds T P n) q.1 q.2 ∧ ¬ Rn ds T P n q.1 q.2 := by
  unfold moreN
  rw [List.mem_filter, lgN_mem, decide_eq_true_iff]
  have e1 : (fun t r => (t, r) ∈ keysQ g) = Rn ds T P n := funext fun k => funext fun r => propext (h.on k r)
  rw [e1]
  exact and_congr_right fun _ => not_congr (h.on q.1 q.2)
theorem LI.next {ds : List Dr} {T n : Nat} {P : Nat → Nat → Prop} {g : List ((Nat × Nat) × Nat)} (h : LI ds T P n g) : LI ds T P (n + 1) (putsQ (n + 1) g (moreN g T ds)) := by
  refine ⟨fun k r => ?_, putsQ_nodup _ _ _ h.nd, fun e he => ?_⟩
  · rw [putsQ_keys, moreN_mem h, h.on]
    show _ ↔ Rn ds T P n k r ∨ Giv ds T (Rn ds T P n) k r
    constructor
    · rintro (w | w)
      · exact .inl w
      · exact .inr w.1
    · rintro (w | w)
      · exact .inl w
      · by_cases z : Rn ds T P n k r
        · exact .inl z
        · exact .inr ⟨w, z⟩
  · rcases putsQ_mem _ _ _ _ he with w | ⟨w1, w2⟩
    · exact h.val e w
    · obtain ⟨a, b⟩ := (moreN_mem h _).mp w1
      rw [w2]
      exact ⟨.inr a, fun j hj z => b (Rn_up (by omega) z)⟩
theorem LI.last {ds : List Dr} {T n : Nat} {P : Nat → Nat → Prop} {g : List ((Nat × Nat) × Nat)} (h : LI ds T P n g) (hm : moreN g T ds = []) (k r : Nat) : (k, r) ∈ keysQ g ↔ Lt ds T P k r := by
  rw [Lt_of_kept (n := n) (fun k r w => ?_) k r, h.on]
  refine Classical.byContradiction fun z => ?_
  have := (moreN_mem h (k, r)).mpr ⟨w, z⟩
  rw [hm] at this
  exact nomatch this
theorem LI.len {N : Nat} {ds : List Dr} {T n : Nat} {P : Nat → Nat → Prop} {g : List ((Nat × Nat) × Nat)} (h : LI ds T P n g) (hd : ∀ d ∈ ds, d.room.toNat < N) (hP : ∀ k r, P k r → k < T ∧ r < N) : g.length ≤ T * N := by
  have hin : ∀ q ∈ keysQ g, q.1 < T ∧ q.2 < N := fun q hq => Rn_in hd hP n q.1 q.2 ((h.on q.1 q.2).mp hq)
  have hn : ((keysQ g).map fun q => q.1 * N + q.2).Nodup := by
    refine List.pairwise_map.mpr (h.nd.imp_of_mem fun {a b} ha hb hab e => hab ?_)
    have h1 := (hin a ha).2
    have h2 := (hin b hb).2
    have e1 : (a.1 * N + a.2) / N = a.1 := by rw [Nat.mul_comm, Nat.mul_add_div (by omega), Nat.div_eq_of_lt h1, Nat.add_zero]
    have e2 : (b.1 * N + b.2) / N = b.1 := by rw [Nat.mul_comm, Nat.mul_add_div (by omega), Nat.div_eq_of_lt h2, Nat.add_zero]
    have e3 : a.1 = b.1 := by rw [← e1, ← e2, e]
    refine Prod.ext e3 ?_
    rw [e3] at e
    omega
  have := nodup_below (T * N) _ hn fun x hx => by
    obtain ⟨q, hq, rfl⟩ := List.mem_map.mp hx
    obtain ⟨h1, h2⟩ := hin q hq
    have : (q.1 + 1) * N ≤ T * N := Nat.mul_le_mul_right N h1
    rw [Nat.succ_mul] at this
    omega
  rw [List.length_map] at this
  unfold keysQ at this
  rwa [List.length_map] at this
theorem LI.more {ds : List Dr} {T n : Nat} {P : Nat → Nat → Prop} {g : List ((Nat × Nat) × Nat)} (h : LI ds T P n g) (hm : moreN g T ds ≠ []) : g.length < (putsQ (n + 1) g (moreN g T ds)).length := by
  have hq : ∀ q ∈ moreN g T ds, q ∉ keysQ g := fun q hq => by
    unfold moreN at hq
    exact of_decide_eq_true (List.mem_filter.mp hq).2
  revert hm hq
  cases moreN g T ds with
  | nil => exact fun z => absurd rfl z
  | cons q qs =>
    intro _ hq
    have h1 := (putQ_len g q (n + 1)).2.2 (hq q List.mem_cons_self)
    have h2 := (putsQ_len (n + 1) qs (putQ g q (n + 1))).1
    show g.length < (putsQ (n + 1) (putQ g q (n + 1)) qs).length
    omega
def Pr (xss : List (List Int)) (t r : Nat) : Prop := ∃ xs, xss[t]? = some xs ∧ (r : Int) ∈ xs
def initQ : Nat → List (List Int) → List ((Nat × Nat) × Nat) → List ((Nat × Nat) × Nat)
  | _, [], g => g
  | t, xs :: xss, g => initQ (t + 1) xss (xs.foldl (fun g x => putQ g (t, x.toNat) 0) g)
theorem init1_keys (t : Nat) (q : Nat × Nat) : ∀ (xs : List Int) (g : List ((Nat × Nat) × Nat)), q ∈ keysQ (xs.foldl (fun g x => putQ g (t, x.toNat) 0) g) ↔ q ∈ keysQ g ∨ ∃ x ∈ xs, q = (t, x.toNat)
  | [], g => by simp
  | x :: xs, g => by
    rw [List.foldl_cons, init1_keys t q xs, putQ_keys]
    simp only [List.mem_cons, exists_eq_or_imp]
    constructor
    · rintro ((h | h) | h)
      · exact .inr (.inl h)
      · exact .inl h
      · exact .inr (.inr h)
    · rintro (h | h | h)
      · exact .inl (.inr h)
      · exact .inl (.inl h)
      · exact .inr h
theorem initQ_keys (q : Nat × Nat) : ∀ (xss : List (List Int)) (t : Nat) (g : List ((Nat × Nat) × Nat)), q ∈ keysQ (initQ t xss g) ↔ q ∈ keysQ g ∨ ∃ i xs, xss[i]? = some xs ∧ ∃ x ∈ xs, q = (t + i, x.toNat)
  | [], t, g => by simp [initQ]
  | xs :: xss, t, g => by
    show q ∈ keysQ (initQ (t + 1) xss _) ↔ _
    rw [initQ_keys q xss (t + 1), init1_keys]
    constructor
    · rintro ((h | ⟨x, hx, e⟩) | ⟨i, ys, hi, x, hx, e⟩)
      · exact .inl h
      · exact .inr ⟨0, xs, rfl, x, hx, e⟩
      · exact .inr ⟨i + 1, ys, hi, x, hx, by rw [e]; congr 1; omega⟩
    · rintro (h | ⟨i, ys, hi, x, hx, e⟩)
      · exact .inl (.inl h)
      · cases i with
        | zero =>
          cases hi
          exact .inl (.inr ⟨x, hx, e⟩)
        | succ i => exact .inr ⟨i, ys, hi, x, hx, by rw [e]; congr 1; omega⟩
theorem init1_inv (C : List ((Nat × Nat) × Nat) → Prop) (h : ∀ g q, C g → C (putQ g q 0)) (t : Nat) : ∀ (xs : List Int) (g : List ((Nat × Nat) × Nat)), C g → C (xs.foldl (fun g x => putQ g (t, x.toNat) 0) g)
  | [], _, w => w
  | x :: xs, g, w => init1_inv C h t xs _ (h g _ w)
theorem initQ_inv (C : List ((Nat × Nat) × Nat) → Prop) (h : ∀ g q, C g → C (putQ g q 0)) : ∀ (xss : List (List Int)) (t : Nat) (g : List ((Nat × Nat) × Nat)), C g → C (initQ t xss g)
  | [], _, _, w => w
  | xs :: xss, t, g, w => initQ_inv C h xss (t + 1) _ (init1_inv C h t xs g w)
theorem init_LI (ds : List Dr) (xss : List (List Int)) (hx : ∀ xs ∈ xss, ∀ x ∈ xs, 0 ≤ x) : LI ds xss.length (Pr xss) 0 (initQ 0 xss []) := by
  have hk : ∀ k r, (k, r) ∈ keysQ (initQ 0 xss []) ↔ Pr xss k r := fun k r => by
    rw [initQ_keys]
    unfold Pr
    constructor
    · rintro (w | ⟨i, xs, hi, x, hx', e⟩)
      · exact nomatch w
      · cases e
        have := hx xs (List.mem_of_getElem? hi) x hx'
        rw [Nat.zero_add]
        exact ⟨xs, hi, by rw [Int.toNat_of_nonneg this]; exact hx'⟩
    · rintro ⟨xs, hi, w⟩
      exact .inr ⟨k, xs, hi, _, w, by rw [Nat.zero_add, Int.toNat_natCast]⟩
  refine ⟨hk, initQ_inv (fun g => (keysQ g).Nodup) (fun g q => putQ_nodup) xss 0 [] .nil, fun e he => ?_⟩
  have hv : ∀ e ∈ initQ 0 xss [], e.2 = 0 := initQ_inv (fun g => ∀ e ∈ g, e.2 = 0) (fun g q w e he => by
    rcases putQ_mem he with z | z
    · exact w e z
    · rw [z]) xss 0 [] (fun _ w => nomatch w)
  rw [hv e he]
  refine ⟨(hk _ _).mp ?_, fun j hj => absurd hj (by omega)⟩
  exact List.mem_map.mpr ⟨e, he, rfl⟩
open Classical in
noncomputable def litL (N T : Nat) (S : Nat → Nat → Prop) : List (List Nat) := (List.range T).map fun t => (List.range N).filter fun r => decide (S t r)
theorem rise_eq : ∀ {xs ys : List Nat}, xs.Pairwise (· < ·) → ys.Pairwise (· < ·) → (∀ n, n ∈ xs ↔ n ∈ ys) → xs = ys
  | [], [], _, _, _ => rfl
  | [], y :: ys, _, _, h => absurd ((h y).mpr List.mem_cons_self) (by simp)
  | x :: xs, [], _, _, h => absurd ((h x).mp List.mem_cons_self) (by simp)
  | x :: xs, y :: ys, hx, hy, h => by
    obtain ⟨a1, a2⟩ := List.pairwise_cons.mp hx
    obtain ⟨b1, b2⟩ := List.pairwise_cons.mp hy
    have e : x = y := by
      have h1 := (h x).mp List.mem_cons_self
      have h2 := (h y).mpr List.mem_cons_self
      rcases List.mem_cons.mp h1 with w | w
      · exact w
      · rcases List.mem_cons.mp h2 with z | z
        · exact z.symm
        · have := a1 y z
          have := b1 x w
          omega
    subst e
    rw [rise_eq a2 b2 fun n => ?_]
    have := h n
    rw [List.mem_cons, List.mem_cons] at this
    constructor
    · intro w
      rcases this.mp (.inr w) with z | z
      · have := a1 n w
        omega
      · exact z
    · intro w
      rcases this.mpr (.inr w) with z | z
      · have := b1 n w
        omega
      · exact z
open Classical in
theorem bits_lit {N m : Nat} {S : Nat → Prop} (hN : N ≤ 999) (hm : m < 2 ^ N) (h : ∀ r, m.testBit r = true ↔ S r) : bitsN m = (List.range N).filter fun r => decide (S r) := by
  have hm' : m < 2 ^ 999 := Nat.lt_of_lt_of_le hm (Nat.pow_le_pow_right (by decide) hN)
  refine rise_eq (bitsN_rise m) (List.pairwise_lt_range.filter _) fun n => ?_
  rw [bitsN_mem hm', List.mem_filter, List.mem_range, decide_eq_true_iff, h]
  refine ⟨fun w => ⟨?_, w⟩, fun w => w.2⟩
  refine Classical.byContradiction fun z => ?_
  have h1 := (h n).mpr w
  have h2 := Nat.testBit_lt_two_pow (Nat.lt_of_lt_of_le hm (Nat.pow_le_pow_right (by decide) (Nat.le_of_not_lt z)))
  rw [h1] at h2
  exact nomatch h2
def WV (ds : List Dr) (T : Nat) (P : Nat → Nat → Prop) (n : Nat) (w : List (Nat × Nat)) : Prop := ∀ q ∈ w, q.1 < T ∧ ∀ r, q.2.testBit r = true → Rn ds T P n q.1 r ∧ ∀ j, j < n → ¬ Rn ds T P j q.1 r
def WS (ds : List Dr) (T : Nat) (P : Nat → Nat → Prop) (ws : List (List (Nat × Nat))) : Prop := ∀ i w, ws[i]? = some w → WV ds T P i w
theorem WS.add {ds : List Dr} {T : Nat} {P : Nat → Nat → Prop} {ws : List (List (Nat × Nat))} {w : List (Nat × Nat)} (h : WS ds T P ws) (hw : WV ds T P ws.length w) : WS ds T P (ws ++ [w]) := fun i v e => by
  rw [List.getElem?_append] at e
  split at e
  · exact h i v e
  · next hi =>
    have : i - ws.length = 0 := by
      refine Classical.byContradiction fun z => ?_
      rw [List.getElem?_eq_none (by rw [List.length_singleton]; omega)] at e
      exact nomatch e
    rw [this] at e
    cases e
    rw [show i = ws.length by omega]
    exact hw
theorem WI.wv {ds : List Dr} {T n : Nat} {P : Nat → Nat → Prop} {lit : List Nat} {wave : List (Nat × Nat)} (h : WI ds T P n lit wave) : WV ds T P (n + 1) (nextW (doorsN ds T) lit wave) := fun q hq => by
  obtain ⟨h1, h2, h3⟩ := nextW_mem hq
  refine ⟨by rw [← h.len]; exact h1, fun r hr => ?_⟩
  rw [h2] at hr
  obtain ⟨a, b⟩ := (newAt_bit _ _ _ _).mp hr
  have hb := (h.next.on q.1 r).mp ((next_on _ _ _ _ _).mpr (.inr a))
  exact ⟨hb, fun j hj z => b ((h.on _ _).mpr (Rn_up (by omega) z))⟩
def unionW (T : Nat) (ws : List (List (Nat × Nat))) : List Nat := ws.foldl (fun l w => w.foldl orAt l) (zeros T)
theorem unionW_add (T : Nat) (ws : List (List (Nat × Nat))) (w : List (Nat × Nat)) : unionW T (ws ++ [w]) = w.foldl orAt (unionW T ws) := by
  unfold unionW
  rw [List.foldl_append]
  rfl
theorem on_ext {a b : List Nat} (hl : a.length = b.length) (h : ∀ k r, On a k r ↔ On b k r) : a = b := by
  refine List.ext_getElem hl fun k h1 h2 => Nat.eq_of_testBit_eq fun r => ?_
  have := h k r
  unfold On at this
  rw [List.getD_eq_getElem?_getD, List.getD_eq_getElem?_getD, List.getElem?_eq_getElem h1, List.getElem?_eq_getElem h2] at this
  exact Bool.eq_iff_iff.mpr this
def enumN (ms : List Nat) : List (Nat × Nat) := ms.zipIdx.map fun p => (p.2, p.1)
theorem enumN_mem {ms : List Nat} {q : Nat × Nat} : q ∈ enumN ms ↔ ms[q.1]? = some q.2 := by
  unfold enumN
  rw [List.mem_map]
  constructor
  · rintro ⟨⟨m, i⟩, h, rfl⟩
    exact List.mem_zipIdx_iff_getElem?.mp h
  · intro h
    exact ⟨(q.2, q.1), List.mem_zipIdx_iff_getElem?.mpr h, rfl⟩
theorem enumN_len (ms : List Nat) : (enumN ms).length = ms.length := by
  unfold enumN
  rw [List.length_map, List.length_zipIdx]
theorem enumN_in {ms : List Nat} {q : Nat × Nat} (h : q ∈ enumN ms) : q.1 < ms.length := by
  have := enumN_mem.mp h
  exact (List.getElem?_eq_some_iff.mp this).1
theorem zeros_len (n : Nat) : (zeros n).length = n := List.length_replicate
theorem start_union (ms : List Nat) : unionW ms.length [enumN ms] = ms := by
  show (enumN ms).foldl orAt (zeros ms.length) = ms
  refine on_ext (by rw [foldl_orAt_len, zeros_len]) fun k r => ?_
  rw [ors_on k r _ _ fun q hq => by rw [zeros_len]; exact enumN_in hq]
  have z : ¬ On (zeros ms.length) k r := by
    unfold On zeros
    rw [List.getD_eq_getElem?_getD, List.getElem?_replicate]
    split <;> simp
  constructor
  · rintro (w | ⟨q, hq, rfl, w⟩)
    · exact absurd w z
    · unfold On
      rw [List.getD_eq_getElem?_getD, enumN_mem.mp hq]
      exact w
  · intro w
    unfold On at w
    rw [List.getD_eq_getElem?_getD] at w
    by_cases hk : k < ms.length
    · rw [List.getElem?_eq_getElem hk] at w
      exact .inr ⟨(k, ms[k]), enumN_mem.mpr (List.getElem?_eq_getElem hk), rfl, w⟩
    · rw [List.getElem?_eq_none (by omega)] at w
      simp at w
theorem start_WI (ds : List Dr) {ms : List Nat} {P : Nat → Nat → Prop} (h : ∀ k r, On ms k r ↔ P k r) : WI ds ms.length P 0 ms (enumN ms) := by
  refine ⟨rfl, h, fun q hq => enumN_in hq, by rw [enumN_len]; exact Nat.le_refl _, fun t ht hw => absurd rfl (hw (t, ms[t]) (enumN_mem.mpr (List.getElem?_eq_getElem ht)))⟩
theorem start_WV (ds : List Dr) {ms : List Nat} {P : Nat → Nat → Prop} (h : ∀ k r, On ms k r ↔ P k r) : WV ds ms.length P 0 (enumN ms) := fun q hq => ⟨enumN_in hq, fun r hr => ⟨(h q.1 r).mp (by
  unfold On
  rw [List.getD_eq_getElem?_getD, enumN_mem.mp hq]
  exact hr), fun j hj => absurd hj (by omega)⟩⟩
def msOf (xss : List (List Int)) : List Nat := xss.map fun xs => maskN (xs.map Int.toNat)
theorem msOf_on {xss : List (List Int)} (h : ∀ xs ∈ xss, ∀ x ∈ xs, 0 ≤ x) (k r : Nat) : On (msOf xss) k r ↔ Pr xss k r := by
  unfold On msOf Pr
  rw [List.getD_eq_getElem?_getD, List.getElem?_map]
  cases e : xss[k]? with
  | none => simp
  | some xs =>
    show (maskN (xs.map Int.toNat)).testBit r = true ↔ _
    unfold maskN
    rw [maskN_bit]
    simp only [Nat.zero_testBit, Bool.false_or, decide_eq_true_eq, List.mem_map, Option.some.injEq, exists_eq_left']
    have hx := h xs (List.mem_of_getElem? e)
    constructor
    · rintro ⟨x, hx', rfl⟩
      rw [Int.toNat_of_nonneg (hx x hx')]
      exact hx'
    · intro w
      exact ⟨r, w, Int.toNat_natCast r⟩
end TD
set_option maxHeartbeats 4000000
namespace TD
open PySem PySem.Spec PyProof.Rows L2
def wfT : En → TR := tVal' (eOp (gB fun i j => decide (j < i)) (eCB gLen (aCons (eVar 3) aNil)) (eC (.int 0)))
theorem wf_test {a b c d e f g : Option PyData} {wave : List (Nat × Nat)} : wfT [a, b, c, some (.list (wavD wave)), d, e, f, g] = .b (!wave.isEmpty) [a, b, c, some (.list (wavD wave)), d, e, f, g] := by
  have hl : (wavD wave).length = wave.length := by unfold wavD; rw [List.length_map]
  have : decide ((0 : Int) < ((wave.length : Nat) : Int)) = !wave.isEmpty := by
    cases wave <;> simp
  simp only [wfT, tVal', eOp, eThen, eCB, aE, aCons, aThen, aNil, eVar, eC, eo, List.getElem?_cons_zero, List.getElem?_cons_succ, gLen, gB, hl, this]
theorem sWhile_go {ft : En → TR} {f : En → SR} {n : Nat} {ρ ρ1 ρ2 : En} (h1 : ft ρ = .b true ρ1) (h2 : f ρ1 = .nx ρ2) : sWhile ft f (n + 1) ρ = sWhile ft f n ρ2 := by
  show (match ft ρ with
    | .b false ρ1 => SR.nx ρ1
    | .b true ρ1 => match f ρ1 with
      | .nx ρ2 => sWhile ft f n ρ2
      | .ct ρ2 => sWhile ft f n ρ2
      | .br ρ2 => .nx ρ2
      | r => r
    | .x c i => .x c i
    | .st => .st) = _
  rw [h1]
  dsimp only
  rw [h2]
theorem sWhile_end {ft : En → TR} {f : En → SR} {n : Nat} {ρ ρ1 : En} (h1 : ft ρ = .b false ρ1) : sWhile ft f (n + 1) ρ = .nx ρ1 := by
  show (match ft ρ with
    | .b false ρ1 => SR.nx ρ1
    | .b true ρ1 => match f ρ1 with
      | .nx ρ2 => sWhile ft f n ρ2
      | .ct ρ2 => sWhile ft f n ρ2
      | .br ρ2 => .nx ρ2
      | r => r
    | .x c i => .x c i
    | .st => .st) = _
  rw [h1]
theorem wf_loop {N T : Nat} {ds : List Dr} {P : Nat → Nat → Prop} {b : Option PyData} (hT : T ≤ 63) (hz : ds.length * T ≤ 80000) (hd : ∀ d ∈ ds, d.room.toNat < N) (hP : ∀ k r, P k r → k < T ∧ r < N) : ∀ (fuel : Nat) (lit : List Nat) (wave : List (Nat × Nat)) (ws : List (List (Nat × Nat))) (z5 z6 z7 : Option PyData), WI ds T P ws.length lit wave → WS ds T P ws → WV ds T P ws.length wave → unionW T (ws ++ [wave]) = lit → ws.length + fuel ≤ 80000 → (if wave = [] then 0 else T * 2 ^ N - lit.sum + 1) < fuel → ∃ (lit' : List Nat) (ws' : List (List (Nat × Nat))) (z5' z6' z7' : Option PyData), sWhile wfT wfB fuel [some (.list (doorsD (doorsN ds T))), b, some (.list (natD lit)), some (.list (wavD wave)), some (.list (wavesD ws)), z5, z6, z7] = .nx [some (.list (doorsD (doorsN ds T))), b, some (.list (natD lit')), some (.list (wavD [])), some (.list (wavesD ws')), z5', z6', z7'] ∧ WI ds T P ws'.length lit' [] ∧ WS ds T P ws' ∧ unionW T ws' = lit' ∧ ws'.length ≤ 80000
  | 0, _, _, _, _, _, _, _, _, _, _, _, h => absurd h (by omega)
  | fuel + 1, lit, wave, ws, z5, z6, z7, hi, hs, hv, hu, hf, hm => by
    have ht := wf_test (a := some (.list (doorsD (doorsN ds T)))) (b := b) (c := some (.list (natD lit))) (d := some (.list (wavesD ws))) (e := z5) (f := z6) (g := z7) (wave := wave)
    by_cases hw : wave = []
    · subst hw
      refine ⟨lit, ws, z5, z6, z7, sWhile_end ht, hi, hs, ?_, by omega⟩
      rw [unionW_add] at hu
      exact hu
    · have he : wave.isEmpty = false := by
        cases wave with
        | nil => exact absurd rfl hw
        | cons _ _ => rfl
      rw [he] at ht
      have hl := hi.len
      have ok := givN_ok (doorsN ds T) lit wave
      obtain ⟨y6, y7, et⟩ := wf_turn (doors := doorsN ds T) (b := b) (z5 := z5) (z6 := z6) (z7 := z7) (lit := lit) (wave := wave) (ws := ws) (M := ds.length) (by unfold doorsN; rw [List.length_replicate, hl]) (by omega) (fun es hes => by
          unfold doorsN at hes
          rw [(List.mem_replicate.mp hes).2, List.length_map]
          exact Nat.le_refl _) (fun q hq => by rw [hl]; exact hi.inn q hq) (by
          have := Nat.mul_le_mul_right ds.length hi.wl
          rw [Nat.mul_comm T] at this
          omega) (by omega) (by have := ok.len; omega) ok.2
      rw [sWhile_go ht et]
      have hi' := hi.next
      have hB := hi'.sum hd hP
      have := wf_loop (b := b) hT hz hd hP fuel _ _ (ws ++ [wave]) (some (.dict (encG (givN (doorsN ds T) lit wave)))) y6 y7 (by rw [List.length_append]; exact hi') (hs.add hv) (by rw [List.length_append]; exact hi.wv) (by rw [unionW_add, hu]) (by rw [List.length_append, List.length_singleton]; omega) (by
        rw [if_neg hw] at hm
        split
        · omega
        · next hn =>
          have := next_sum hn
          omega)
      exact this
theorem enumN_data (ms : List Nat) : enumD (natD ms) = wavD (enumN ms) := by
  unfold enumD natD wavD enumN
  rw [List.map_map]
  refine List.ext_getElem? fun i => ?_
  rw [List.getElem?_map, List.getElem?_map, List.getElem?_zipIdx, List.getElem?_zipIdx, List.getElem?_map]
  cases ms[i]? <;> rfl
theorem waves_from_tells {N T : Nat} {ds : List Dr} {P : Nat → Nat → Prop} {ms : List Nat} (hm : ms.length = T) (hon : ∀ k r, On ms k r ↔ P k r) (hT : T ≤ 63) (hz : ds.length * T ≤ 80000) (hd : ∀ d ∈ ds, d.room.toNat < N) (hP : ∀ k r, P k r → k < T ∧ r < N) (hN : T * 2 ^ N ≤ 990) : ∃ ws : List (List (Nat × Nat)), F_waves_from [.list (doorsD (doorsN ds T)), .list (natD ms)] = .o (.list (wavesD ws)) .none ∧ WI ds T P ws.length (unionW T ws) [] ∧ WS ds T P ws ∧ ws.length ≤ 80000 := by
  subst hm
  obtain ⟨lit', ws', z5, z6, z7, e, h1, h2, h3, h4⟩ := wf_loop (N := N) (T := ms.length) (ds := ds) (P := P) (b := some (.list (natD ms))) hT hz hd hP 1000 ms (enumN ms) [] none none none (start_WI ds hon) (fun i w h => nomatch h) (start_WV ds hon) (start_union ms) (by decide) (by split <;> omega)
  refine ⟨ws', ?_, by rw [h3]; exact h1, h2, h4⟩
  have s1 : sAsgO 2 (eListOf (eVar 1)) [some (.list (doorsD (doorsN ds ms.length))), some (.list (natD ms)), none, none, none, none, none, none] = .nx [some (.list (doorsD (doorsN ds ms.length))), some (.list (natD ms)), some (.list (natD ms)), none, none, none, none, none] := rfl
  have s2 : sAsg (eFz (eListEnO 2)) (gN 3) [some (.list (doorsD (doorsN ds ms.length))), some (.list (natD ms)), some (.list (natD ms)), none, none, none, none, none] = .nx [some (.list (doorsD (doorsN ds ms.length))), some (.list (natD ms)), some (.list (natD ms)), some (.list (wavD (enumN ms))), none, none, none, none] := by
    rw [← enumN_data]
    rfl
  have s3 : sAsgO 4 (eLst aNil) [some (.list (doorsD (doorsN ds ms.length))), some (.list (natD ms)), some (.list (natD ms)), some (.list (wavD (enumN ms))), none, none, none, none] = .nx [some (.list (doorsD (doorsN ds ms.length))), some (.list (natD ms)), some (.list (natD ms)), some (.list (wavD (enumN ms))), some (.list (wavesD [])), none, none, none] := rfl
  show finY none (sSeq (sAsgO 2 (eListOf (eVar 1))) (sSeq (sAsg (eFz (eListEnO 2)) (gN 3)) (sSeq (sAsgO 4 (eLst aNil)) (sSeq (sWhile wfT wfB 1000) (sRet (eMove 4))))) [some (.list (doorsD (doorsN ds ms.length))), some (.list (natD ms)), none, none, none, none, none, none]) = _
  unfold sSeq
  rw [s1]
  dsimp only
  rw [s2]
  dsimp only
  rw [s3]
  dsimp only
  rw [e]
  rfl
end TD
set_option maxHeartbeats 4000000
namespace TD
open PySem PySem.Spec PyProof.Rows L2
def histD (hs : List (List Nat)) : List PyData := hs.map fun h => .list (natD h)
def FitP (n : Nat) (xss : List (List Int)) : Prop := ∀ xs ∈ xss, xs.Sublist (below n)
theorem below_mem {n : Nat} {x : Int} : x ∈ below n ↔ 0 ≤ x ∧ x < n := by
  unfold below
  rw [List.mem_map]
  constructor
  · rintro ⟨i, hi, rfl⟩
    have := List.mem_range.mp hi
    omega
  · rintro ⟨h1, h2⟩
    exact ⟨x.toNat, List.mem_range.mpr (by omega), Int.toNat_of_nonneg h1⟩
theorem FitP.pos {n : Nat} {xss : List (List Int)} (h : FitP n xss) : ∀ xs ∈ xss, ∀ x ∈ xs, 0 ≤ x := fun xs hxs x hx => (below_mem.mp ((h xs hxs).subset hx)).1
theorem FitP.pr {n : Nat} {xss : List (List Int)} (h : FitP n xss) (k r : Nat) (w : Pr xss k r) : k < xss.length ∧ r < n := by
  obtain ⟨xs, e, hx⟩ := w
  refine ⟨(List.getElem?_eq_some_iff.mp e).1, ?_⟩
  have := below_mem.mp ((h xs (List.mem_of_getElem? e)).subset hx)
  omega
theorem rooms_in {n : Nat} {ds : List Dr} (h : ∀ d ∈ ds, d.Fit n) : ∀ d ∈ ds, d.room.toNat < n := fun d hd => by
  have := (h d hd).2.1
  omega
theorem waves_of_tells {n : Nat} {ds : List Dr} {xss : List (List Int)} (hn : n ≤ 999) (hd : ∀ d ∈ ds, d.Fit n) (hx : FitP n xss) (hT : xss.length ≤ 63) (hz : ds.length * xss.length ≤ 80000) (hl : ds.length ≤ 40000) (hN : xss.length * 2 ^ n ≤ 990) : ∃ ws : List (List (Nat × Nat)), F_waves_of [encL n ds, .list (encP xss)] = .o (.list (wavesD ws)) .none ∧ WI ds xss.length (Pr xss) ws.length (unionW xss.length ws) [] ∧ WS ds xss.length (Pr xss) ws ∧ ws.length ≤ 80000 := by
  have ml : (msOf xss).length = xss.length := by unfold msOf; rw [List.length_map]
  obtain ⟨ws, e, h1, h2, h3⟩ := waves_from_tells (N := n) (T := xss.length) (ds := ds) (P := Pr xss) ml (msOf_on hx.pos) hT hz (rooms_in hd) hx.pr hN
  refine ⟨ws, ?_, h1, h2, h3⟩
  have dm := door_masks_tells (n := n) (ds := ds) (by omega) hd hl
  have hlen : (encP xss).length ≤ 40000 := by unfold encP; rw [List.length_map]; omega
  have i1 : lcItems [3] (gN 3) tYesZ (eVar 2) (encP xss) [some (encL n ds), some (.list (encP xss)), some (.list (ds.map fun d => (dmOf d).enc)), none, none] = some (doorsD (doorsN ds xss.length), [some (encL n ds), some (.list (encP xss)), some (.list (ds.map fun d => (dmOf d).enc)), none, none]) := by
    have := lc_map (vs := [3]) (gz := gN 3) (ft := tYesZ) (fe := eVar 2) (ρ := [some (encL n ds), some (.list (encP xss)), some (.list (ds.map fun d => (dmOf d).enc)), none, none]) (fun xs : List Int => PyData.list (xs.map PyData.int)) (fun _ => PyData.list (ds.map fun d => (dmOf d).enc)) xss fun xs _ => ⟨_, rfl, _, rfl, _, rfl, rfl⟩
    rw [List.map_const'] at this
    rw [show doorsD (doorsN ds xss.length) = List.replicate xss.length (.list (ds.map fun d => (dmOf d).enc)) by
      unfold doorsD doorsN
      rw [List.map_replicate, List.map_map]
      rfl]
    exact this
  have i2 : lcItems [4] (gN 4) tYesZ (eFz (eCall F_mask_of [.d] (aCons (eVar 4) aNil))) (encP xss) [some (encL n ds), some (.list (encP xss)), some (.list (ds.map fun d => (dmOf d).enc)), none, none] = some (natD (msOf xss), [some (encL n ds), some (.list (encP xss)), some (.list (ds.map fun d => (dmOf d).enc)), none, none]) := by
    have := lc_map (vs := [4]) (gz := gN 4) (ft := tYesZ) (fe := eFz (eCall F_mask_of [.d] (aCons (eVar 4) aNil))) (ρ := [some (encL n ds), some (.list (encP xss)), some (.list (ds.map fun d => (dmOf d).enc)), none, none]) (fun xs : List Int => PyData.list (xs.map PyData.int)) (fun xs => PyData.int (maskN (xs.map Int.toNat) : Nat)) xss fun xs hxs => by
      obtain ⟨e1, e2⟩ := nat_of_below (hx xs hxs)
      have mt := mask_tells (xs := xs.map Int.toNat) fun k hk => by have := e2 k hk; omega
      rw [← e1] at mt
      exact ⟨_, rfl, _, rfl, _, zFzV (zCallV (zOne (zVar rfl)) mt), rfl⟩
    rw [show natD (msOf xss) = xss.map fun xs => PyData.int (maskN (xs.map Int.toNat) : Nat) by
      unfold natD msOf
      rw [List.map_map]
      rfl]
    exact this
  refine zFn rfl ?_
  have body : sSeq (sAsg (eFz (eCall F_door_masks [.s 0] (aCons (eVar 0) aNil))) (gN 2)) (sRet (eCall F_waves_from [.d, .d] (aCons (eFz (eLc (iL (eVar 1)) [3] (gN 3) tYesZ (eVar 2))) (aCons (eFz (eLc (iL (eVar 1)) [4] (gN 4) tYesZ (eFz (eCall F_mask_of [.d] (aCons (eVar 4) aNil))))) aNil)))) [some (encL n ds), some (.list (encP xss)), none, none, none] = .reto (.list (wavesD ws)) [some (encL n ds), some (.list (encP xss)), some (.list (ds.map fun d => (dmOf d).enc)), none, none] :=
    zSeq (zAsgN (zFzL (zCallO (zOne (zVar rfl)) dm))) (zRetO (zCallO (zTwo (zFzL (zLc (zL (zVar rfl)) hlen i1)) (zFzL (zLc (zL (zVar rfl)) hlen i2))) e))
  exact congrArg (finY none) body
def lightN (ds : List Dr) (xss : List (List Int)) (lit : List Nat) : Prop := lit.length = xss.length ∧ ∀ k r, On lit k r ↔ Lt ds xss.length (Pr xss) k r
theorem light_masks_tells {n : Nat} {ds : List Dr} {xss : List (List Int)} (hn : n ≤ 999) (hd : ∀ d ∈ ds, d.Fit n) (hx : FitP n xss) (hT : xss.length ≤ 63) (hz : ds.length * xss.length ≤ 80000) (hl : ds.length ≤ 40000) (hN : xss.length * 2 ^ n ≤ 990) : ∃ lit : List Nat, F_light_masks [encL n ds, .list (encP xss)] = .o (.list (natD lit)) .none ∧ lightN ds xss lit ∧ ∀ m ∈ lit, m < 2 ^ n := by
  obtain ⟨ws, e, h1, h2, h3⟩ := waves_of_tells hn hd hx hT hz hl hN
  refine ⟨unionW xss.length ws, ?_, ⟨h1.len, fun k r => h1.last k r⟩, h1.small (rooms_in hd) hx.pr⟩
  have hm := masks_of_waves_tells (n := xss.length) (ws := ws) (by omega) fun w hw q hq => by
    obtain ⟨i, hi⟩ := List.mem_iff_getElem?.mp hw
    exact (h2 i w hi q hq).1
  have hlen : (encP xss).length = xss.length := by unfold encP; rw [List.length_map]
  refine zFn rfl ?_
  have body : sRet (eCall F_masks_of_waves [.d, .d] (aCons (eCB gLen (aCons (eVar 1) aNil)) (aCons (eFz (eCall F_waves_of [.s 0, .s 1] (aCons (eVar 0) (aCons (eVar 1) aNil)))) aNil))) [some (encL n ds), some (.list (encP xss))] = .reto (.list (natD (unionW xss.length ws))) [some (encL n ds), some (.list (encP xss))] :=
    zRetO (zCallO (zTwo (zCB (zOne (zVar rfl)) rfl) (zFzL (zCallO (zTwo (zVar rfl) (zVar rfl)) e))) (by rw [hlen]; exact hm))
  exact congrArg (finY none) body
end TD
set_option maxHeartbeats 4000000
namespace TD
open PySem PySem.Spec PyProof.Rows L2
theorem below_pw (n : Nat) : (below n).Pairwise (· < ·) := by
  unfold below
  refine List.pairwise_map.mpr (List.pairwise_lt_range.imp fun {a b} h => ?_)
  omega
theorem sub_pw {n : Nat} {xs : List Int} (h : xs.Sublist (below n)) : xs.Pairwise (· < ·) := (below_pw n).sublist h
theorem asc_of {r : Int} : ∀ {a : Int} {xs : List Int}, xs.Pairwise (· < ·) → (∀ x ∈ xs, 0 ≤ x ∧ x < r ∧ a < x) → asc r a (xs.map PyData.int) = true
  | _, [], _, _ => rfl
  | a, x :: xs, h, hi => by
    obtain ⟨h1, h2⟩ := List.pairwise_cons.mp h
    have := hi x List.mem_cons_self
    show ((decide (0 ≤ x) && decide (x < r)) && (decide (a < x) && asc r x (xs.map PyData.int))) = true
    simp only [Bool.and_eq_true, decide_eq_true_eq]
    exact ⟨⟨this.1, this.2.1⟩, this.2.2, asc_of h2 fun y hy => by
      have := hi y (List.mem_cons_of_mem _ hy)
      exact ⟨this.1, this.2.1, h1 y hy⟩⟩
theorem fits_lights {n : Nat} {xs : List Int} (h : xs.Sublist (below n)) : fitsLights (n : Int) (.list (xs.map PyData.int)) = true := asc_of (sub_pw h) fun x hx => by
  have := below_mem.mp (h.subset hx)
  omega
theorem fits_presses {n : Nat} {xss : List (List Int)} (h : FitP n xss) : fitsPresses (n : Int) (.list (encP xss)) = true := by
  show (encP xss).all (fitsLights (n : Int)) = true
  unfold encP
  rw [List.all_eq_true]
  intro d hd
  obtain ⟨xs, hxs, rfl⟩ := List.mem_map.mp hd
  exact fits_lights (h xs hxs)
theorem fits_lev {n : Nat} {ds : List Dr} (hn : 1 ≤ n) (h : ∀ d ∈ ds, d.Fit n) : fitsLevel (encL n ds) = true := by
  show (decide (1 ≤ (n : Int)) && (ds.map Dr.enc).all (fitsDoor (n : Int))) = true
  rw [decide_eq_true (show (1 : Int) ≤ n by omega), Bool.true_and, List.all_eq_true]
  intro d hd
  obtain ⟨q, hq, rfl⟩ := List.mem_map.mp hd
  obtain ⟨h1, h2, h3⟩ := h q hq
  show (fitsLights (n : Int) (.list (q.needs.map PyData.int)) && ((decide (0 ≤ q.room) && decide (q.room < n)) && (decide (-1 ≤ q.shift) && decide (q.shift ≤ 1)))) = true
  rw [fits_lights h1, decide_eq_true h2.1, decide_eq_true h2.2, decide_eq_true h3.1, decide_eq_true h3.2]
  rfl
theorem check_level_tells {n : Nat} {ds : List Dr} (hn : 1 ≤ n) (h : ∀ d ∈ ds, d.Fit n) (hl : ds.length ≤ 30000) : F_check_level [encL n ds] = .v .none .none := by
  have g : gFitsLevel [encL n ds] = some (.bool true) := by
    show (match decide ((ds.map Dr.enc).length ≤ 30000) with
      | true => some (PyData.bool (fitsLevel (encL n ds)))
      | false => none) = _
    rw [decide_eq_true (by rw [List.length_map]; exact hl), fits_lev hn h]
  have body : sIf (tNotZ (tVal' (eCB gFitsLevel (aCons (eVar 0) aNil)))) sNo sNext [some (encL n ds)] = .nx [some (encL n ds)] := zSIfF (zNot (zVal (zCB (zOne (zVar rfl)) g))) rfl
  exact zFn rfl (congrArg (finY none) body)
theorem check_presses_tells {n : Nat} {ds : List Dr} {xss : List (List Int)} (h : FitP n xss) (hl : xss.length ≤ 30000) : F_check_presses [encL n ds, .list (encP xss)] = .v .none .none := by
  have g : gFitsPresses [.int (n : Nat), .list (encP xss)] = some (.bool true) := by
    show (match decide ((encP xss).length ≤ 30000) with
      | true => some (PyData.bool (fitsPresses (n : Int) (.list (encP xss))))
      | false => none) = _
    rw [decide_eq_true (by unfold encP; rw [List.length_map]; exact hl), fits_presses h]
  have body : sIf (tNotZ (tVal' (eCB gFitsPresses (aCons (eOp gIxT (eVar 0) (eC (.int 0))) (aCons (eVar 1) aNil))))) sNo sNext [some (encL n ds), some (.list (encP xss))] = .nx [some (encL n ds), some (.list (encP xss))] := zSIfF (zNot (zVal (zCB (zTwo (zOp (zVar rfl) rfl rfl) (zVar rfl)) g))) rfl
  exact zFn rfl (congrArg (finY none) body)
structure Good (n : Nat) (ds : List Dr) (xss : List (List Int)) : Prop where
  n1 : 1 ≤ n
  n2 : n ≤ 29
  fd : ∀ d ∈ ds, d.Fit n
  fx : FitP n xss
  dl : ds.length ≤ 500
  tl : xss.length ≤ 63
  fuel : xss.length * 2 ^ n ≤ 990
theorem Good.z {n : Nat} {ds : List Dr} {xss : List (List Int)} (h : Good n ds xss) : ds.length * xss.length ≤ 80000 := by
  have h1 := h.dl
  have h2 := h.tl
  have := Nat.mul_le_mul h1 h2
  omega
theorem Good.masks {n : Nat} {ds : List Dr} {xss : List (List Int)} (h : Good n ds xss) : ∃ lit : List Nat, F_light_masks [encL n ds, .list (encP xss)] = .o (.list (natD lit)) .none ∧ lightN ds xss lit ∧ ∀ m ∈ lit, m < 2 ^ n := light_masks_tells (by have := h.n2; omega) h.fd h.fx h.tl h.z (by have := h.dl; omega) h.fuel
abbrev LtX (ds : List Dr) (xss : List (List Int)) : Nat → Nat → Prop := Lt ds xss.length (Pr xss)
theorem list_range (xs : List Nat) : xs = (List.range xs.length).map fun t => xs.getD t 0 := by
  refine List.ext_getElem? fun i => ?_
  rw [List.getElem?_map]
  by_cases h : i < xs.length
  · rw [List.getElem?_range h]
    show _ = some (xs.getD i 0)
    rw [List.getD_eq_getElem?_getD, List.getElem?_eq_getElem h]
    rfl
  · rw [List.getElem?_eq_none (by omega), List.getElem?_eq_none (show (List.range xs.length).length ≤ i by rw [List.length_range]; omega)]
    rfl
theorem lit_bits {n T : Nat} {lit : List Nat} {S : Nat → Nat → Prop} (hl : lit.length = T) (hn : n ≤ 999) (hm : ∀ m ∈ lit, m < 2 ^ n) (h : ∀ k r, On lit k r ↔ S k r) : lit.map bitsN = litL n T S := by
  conv => lhs; rw [list_range lit]
  unfold litL
  rw [List.map_map, hl]
  refine List.map_congr_left fun t ht => ?_
  have ht := List.mem_range.mp ht
  refine bits_lit hn ?_ (h t)
  refine hm _ ?_
  show lit.getD t 0 ∈ lit
  rw [List.getD_eq_getElem?_getD, List.getElem?_eq_getElem (by omega)]
  exact List.getElem_mem _
theorem lcR_map {α : Type} {gz : PyData → En → Option En} {ft : En → TR} {fe : En → ER} {ρ : En} {vs : List Nat} (enc : α → PyData) (f : α → List PyData) : ∀ xs : List α, (∀ x ∈ xs, ∃ ρ1, gz (enc x) ρ = some ρ1 ∧ ∃ ρ2, ft ρ1 = .b true ρ2 ∧ ∃ ρ3, fe ρ2 = .o (.list (f x)) ρ3 ∧ wipeD ρ3 vs = ρ) → lcItR vs gz ft fe (xs.map enc) ρ = some (xs.map f, ρ)
  | [], _ => rfl
  | x :: xs, h => by
    obtain ⟨ρ1, e1, ρ2, e2, ρ3, e3, e4⟩ := h x List.mem_cons_self
    have ih := lcR_map (gz := gz) (ft := ft) (fe := fe) (ρ := ρ) (vs := vs) enc f xs fun y hy => h y (List.mem_cons_of_mem _ hy)
    rw [List.map_cons, List.map_cons]
    show (match gz (enc x) ρ with
      | none => none
      | some ρ1 => match lcOneR ft fe ρ1 with
        | none => none
        | some (o, ρ2) => match lcItR vs gz ft fe (xs.map enc) (wipeD ρ2 vs) with
          | none => none
          | some (ys, ρ3) => some (match o with
            | some y => y :: ys
            | none => ys, ρ3)) = _
    rw [e1]
    dsimp only
    unfold lcOneR
    rw [e2]
    dsimp only
    rw [e3]
    dsimp only
    rw [e4, ih]
theorem zLcR {fi : En → IRz} {gz : PyData → En → Option En} {ft : En → TR} {fe : En → ER} {ρ ρ1 ρ2 : En} {ds : List PyData} {ys : List (List PyData)} {vs : List Nat} (h1 : fi ρ = .vs ds ρ1) (h2 : ds.length ≤ 40000) (h3 : lcItR vs gz ft fe ds (wipeD ρ1 vs) = some (ys, ρ2)) : eLcR fi vs gz ft fe ρ = .o (rD ys) ρ2 := by
  unfold eLcR
  rw [h1]
  dsimp only
  rw [decide_eq_true h2]
  dsimp only
  rw [h3]
noncomputable def litR (n T : Nat) (S : Nat → Nat → Prop) : List (List PyData) := (litL n T S).map natD
theorem litR_list (n T : Nat) (S : Nat → Nat → Prop) : (litR n T S).map PyData.list = histD (litL n T S) := by
  unfold litR histD
  rw [List.map_map]
  rfl
theorem light_tells {n : Nat} {ds : List Dr} {xss : List (List Int)} (h : Good n ds xss) : F_light [encL n ds, .list (encP xss)] = .o (rD (litR n xss.length (LtX ds xss))) .none := by
  obtain ⟨lit, e, h1, h2⟩ := h.masks
  have c1 := check_level_tells h.n1 h.fd (by have := h.dl; omega)
  have c2 := check_presses_tells (ds := ds) h.fx (by have := h.tl; omega)
  have i1 : lcItR [2] (gN 2) tYesZ (eCall F_lights_of [.d] (aCons (eVar 2) aNil)) (natD lit) [some (encL n ds), some (.list (encP xss)), none] = some (litR n xss.length (LtX ds xss), [some (encL n ds), some (.list (encP xss)), none]) := by
    unfold litR
    rw [← lit_bits h1.1 (by have := h.n2; omega) h2 h1.2, List.map_map]
    exact lcR_map (vs := [2]) (gz := gN 2) (ft := tYesZ) (fe := eCall F_lights_of [.d] (aCons (eVar 2) aNil)) (ρ := [some (encL n ds), some (.list (encP xss)), none]) (fun m : Nat => PyData.int (m : Nat)) (fun m => natD (bitsN m)) lit fun m hm => by
      have lt := lights_tells (m := m) (Nat.lt_of_lt_of_le (h2 m hm) (Nat.pow_le_pow_right (by decide) (by have := h.n2; omega)))
      exact ⟨_, rfl, _, rfl, _, zCallO (zOne (zVar rfl)) lt, rfl⟩
  have ll : (natD lit).length ≤ 40000 := by rw [natD_len, h1.1]; have := h.tl; omega
  exact zFn rfl (congrArg (finY none) (zSeq (zDropV (zFzV (zCallV (zOne (zVar rfl)) c1))) (zSeq (zDropV (zFzV (zCallV (zTwo (zVar rfl) (zVar rfl)) c2))) (zRetO (zLcR (zL (zFzL (zCallO (zTwo (zVar rfl) (zVar rfl)) e))) ll i1)))))
theorem sub_len {n : Nat} {xs : List Int} (h : xs.Sublist (below n)) : xs.length ≤ n := by
  have := h.length_le
  rwa [below_len] at this
theorem range_data (n : Nat) : rgD 0 n = (List.range n).map fun t => PyData.int (t : Nat) := by
  unfold rgD
  refine List.map_congr_left fun i _ => ?_
  show PyData.int (0 + (i : Int)) = PyData.int (i : Int)
  rw [Int.zero_add]
end TD
set_option maxHeartbeats 4000000
namespace TD
open PySem PySem.Spec PyProof.Rows L2
def sp (q : Nat × Nat) : PyData := .tuple [.int (q.1 : Nat), .int (q.2 : Nat)]
theorem wavD_sp (w : List (Nat × Nat)) : wavD w = w.map sp := rfl
def encQ (g : List ((Nat × Nat) × Nat)) : List (PyData × PyData) := g.map fun q => (sp q.1, .int (q.2 : Nat))
def keyQ (q : Nat × Nat) : List Key := [Sum.inl ((q.1 : Nat) : Int), Sum.inl ((q.2 : Nat) : Int)]
theorem key_sp (q : Nat × Nat) : isKeysD (sp q) = some (keyQ q) := rfl
theorem keyQ_inj {p q : Nat × Nat} : keyQ p = keyQ q ↔ p = q := by
  constructor
  · intro h
    unfold keyQ at h
    have h1 := Sum.inl.inj (List.cons.inj h).1
    have h2 := Sum.inl.inj (List.cons.inj (List.cons.inj h).2).1
    exact Prod.ext (by omega) (by omega)
  · intro h
    rw [h]
theorem sp_key {p q : Nat × Nat} : (isKeysD (sp p) = some (keyQ q)) ↔ p = q := by
  rw [key_sp]
  exact ⟨fun h => keyQ_inj.mp (Option.some.inj h), fun h => by rw [h]⟩
theorem look_q (g : List ((Nat × Nat) × Nat)) (q : Nat × Nat) : ∃ o, lookT (encQ g) (sp q) = some o ∧ o.isSome = decide (q ∈ keysQ g) := by
  refine ⟨getBy isKeysD (encQ g) (keyQ q), rfl, ?_⟩
  unfold getBy encQ keysQ
  induction g with
  | nil => rfl
  | cons e g ih =>
    rw [List.map_cons, List.find?_cons, List.map_cons]
    by_cases h : e.1 = q
    · rw [decide_eq_true (sp_key.mpr h)]
      simp [h]
    · rw [decide_eq_false (fun w => h (sp_key.mp w))]
      rw [show (decide (q ∈ e.1 :: g.map (·.1))) = decide (q ∈ g.map (·.1)) from decide_eq_decide.mpr ⟨fun w => (List.mem_cons.mp w).resolve_left fun z => h z.symm, List.mem_cons_of_mem _⟩]
      exact ih
theorem put_q {g : List ((Nat × Nat) × Nat)} {q : Nat × Nat} {v : Nat} : putBy isKeysD encT (encQ g) (keyQ q) (.int (v : Nat)) = encQ (putQ g q v) := by
  have h1 : ((encQ g).any fun e => decide (isKeysD e.1 = some (keyQ q))) = g.any fun e => decide (e.1 = q) := by
    induction g with
    | nil => rfl
    | cons e g ih =>
      show (decide (isKeysD (sp e.1) = _) || (encQ g).any _) = (decide (e.1 = q) || _)
      rw [ih]
      congr 1
      exact decide_eq_decide.mpr sp_key
  unfold putBy putQ
  rw [h1]
  split
  · unfold encQ
    rw [List.map_map, List.map_map]
    refine List.map_congr_left fun e _ => ?_
    show (if isKeysD (sp e.1) = _ then _ else _) = _
    by_cases h : e.1 = q
    · rw [if_pos (sp_key.mpr h)]
      simp [h]
    · rw [if_neg (fun w => h (sp_key.mp w))]
      simp [h]
  · unfold encQ
    rw [List.map_append]
    rfl
theorem putO_q {ρ : En} {i : Nat} {g : List ((Nat × Nat) × Nat)} {q : Nat × Nat} {v : Nat} (h : ρ[i]? = some (some (tD (encQ g)))) (hl : g.length ≤ 90000) : putO i ρ (sp q) (.int (v : Nat)) = some (tD (encQ (putQ g q v))) := by
  unfold putO
  rw [h]
  show (match isKeysD (sp q), decide ((encQ g).length ≤ 90000) with | some k, true => some (tD (putBy isKeysD encT (encQ g) k (.int (v : Nat)))) | _, _ => none) = _
  rw [decide_eq_true (show (encQ g).length ≤ 90000 by unfold encQ; rw [List.length_map]; exact hl)]
  show some (tD (putBy isKeysD encT (encQ g) (keyQ q) (.int (v : Nat)))) = _
  rw [put_q]
theorem lookO_q {ρ : En} {i : Nat} {g : List ((Nat × Nat) × Nat)} {q : Nat × Nat} (h : ρ[i]? = some (some (tD (encQ g)))) : ∃ o, lookO i ρ (sp q) = some o ∧ o.isSome = decide (q ∈ keysQ g) := by
  obtain ⟨o, h1, h2⟩ := look_q g q
  refine ⟨o, ?_, h2⟩
  unfold lookO
  rw [h]
  exact h1
theorem eqv_sp (p q : Nat × Nat) : PyData.eqv (sp p) (sp q) = decide (p = q) := by
  show (((p.1 : Nat) : Int) == ((q.1 : Nat) : Int) && (((p.2 : Nat) : Int) == ((q.2 : Nat) : Int) && true)) = _
  rw [Bool.and_true]
  refine Bool.eq_iff_iff.mpr ?_
  rw [Bool.and_eq_true, beq_iff_eq, beq_iff_eq, decide_eq_true_iff]
  constructor
  · rintro ⟨a, b⟩
    exact Prod.ext (by omega) (by omega)
  · rintro rfl
    exact ⟨rfl, rfl⟩
theorem any_sp (f : List (Nat × Nat)) (q : Nat × Nat) : ((wavD f).any fun z => PyData.eqv z (sp q)) = decide (q ∈ f) := by
  rw [wavD_sp]
  refine Bool.eq_iff_iff.mpr ?_
  rw [List.any_eq_true, decide_eq_true_iff]
  constructor
  · rintro ⟨z, hz, e⟩
    obtain ⟨p, hp, rfl⟩ := List.mem_map.mp hz
    rw [eqv_sp] at e
    rw [← of_decide_eq_true e]
    exact hp
  · intro h
    exact ⟨sp q, List.mem_map.mpr ⟨q, h, rfl⟩, by rw [eqv_sp]; exact decide_eq_true rfl⟩
theorem pl_sp2 {a b : Int} (ha : -1000000 ≤ a ∧ a ≤ 1000000) (hb : -1000000 ≤ b ∧ b ≤ 1000000) : Pl 1 5000 (.tuple [.int a, .int b]) := (pl_tup (n := 2) (pl_cons (pl_int ha) (pl_cons (pl_int hb) pl_nil)) (by simp)).up' (Nat.le_refl _) (by decide)
def Sm2 (f : List (Nat × Nat)) : Prop := ∀ q ∈ f, q.1 ≤ 1000 ∧ q.2 ≤ 1000
theorem Sm2.pl {f : List (Nat × Nat)} (h : Sm2 f) {n : Nat} (hl : f.length ≤ n) : Pl 2 (n * 5002 + 5) (.list (wavD f)) := pl_list (fun d hd => by
  rw [wavD_sp] at hd
  obtain ⟨q, hq, rfl⟩ := List.mem_map.mp hd
  have := h q hq
  exact pl_sp2 (by omega) (by omega)) (by rw [wavD_sp, List.length_map]; exact hl)
def lgC : En → ER := eFz (eLc (iL (eVar 4)) [8] (gN 8) (tVal' (eDInO true 1 (eTup (aCons (eVar 7) (aCons (eVar 8) aNil))))) (eVar 8))
def lgT : En → TR := tAndZ (tVal' (eChain (gB fun i j => decide (i ≤ j)) (gB fun i j => decide (i < j)) (eC (.int 0)) (eOp (gI fun i j => i + j) (eVar 7) (eVar 6)) (eVar 2))) (tAndZ (tVal' (eOp gEqA lgC (eFz (eLst aNil)))) (tVal' (eInO true 3 (eTup (aCons (eOp (gI fun i j => i + j) (eVar 7) (eVar 6)) (aCons (eVar 5) aNil))))))
def lgB : En → SR := sIf lgT (sApp 3 (eTup (aCons (eOp (gI fun i j => i + j) (eVar 7) (eVar 6)) (aCons (eVar 5) aNil)))) sNext
theorem lgv_turn {lv : PyData} {g : List ((Nat × Nat) × Nat)} {T t n : Nat} {f : List (Nat × Nat)} {d : Dr} (hd : d.Fit n) (hn : n ≤ 1000) (ht : t < T) (hT : T ≤ 1000) (hf : Sm2 f) (hl : f.length ≤ 80000) : lgB [some lv, some (tD (encQ g)), some (.int (T : Nat)), some (.list (wavD f)), some (.list (d.needs.map PyData.int)), some (.int d.room), some (.int d.shift), some (.int (t : Nat)), none] = .nx [some lv, some (tD (encQ g)), some (.int (T : Nat)), some (.list (wavD (lgStep (keysQ g) T d f t))), some (.list (d.needs.map PyData.int)), some (.int d.room), some (.int d.shift), some (.int (t : Nat)), none] ∧ Sm2 (lgStep (keysQ g) T d f t) := by
  obtain ⟨d1, d2, d3, d4⟩ := hd
  have hb : ∀ x ∈ d.needs, 0 ≤ x ∧ x < n := fun x hx => below_mem.mp (d1.subset hx)
  let R : En := [some lv, some (tD (encQ g)), some (.int (T : Nat)), some (.list (wavD f)), some (.list (d.needs.map PyData.int)), some (.int d.room), some (.int d.shift), some (.int (t : Nat)), none]
  have items : lcItems [8] (gN 8) (tVal' (eDInO true 1 (eTup (aCons (eVar 7) (aCons (eVar 8) aNil))))) (eVar 8) (d.needs.map PyData.int) R = some ((d.needs.filter fun x => decide ((t, x.toNat) ∉ keysQ g)).map PyData.int, R) := by
    refine lc_pick PyData.int PyData.int _ d.needs fun x hx => ?_
    have h0 := hb x hx
    let R2 : En := [some lv, some (tD (encQ g)), some (.int (T : Nat)), some (.list (wavD f)), some (.list (d.needs.map PyData.int)), some (.int d.room), some (.int d.shift), some (.int (t : Nat)), some (.int x)]
    have e0 : PyData.tuple [.int (t : Nat), .int x] = sp (t, x.toNat) := by
      show _ = PyData.tuple [.int (t : Nat), .int ((x.toNat : Nat) : Int)]
      rw [Int.toNat_of_nonneg h0.1]
    obtain ⟨o, o1, o2⟩ := lookO_q (ρ := R2) (i := 1) (g := g) (q := (t, x.toNat)) rfl
    rw [← e0] at o1
    have tt : tVal' (eDInO true 1 (eTup (aCons (eVar 7) (aCons (eVar 8) aNil)))) R2 = .b (true != o.isSome) R2 := zVal (zDInO (zTup (zTwo (zVar rfl) (zVar rfl)) (Nat.le_of_ble_eq_true rfl)) o1)
    refine ⟨R2, rfl, ?_⟩
    by_cases hk : (t, x.toNat) ∈ keysQ g
    · rw [o2, decide_eq_true hk] at tt
      exact .inl ⟨decide_eq_false (fun w => w hk), R2, tt, rfl⟩
    · rw [o2, decide_eq_false hk] at tt
      exact .inr ⟨decide_eq_true hk, R2, tt, R2, zVar rfl, rfl⟩
  have nl : d.needs.length ≤ 1000 := Nat.le_trans (sub_len d1) hn
  have c1 : lgC R = .v (.list ((d.needs.filter fun x => decide ((t, x.toNat) ∉ keysQ g)).map PyData.int)) R := zFzL (zLc (zL (zVar rfl)) (by rw [List.length_map]; omega) items)
  have c2 : eFz (eLst aNil) R = .v (.list []) R := rfl
  have q1 : Pl 1 (1000 * 2002 + 5) (.list ((d.needs.filter fun x => decide ((t, x.toNat) ∉ keysQ g)).map PyData.int)) := pl_list (fun e he => by
    obtain ⟨x, hx, rfl⟩ := List.mem_map.mp he
    have := hb x (List.mem_filter.mp hx).1
    exact pl_int (by omega)) (by
      rw [List.length_map]
      exact Nat.le_trans (List.length_filter_le _ _) nl)
  have q2 : Pl 1 2007 (.list []) := (pl_list (k := 0) (w := 2000) (n := 1) pl_nil (by simp)).up' (Nat.le_refl _) (by decide)
  have b1 := q1.eqA q2 (by decide) (by decide)
  rw [eqv_nil] at b1
  have s1 : eOp (gI fun i j => i + j) (eVar 7) (eVar 6) R = .v (.int ((t : Int) + d.shift)) R := zOp (zVar rfl) (zVar rfl) rfl
  have s2 : eTup (aCons (eOp (gI fun i j => i + j) (eVar 7) (eVar 6)) (aCons (eVar 5) aNil)) R = .v (.tuple [.int ((t : Int) + d.shift), .int d.room]) R := zTup (zTwo s1 (zVar rfl)) (Nat.le_of_ble_eq_true rfl)
  have p1 : Pl 1 5000 (.tuple [.int ((t : Int) + d.shift), .int d.room]) := pl_sp2 (by omega) (by omega)
  have p2 := hf.pl hl
  have test : lgT R = .b ((decide (0 ≤ (t : Int) + d.shift) && decide ((t : Int) + d.shift < (T : Int))) && (((d.needs.filter fun x => decide ((t, x.toNat) ∉ keysQ g)).map PyData.int).isEmpty && (true != (wavD f).any fun z => PyData.eqv z (.tuple [.int ((t : Int) + d.shift), .int d.room])))) R :=
    zAnd (zVal (zChain rfl s1 rfl (zVar rfl) rfl)) (zAnd (zVal (zOp c1 c2 b1)) (zVal (zInO s2 rfl p1 p2 (by decide) (by decide))))
  have em : ((d.needs.filter fun x => decide ((t, x.toNat) ∉ keysQ g)).map PyData.int).isEmpty = decide (∀ x ∈ d.needs, (t, x.toNat) ∈ keysQ g) := by
    refine Bool.eq_iff_iff.mpr ?_
    rw [List.isEmpty_map, List.isEmpty_iff, List.filter_eq_nil_iff, decide_eq_true_iff]
    exact forall_congr' fun x => forall_congr' fun hx => by
      rw [decide_eq_true_iff]
      exact Classical.not_not
  rw [em] at test
  unfold lgStep
  split
  · next h =>
    obtain ⟨h1, h2, h3⟩ := h
    have e0 : PyData.tuple [.int ((t : Int) + d.shift), .int d.room] = sp (((t : Int) + d.shift).toNat, d.room.toNat) := by
      show _ = PyData.tuple [.int ((((t : Int) + d.shift).toNat : Nat) : Int), .int ((d.room.toNat : Nat) : Int)]
      rw [Int.toNat_of_nonneg h1.1, Int.toNat_of_nonneg d2.1]
    rw [decide_eq_true h1.1, decide_eq_true h1.2, decide_eq_true h2, e0, any_sp, decide_eq_false h3] at test
    rw [e0] at s2
    refine ⟨?_, fun q hq => ?_⟩
    · have ap : sApp 3 (eTup (aCons (eOp (gI fun i j => i + j) (eVar 7) (eVar 6)) (aCons (eVar 5) aNil))) R = .nx [some lv, some (tD (encQ g)), some (.int (T : Nat)), some (.list (wavD (f ++ [(((t : Int) + d.shift).toNat, d.room.toNat)]))), some (.list (d.needs.map PyData.int)), some (.int d.room), some (.int d.shift), some (.int (t : Nat)), none] := by
        rw [show wavD (f ++ [(((t : Int) + d.shift).toNat, d.room.toNat)]) = wavD f ++ [sp (((t : Int) + d.shift).toNat, d.room.toNat)] by rw [wavD_sp, List.map_append]; rfl]
        exact zApp (i := 3) (ρ := R) (xs := wavD f) (show some (wavD f) ≠ none from Option.some_ne_none _) s2 rfl (by rw [wavD_sp, List.length_map]; omega)
      exact zSIfT test ap
    · rcases List.mem_append.mp hq with w | w
      · exact hf q w
      · rw [List.mem_singleton.mp w]
        dsimp only
        omega
  · next h =>
    refine ⟨?_, hf⟩
    have hfalse : ((decide (0 ≤ (t : Int) + d.shift) && decide ((t : Int) + d.shift < (T : Int))) && (decide (∀ x ∈ d.needs, (t, x.toNat) ∈ keysQ g) && (true != (wavD f).any fun z => PyData.eqv z (.tuple [.int ((t : Int) + d.shift), .int d.room])))) = false := by
      refine Bool.eq_false_iff.mpr fun w => h ?_
      simp only [Bool.and_eq_true, decide_eq_true_iff] at w
      obtain ⟨⟨w1, w2⟩, w3, w4⟩ := w
      have e0 : PyData.tuple [.int ((t : Int) + d.shift), .int d.room] = sp (((t : Int) + d.shift).toNat, d.room.toNat) := by
        show _ = PyData.tuple [.int ((((t : Int) + d.shift).toNat : Nat) : Int), .int ((d.room.toNat : Nat) : Int)]
        rw [Int.toNat_of_nonneg w1, Int.toNat_of_nonneg d2.1]
      rw [e0, any_sp] at w4
      refine ⟨⟨w1, w2⟩, w3, fun z => ?_⟩
      rw [decide_eq_true z] at w4
      exact nomatch w4
    rw [hfalse] at test
    exact zSIfF test rfl
theorem lgv_turns {lv : PyData} {g : List ((Nat × Nat) × Nat)} {T n : Nat} {d : Dr} (hd : d.Fit n) (hn : n ≤ 1000) (hT : T ≤ 1000) : ∀ (ts : List Nat) (f : List (Nat × Nat)) (z : Option PyData), (∀ t ∈ ts, t < T) → Sm2 f → f.length + ts.length ≤ 80000 → ∃ z', sTurns (gN 7) lgB (ts.map fun t => PyData.int (t : Nat)) [some lv, some (tD (encQ g)), some (.int (T : Nat)), some (.list (wavD f)), some (.list (d.needs.map PyData.int)), some (.int d.room), some (.int d.shift), z, none] = .nx [some lv, some (tD (encQ g)), some (.int (T : Nat)), some (.list (wavD (ts.foldl (lgStep (keysQ g) T d) f))), some (.list (d.needs.map PyData.int)), some (.int d.room), some (.int d.shift), z', none] ∧ Sm2 (ts.foldl (lgStep (keysQ g) T d) f)
  | [], f, z, _, hf, _ => ⟨z, rfl, hf⟩
  | t :: ts, f, z, ht, hf, hl => by
    rw [List.length_cons] at hl
    obtain ⟨e1, s1⟩ := lgv_turn (lv := lv) (g := g) (f := f) hd hn (ht t List.mem_cons_self) hT hf (by omega)
    have := lgStep_len (keysQ g) T d f t
    obtain ⟨z', e2, s2⟩ := lgv_turns (lv := lv) (g := g) hd hn hT ts (lgStep (keysQ g) T d f t) (some (.int (t : Nat))) (fun u hu => ht u (List.mem_cons_of_mem _ hu)) s1 (by omega)
    exact ⟨z', zTurn rfl e1 e2, s2⟩
theorem lgv_doors {lv : PyData} {g : List ((Nat × Nat) × Nat)} {T n : Nat} (hn : n ≤ 1000) (hT : T ≤ 1000) : ∀ (ds : List Dr) (f : List (Nat × Nat)) (z4 z5 z6 z7 : Option PyData), (∀ d ∈ ds, d.Fit n) → Sm2 f → f.length + ds.length * T ≤ 80000 → ∃ z4' z5' z6' z7', sTurns (gT [gN 4, gN 5, gN 6]) (sFor (iR1 (aCons (eVar 2) aNil)) (gN 7) lgB) (ds.map Dr.enc) [some lv, some (tD (encQ g)), some (.int (T : Nat)), some (.list (wavD f)), z4, z5, z6, z7, none] = .nx [some lv, some (tD (encQ g)), some (.int (T : Nat)), some (.list (wavD (ds.foldl (fun f d => (List.range T).foldl (lgStep (keysQ g) T d) f) f))), z4', z5', z6', z7', none] ∧ Sm2 (ds.foldl (fun f d => (List.range T).foldl (lgStep (keysQ g) T d) f) f)
  | [], f, z4, z5, z6, z7, _, hf, _ => ⟨z4, z5, z6, z7, rfl, hf⟩
  | d :: ds, f, z4, z5, z6, z7, hd, hf, hl => by
    rw [List.length_cons, Nat.succ_mul] at hl
    obtain ⟨z', e1, s1⟩ := lgv_turns (lv := lv) (g := g) (hd d List.mem_cons_self) hn hT (List.range T) f z7 (fun t ht => List.mem_range.mp ht) hf (by rw [List.length_range]; omega)
    have := lgSteps_len (keysQ g) T d (List.range T) f
    rw [List.length_range] at this
    obtain ⟨y4, y5, y6, y7, e2, s2⟩ := lgv_doors (lv := lv) (g := g) hn hT ds _ (some (.list (d.needs.map PyData.int))) (some (.int d.room)) (some (.int d.shift)) z' (fun e he => hd e (List.mem_cons_of_mem _ he)) s1 (by omega)
    refine ⟨y4, y5, y6, y7, ?_, s2⟩
    rw [← range_data] at e1
    exact zTurn rfl (zFor (zR1 (zOne (zVar rfl)) (by omega)) e1) e2
theorem law_given_tells {g : List ((Nat × Nat) × Nat)} {T n : Nat} {ds : List Dr} (hn : n ≤ 1000) (hT : T ≤ 1000) (hd : ∀ d ∈ ds, d.Fit n) (hl : ds.length * T ≤ 80000) : F__law_given [encL n ds, tD (encQ g), .int (T : Nat)] = .o (.list (wavD (lgN (keysQ g) T ds))) (tD (encQ g)) ∧ Sm2 (lgN (keysQ g) T ds) := by
  obtain ⟨y4, y5, y6, y7, e, s⟩ := lgv_doors (lv := encL n ds) (g := g) hn hT ds [] none none none none hd (fun _ w => nomatch w) (by simpa using hl)
  refine ⟨?_, s⟩
  have body : sSeq (sAsgO 3 (eLst aNil)) (sSeq (sFor (iL (eOp gIxT (eVar 0) (eC (.int 1)))) (gT [gN 4, gN 5, gN 6]) (sFor (iR1 (aCons (eVar 2) aNil)) (gN 7) lgB)) (sRet (eMove 3))) [some (encL n ds), some (tD (encQ g)), some (.int (T : Nat)), none, none, none, none, none, none] = .reto (.list (wavD (lgN (keysQ g) T ds))) [some (encL n ds), some (tD (encQ g)), some (.int (T : Nat)), none, y4, y5, y6, y7, none] :=
    zSeq (zAsgO (zLst rfl (Nat.zero_le _))) (zSeq (zFor (zL (zOp (zVar rfl) rfl rfl)) e) (zRetO (zMove rfl)))
  exact zFn rfl (congrArg (finY (some 1)) body)
end TD
set_option maxHeartbeats 4000000
namespace TD
open PySem PySem.Spec PyProof.Rows L2
def roP : En → SR := sDSetO 2 (eTup (aCons (eVar 4) (aCons (eVar 6) aNil))) (eC (.int 0))
theorem ro_press {L P n7 n8 z5 : Option PyData} {t : Nat} : ∀ (xs : List Int) (g : List ((Nat × Nat) × Nat)) (z6 : Option PyData), (∀ x ∈ xs, 0 ≤ x) → g.length + xs.length ≤ 90000 → ∃ z6', sTurns (gN 6) roP (xs.map PyData.int) [L, P, some (tD (encQ g)), some (.int 0), some (.int (t : Nat)), z5, z6, n7, n8] = .nx [L, P, some (tD (encQ (xs.foldl (fun g x => putQ g (t, x.toNat) 0) g))), some (.int 0), some (.int (t : Nat)), z5, z6', n7, n8] ∧ (xs.foldl (fun g x => putQ g (t, x.toNat) 0) g).length ≤ g.length + xs.length
  | [], g, z6, _, _ => ⟨z6, rfl, Nat.le_refl _⟩
  | x :: xs, g, z6, hx, hl => by
    rw [List.length_cons] at hl ⊢
    have h0 := hx x List.mem_cons_self
    have hp := (putQ_len g (t, x.toNat) 0).2.1
    obtain ⟨z6', e2, l2⟩ := ro_press (L := L) (P := P) (n7 := n7) (n8 := n8) (z5 := z5) (t := t) xs (putQ g (t, x.toNat) 0) (some (.int x)) (fun y hy => hx y (List.mem_cons_of_mem _ hy)) (by omega)
    have e0 : PyData.tuple [.int (t : Nat), .int x] = sp (t, x.toNat) := by
      show _ = PyData.tuple [.int (t : Nat), .int ((x.toNat : Nat) : Int)]
      rw [Int.toNat_of_nonneg h0]
    have e1 : roP [L, P, some (tD (encQ g)), some (.int 0), some (.int (t : Nat)), z5, some (.int x), n7, n8] = .nx [L, P, some (tD (encQ (putQ g (t, x.toNat) 0))), some (.int 0), some (.int (t : Nat)), z5, some (.int x), n7, n8] :=
      zDSetO (ρ := [L, P, some (tD (encQ g)), some (.int 0), some (.int (t : Nat)), z5, some (.int x), n7, n8]) (x := .tuple [.int (t : Nat), .int x]) rfl rfl (zTup (zTwo (zVar rfl) (zVar rfl)) (Nat.le_of_ble_eq_true rfl)) (by
        rw [e0]
        exact putO_q (v := 0) rfl (by omega))
    refine ⟨z6', zTurn rfl e1 e2, ?_⟩
    show (xs.foldl (fun g x => putQ g (t, x.toNat) 0) (putQ g (t, x.toNat) 0)).length ≤ _
    omega
theorem ro_presses {L P n7 n8 : Option PyData} {n : Nat} : ∀ (xss : List (List Int)) (t : Nat) (g : List ((Nat × Nat) × Nat)) (z4 z5 z6 : Option PyData), FitP n xss → g.length + xss.length * n ≤ 90000 → ∃ z4' z5' z6', sTurns (gT [gN 4, gN 5]) (sFor (iL (eVar 5)) (gN 6) roP) (numD (t : Int) (encP xss)) [L, P, some (tD (encQ g)), some (.int 0), z4, z5, z6, n7, n8] = .nx [L, P, some (tD (encQ (initQ t xss g))), some (.int 0), z4', z5', z6', n7, n8]
  | [], t, g, z4, z5, z6, _, _ => ⟨z4, z5, z6, rfl⟩
  | xs :: xss, t, g, z4, z5, z6, hx, hl => by
    rw [List.length_cons, Nat.succ_mul] at hl
    have sl := sub_len (hx xs List.mem_cons_self)
    obtain ⟨y6, e1, l1⟩ := ro_press (L := L) (P := P) (n7 := n7) (n8 := n8) (z5 := some (.list (xs.map PyData.int))) (t := t) xs g z6 (hx.pos xs List.mem_cons_self) (by omega)
    obtain ⟨z4', z5', z6', e2⟩ := ro_presses (L := L) (P := P) (n7 := n7) (n8 := n8) xss (t + 1) _ (some (.int (t : Nat))) (some (.list (xs.map PyData.int))) y6 (fun y hy => hx y (List.mem_cons_of_mem _ hy)) (Nat.le_trans (Nat.add_le_add_right l1 _) (by omega))
    refine ⟨z4', z5', z6', ?_⟩
    show sTurns _ _ (.tuple [.int (t : Nat), .list (xs.map PyData.int)] :: numD ((t : Int) + 1) (encP xss)) _ = _
    rw [show ((t : Int) + 1) = ((t + 1 : Nat) : Int) by omega]
    exact zTurn rfl (zFor (zL (zVar rfl)) e1) e2
def roM : En → ER := eFz (eLc (iL (eFz (eCall F__law_given [.s 0, .o 2, .d] (aCons (eVar 0) (aOwnS 2 (aCons (eCB gLen (aCons (eVar 1) aNil)) aNil)))))) [7] (gN 7) (tVal' (eDInO true 2 (eVar 7))) (eVar 7))
theorem ro_more {n : Nat} {ds : List Dr} {xss : List (List Int)} {g : List ((Nat × Nat) × Nat)} {n3 n4 n5 n6 n7 n8 : Option PyData} (h : Good n ds xss) : roM [some (encL n ds), some (.list (encP xss)), some (tD (encQ g)), n3, n4, n5, n6, n7, n8] = .v (.list (wavD (moreN g xss.length ds))) [some (encL n ds), some (.list (encP xss)), some (tD (encQ g)), n3, n4, n5, n6, none, n8] ∧ Sm2 (moreN g xss.length ds) := by
  have tl := h.tl
  have n2 := h.n2
  obtain ⟨e, s⟩ := law_given_tells (g := g) (T := xss.length) (n := n) (ds := ds) (by omega) (by omega) h.fd h.z
  have p1 : (encP xss).length = xss.length := by unfold encP; rw [List.length_map]
  refine ⟨?_, fun q hq => s q (List.mem_filter.mp hq).1⟩
  let R : En := [some (encL n ds), some (.list (encP xss)), some (tD (encQ g)), n3, n4, n5, n6, n7, n8]
  let R0 : En := [some (encL n ds), some (.list (encP xss)), some (tD (encQ g)), n3, n4, n5, n6, none, n8]
  have items : lcItems [7] (gN 7) (tVal' (eDInO true 2 (eVar 7))) (eVar 7) (wavD (lgN (keysQ g) xss.length ds)) R0 = some (wavD (moreN g xss.length ds), R0) := by
    refine lc_pick sp sp _ (lgN (keysQ g) xss.length ds) fun q hq => ?_
    let R2 : En := [some (encL n ds), some (.list (encP xss)), some (tD (encQ g)), n3, n4, n5, n6, some (sp q), n8]
    obtain ⟨o, o1, o2⟩ := lookO_q (ρ := R2) (i := 2) (g := g) (q := q) rfl
    have tt : tVal' (eDInO true 2 (eVar 7)) R2 = .b (true != o.isSome) R2 := zVal (zDInO (zVar rfl) o1)
    refine ⟨R2, rfl, ?_⟩
    by_cases hk : q ∈ keysQ g
    · rw [o2, decide_eq_true hk] at tt
      exact .inl ⟨decide_eq_false (fun w => w hk), R2, tt, rfl⟩
    · rw [o2, decide_eq_false hk] at tt
      exact .inr ⟨decide_eq_true hk, R2, tt, R2, zVar rfl, rfl⟩
  have args : aCons (eVar 0) (aOwnS 2 (aCons (eCB gLen (aCons (eVar 1) aNil)) aNil)) R = .vs [encL n ds, .none, .int (xss.length : Nat)] R := zCons (zVar rfl) (zOwn (d := tD (encQ g)) rfl (zOne (zCB (zOne (zVar rfl)) (by
    show some (PyData.int ((encP xss).length : Nat)) = _
    rw [p1]))))
  have call : eFz (eCall F__law_given [.s 0, .o 2, .d] (aCons (eVar 0) (aOwnS 2 (aCons (eCB gLen (aCons (eVar 1) aNil)) aNil)))) R = .v (.list (wavD (lgN (keysQ g) xss.length ds))) R := zFzL (zCallOwnO (j := 1) (i := 2) (c := tD (encQ g)) args rfl rfl e)
  have ll : (wavD (lgN (keysQ g) xss.length ds)).length ≤ 40000 := by
    rw [wavD_sp, List.length_map]
    refine Nat.le_trans (lgN_len _ _ _) ?_
    have := Nat.mul_le_mul h.dl h.tl
    omega
  exact zFzL (zLc (zL call) ll items)
def roT : En → TR := tVal' (eOp gNeA (eVar 8) (eFz (eLst aNil)))
theorem ro_test {a b c d e f g h : Option PyData} {w : List (Nat × Nat)} (hw : Sm2 w) (hl : w.length ≤ 80000) : roT [a, b, c, d, e, f, g, h, some (.list (wavD w))] = .b (!w.isEmpty) [a, b, c, d, e, f, g, h, some (.list (wavD w))] := by
  have q2 : Pl 1 2007 (.list []) := (pl_list (k := 0) (w := 2000) (n := 1) pl_nil (by simp)).up' (Nat.le_refl _) (by decide)
  have b1 := (hw.pl hl).neA q2 (by decide) (by decide)
  rw [eqv_nil, wavD_sp, List.isEmpty_map] at b1
  exact zVal (zOp (zVar rfl) rfl b1)
def roW : En → SR := sSeq (sAsg (eOp (gI fun i j => i + j) (eVar 3) (eC (.int 1))) (gN 3)) (sSeq (sFor (iL (eVar 8)) (gN 7) (sDSetO 2 (eVar 7) (eVar 3))) (sAsg roM (gN 8)))
theorem ro_puts {L P n4 n5 n6 n8 : Option PyData} {m : Nat} : ∀ (qs : List (Nat × Nat)) (g : List ((Nat × Nat) × Nat)) (z7 : Option PyData), g.length + qs.length ≤ 90000 → ∃ z7', sTurns (gN 7) (sDSetO 2 (eVar 7) (eVar 3)) (wavD qs) [L, P, some (tD (encQ g)), some (.int (m : Nat)), n4, n5, n6, z7, n8] = .nx [L, P, some (tD (encQ (putsQ m g qs))), some (.int (m : Nat)), n4, n5, n6, z7', n8]
  | [], g, z7, _ => ⟨z7, rfl⟩
  | q :: qs, g, z7, hl => by
    rw [List.length_cons] at hl
    have hp := (putQ_len g q m).2.1
    obtain ⟨z7', e2⟩ := ro_puts (L := L) (P := P) (n4 := n4) (n5 := n5) (n6 := n6) (n8 := n8) (m := m) qs (putQ g q m) (some (sp q)) (by omega)
    have e1 : sDSetO 2 (eVar 7) (eVar 3) [L, P, some (tD (encQ g)), some (.int (m : Nat)), n4, n5, n6, some (sp q), n8] = .nx [L, P, some (tD (encQ (putQ g q m))), some (.int (m : Nat)), n4, n5, n6, some (sp q), n8] :=
      zDSetO (ρ := [L, P, some (tD (encQ g)), some (.int (m : Nat)), n4, n5, n6, some (sp q), n8]) (zVar rfl) rfl (zVar rfl) (putO_q rfl (by omega))
    exact ⟨z7', zTurn rfl e1 e2⟩
theorem ro_loop {n : Nat} {ds : List Dr} {xss : List (List Int)} {n4 n5 n6 : Option PyData} (h : Good n ds xss) : ∀ (fuel m : Nat) (g : List ((Nat × Nat) × Nat)) (z7 : Option PyData), LI ds xss.length (Pr xss) m g → m ≤ g.length → xss.length * n - g.length + 1 < fuel → Sm2 (moreN g xss.length ds) → ∃ m' g' z7', sWhile roT roW fuel [some (encL n ds), some (.list (encP xss)), some (tD (encQ g)), some (.int (m : Nat)), n4, n5, n6, z7, some (.list (wavD (moreN g xss.length ds)))] = .nx [some (encL n ds), some (.list (encP xss)), some (tD (encQ g')), some (.int (m' : Nat)), n4, n5, n6, z7', some (.list (wavD (moreN g' xss.length ds)))] ∧ LI ds xss.length (Pr xss) m' g' ∧ moreN g' xss.length ds = [] ∧ m' ≤ g'.length
  | 0, _, _, _, _, _, hf, _ => absurd hf (by omega)
  | fuel + 1, m, g, z7, hi, hmg, hf, hs => by
    have tl := h.tl
    have n2 := h.n2
    have dl := h.dl
    have hlen := hi.len (rooms_in h.fd) h.fx.pr
    have hTn : xss.length * n ≤ 63 * 29 := Nat.mul_le_mul tl n2
    have ml : (moreN g xss.length ds).length ≤ 40000 := by
      have h1 := lgN_len (keysQ g) xss.length ds
      have h2 : (moreN g xss.length ds).length ≤ (lgN (keysQ g) xss.length ds).length := List.length_filter_le _ _
      have := Nat.mul_le_mul dl tl
      omega
    have ht := ro_test (a := some (encL n ds)) (b := some (.list (encP xss))) (c := some (tD (encQ g))) (d := some (.int (m : Nat))) (e := n4) (f := n5) (g := n6) (h := z7) hs (by omega)
    by_cases hm : moreN g xss.length ds = []
    · rw [hm] at ht ⊢
      exact ⟨m, g, z7, by rw [hm]; exact zWhileEnd ht, hi, hm, hmg⟩
    · have he : (moreN g xss.length ds).isEmpty = false := by
        cases e : moreN g xss.length ds with
        | nil => exact absurd e hm
        | cons _ _ => rfl
      rw [he] at ht
      obtain ⟨y7, e1⟩ := ro_puts (L := some (encL n ds)) (P := some (.list (encP xss))) (n4 := n4) (n5 := n5) (n6 := n6) (n8 := some (.list (wavD (moreN g xss.length ds)))) (m := m + 1) (moreN g xss.length ds) g z7 (by omega)
      have hi' := hi.next
      have hl' := hi'.len (rooms_in h.fd) h.fx.pr
      have hm' := hi.more hm
      obtain ⟨e2, s2⟩ := ro_more (g := putsQ (m + 1) g (moreN g xss.length ds)) (n3 := some (.int ((m + 1 : Nat) : Int))) (n4 := n4) (n5 := n5) (n6 := n6) (n7 := y7) (n8 := some (.list (wavD (moreN g xss.length ds)))) h
      have turn : roW [some (encL n ds), some (.list (encP xss)), some (tD (encQ g)), some (.int (m : Nat)), n4, n5, n6, z7, some (.list (wavD (moreN g xss.length ds)))] = .nx [some (encL n ds), some (.list (encP xss)), some (tD (encQ (putsQ (m + 1) g (moreN g xss.length ds)))), some (.int ((m + 1 : Nat) : Int)), n4, n5, n6, none, some (.list (wavD (moreN (putsQ (m + 1) g (moreN g xss.length ds)) xss.length ds)))] :=
        zSeq (zAsgN (i := 3) (zOp (zVar rfl) rfl (show gI (fun i j => i + j) (.int (m : Nat)) (.int 1) = some (.int ((m + 1 : Nat) : Int)) from rfl))) (zSeq (zFor (zL (zVar rfl)) e1) (zAsgN e2))
      obtain ⟨m'', g'', z'', e3, i3, m3, mg3⟩ := ro_loop (n4 := n4) (n5 := n5) (n6 := n6) h fuel (m + 1) (putsQ (m + 1) g (moreN g xss.length ds)) none hi' (by omega) (by omega) s2
      exact ⟨m'', g'', z'', (zWhile ht turn).trans e3, i3, m3, mg3⟩
theorem law_rounds_tells {n : Nat} {ds : List Dr} {xss : List (List Int)} (h : Good n ds xss) (hfu : xss.length * n ≤ 990) : ∃ m g, F__law_rounds [encL n ds, .list (encP xss)] = .o (tD (encQ g)) .none ∧ LI ds xss.length (Pr xss) m g ∧ moreN g xss.length ds = [] ∧ m ≤ g.length := by
  have tl := h.tl
  have n2 := h.n2
  have hTn : xss.length * n ≤ 63 * 29 := Nat.mul_le_mul tl n2
  have hi := init_LI ds xss h.fx.pos
  have hlen := hi.len (rooms_in h.fd) h.fx.pr
  obtain ⟨y4, y5, y6, e1⟩ := ro_presses (L := some (encL n ds)) (P := some (.list (encP xss))) (n7 := none) (n8 := none) (n := n) xss 0 [] none none none h.fx (by simp; omega)
  obtain ⟨e2, s2⟩ := ro_more (g := initQ 0 xss []) (n3 := some (.int 0)) (n4 := y4) (n5 := y5) (n6 := y6) (n7 := none) (n8 := none) h
  obtain ⟨m, g, z7, e3, i3, m3, mg3⟩ := ro_loop (n4 := y4) (n5 := y5) (n6 := y6) h 1000 0 (initQ 0 xss []) none hi (Nat.zero_le _) (by omega) s2
  refine ⟨m, g, ?_, i3, m3, mg3⟩
  have body : sSeq (sParO 2 3 eNewT (.int 0)) (sSeq (sFor (iEn (aCons (eVar 1) aNil)) (gT [gN 4, gN 5]) (sFor (iL (eVar 5)) (gN 6) roP)) (sSeq (sAsg roM (gN 8)) (sSeq (sWhile roT roW 1000) (sRet (eMove 2))))) [some (encL n ds), some (.list (encP xss)), none, none, none, none, none, none, none] = .reto (tD (encQ g)) [some (encL n ds), some (.list (encP xss)), none, some (.int (m : Nat)), y4, y5, y6, z7, some (.list (wavD (moreN g xss.length ds)))] :=
    zSeq (ρ1 := [some (encL n ds), some (.list (encP xss)), some (tD (encQ [])), some (.int 0), none, none, none, none, none]) rfl (zSeq (zFor (zEn (zOne (zVar rfl))) e1) (zSeq (zAsgN e2) (zSeq e3 (zRetO (zMove rfl)))))
  exact zFn rfl (congrArg (finY none) body)
theorem law_light_tells {n : Nat} {ds : List Dr} {xss : List (List Int)} (h : Good n ds xss) (hfu : xss.length * n ≤ 990) : F__law_light [encL n ds, .list (encP xss)] = .o (.list (histD (litL n xss.length (LtX ds xss)))) .none := by
  have tl := h.tl
  have n2 := h.n2
  obtain ⟨m, g, e, hi, hm, _⟩ := law_rounds_tells h hfu
  have on := hi.last hm
  have p1 : (encP xss).length = xss.length := by unfold encP; rw [List.length_map]
  let R : En := [some (encL n ds), some (.list (encP xss)), some (tD (encQ g)), none, none]
  have inner : ∀ t : Nat, lcItems [4] (gN 4) (tVal' (eDInO false 2 (eTup (aCons (eVar 3) (aCons (eVar 4) aNil))))) (eVar 4) (rgD 0 n) [some (encL n ds), some (.list (encP xss)), some (tD (encQ g)), some (.int (t : Nat)), none] = some (((List.range n).filter fun r => decide ((t, r) ∈ keysQ g)).map (fun r => PyData.int (r : Nat)), [some (encL n ds), some (.list (encP xss)), some (tD (encQ g)), some (.int (t : Nat)), none]) := fun t => by
    rw [range_data]
    refine lc_pick (fun r : Nat => PyData.int (r : Nat)) (fun r => PyData.int (r : Nat)) _ (List.range n) fun r hr => ?_
    let R2 : En := [some (encL n ds), some (.list (encP xss)), some (tD (encQ g)), some (.int (t : Nat)), some (.int (r : Nat))]
    obtain ⟨o, o1, o2⟩ := lookO_q (ρ := R2) (i := 2) (g := g) (q := (t, r)) rfl
    have tt : tVal' (eDInO false 2 (eTup (aCons (eVar 3) (aCons (eVar 4) aNil)))) R2 = .b (false != o.isSome) R2 := zVal (zDInO (zTup (zTwo (zVar rfl) (zVar rfl)) (Nat.le_of_ble_eq_true rfl)) o1)
    refine ⟨R2, rfl, ?_⟩
    by_cases hk : (t, r) ∈ keysQ g
    · rw [o2, decide_eq_true hk] at tt
      exact .inr ⟨decide_eq_true hk, R2, tt, R2, zVar rfl, rfl⟩
    · rw [o2, decide_eq_false hk] at tt
      exact .inl ⟨decide_eq_false hk, R2, tt, rfl⟩
  have rl : (rgD 0 n).length ≤ 40000 := by rw [rgD_below, List.length_map, below_len]; omega
  have items : lcItems [3] (gN 3) tYesZ (eFz (eLc (iR1 (aCons (eOp gIxT (eVar 0) (eC (.int 0))) aNil)) [4] (gN 4) (tVal' (eDInO false 2 (eTup (aCons (eVar 3) (aCons (eVar 4) aNil))))) (eVar 4))) (rgD 0 xss.length) R = some (histD (litL n xss.length (LtX ds xss)), R) := by
    rw [range_data]
    unfold histD litL
    rw [List.map_map]
    refine lc_map (fun t : Nat => PyData.int (t : Nat)) _ (List.range xss.length) fun t ht => ?_
    refine ⟨[some (encL n ds), some (.list (encP xss)), some (tD (encQ g)), some (.int (t : Nat)), none], rfl, _, rfl, [some (encL n ds), some (.list (encP xss)), some (tD (encQ g)), some (.int (t : Nat)), none], ?_, rfl⟩
    have e5 := zFzL (zLc (fi := iR1 (aCons (eOp gIxT (eVar 0) (eC (.int 0))) aNil)) (ρ1 := [some (encL n ds), some (.list (encP xss)), some (tD (encQ g)), some (.int (t : Nat)), none]) (zR1 (n := n) (zOne (zOp (zVar rfl) rfl rfl)) (by omega)) rl (inner t))
    rw [e5]
    show ER.v (.list (((List.range n).filter fun r => decide ((t, r) ∈ keysQ g)).map (fun r => PyData.int (r : Nat)))) _ = ER.v (.list (natD _)) _
    have ef : ((List.range n).filter fun r => decide ((t, r) ∈ keysQ g)) = (List.range n).filter fun r => @decide (LtX ds xss t r) (Classical.propDecidable _) := List.filter_congr fun r _ => decide_eq_decide.mpr (on t r)
    rw [ef]
    rfl
  have rl2 : (rgD 0 xss.length).length ≤ 40000 := by rw [rgD_below, List.length_map, below_len]; omega
  have body : sSeq (sAsgO 2 (eCall F__law_rounds [.s 0, .s 1] (aCons (eVar 0) (aCons (eVar 1) aNil)))) (sRet (eLc (iR1 (aCons (eCB gLen (aCons (eVar 1) aNil)) aNil)) [3] (gN 3) tYesZ (eFz (eLc (iR1 (aCons (eOp gIxT (eVar 0) (eC (.int 0))) aNil)) [4] (gN 4) (tVal' (eDInO false 2 (eTup (aCons (eVar 3) (aCons (eVar 4) aNil))))) (eVar 4))))) [some (encL n ds), some (.list (encP xss)), none, none, none] = .reto (.list (histD (litL n xss.length (LtX ds xss)))) R :=
    zSeq (zAsgO (zCallO (zTwo (zVar rfl) (zVar rfl)) e)) (zRetO (zLc (zR1 (n := xss.length) (zOne (zCB (zOne (zVar rfl)) (by
      show some (PyData.int ((encP xss).length : Nat)) = _
      rw [p1]))) (by omega)) rl2 items))
  exact zFn rfl (congrArg (finY none) body)
end TD
set_option maxHeartbeats 4000000
namespace TD
open PySem PySem.Spec PyProof.Rows L2
theorem litL_len (n T : Nat) (S : Nat → Nat → Prop) : (litL n T S).length = T := by
  unfold litL
  rw [List.length_map, List.length_range]
theorem litL_mem {n T : Nat} {S : Nat → Nat → Prop} : ∀ h ∈ litL n T S, h.length ≤ n := fun h hh => by
  unfold litL at hh
  obtain ⟨t, _, rfl⟩ := List.mem_map.mp hh
  exact Nat.le_trans (List.length_filter_le _ _) (by rw [List.length_range]; exact Nat.le_refl _)
theorem ne_str (s : Str) : gNe (.str s) (.str s) = some (.bool false) := by
  show some (PyData.bool (!decide (s = s))) = _
  rw [decide_eq_true rfl]
  rfl
theorem eq_str (s : Str) : gEq (.str s) (.str s) = some (.bool true) := by
  show some (PyData.bool (decide (s = s))) = _
  rw [decide_eq_true rfl]
theorem ints_pl {n : Nat} {xs : List Int} (h : xs.Sublist (below n)) (hn : n ≤ 30) : Pl 1 61000 (.list (xs.map PyData.int)) := (pl_list (n := 30) (fun d hd => by
  obtain ⟨x, hx, rfl⟩ := List.mem_map.mp hd
  have := below_mem.mp (h.subset hx)
  exact pl_int (by omega)) (by rw [List.length_map]; have := sub_len h; omega)).up' (Nat.le_refl _) (by decide)
theorem presses_pl {n : Nat} {xss : List (List Int)} (h : FitP n xss) (hn : n ≤ 30) (hl : xss.length ≤ 63) : Pl 2 4000000 (.list (encP xss)) := (pl_list (n := 63) (fun d hd => by
  unfold encP at hd
  obtain ⟨xs, hxs, rfl⟩ := List.mem_map.mp hd
  exact ints_pl (h xs hxs) hn) (by unfold encP; rw [List.length_map]; exact hl)).up' (Nat.le_refl _) (by decide)
theorem door_pl {n : Nat} {d : Dr} (h : d.Fit n) (hn : n ≤ 30) : Pl 2 200000 d.enc := (pl_tup (n := 3) (pl_cons (ints_pl h.1 hn) (pl_cons ((pl_int (by have := h.2.1; omega)).up' (by decide) (by decide)) (pl_cons ((pl_int (by have := h.2.2; omega)).up' (by decide) (by decide)) pl_nil))) (by simp)).up' (Nat.le_refl _) (by decide)
theorem level_pl {n : Nat} {ds : List Dr} (h : ∀ d ∈ ds, d.Fit n) (hn : n ≤ 30) (hl : ds.length ≤ 20) : Pl 4 5000000 (encL n ds) := by
  have p := pl_list (n := 20) (k := 2) (w := 200000) (ds := ds.map Dr.enc) (fun d hd => by
    obtain ⟨q, hq, rfl⟩ := List.mem_map.mp hd
    exact door_pl (h q hq) hn) (by rw [List.length_map]; exact hl)
  have q := pl_int (i := (n : Int)) (by omega)
  obtain ⟨h0, h1, h2, h3, h4⟩ := p
  have q0 : Pl 3 4000050 (.int (n : Nat)) := q.up' (by decide) (by decide)
  have q1 : Pl 3 4000050 (.list (ds.map Dr.enc)) := ⟨h0, h1, h2, h3, Nat.le_trans h4 (by decide)⟩
  obtain ⟨a0, a1, a2, a3, a4⟩ := pl_all (k := 3) (w := 4000050) (pl_cons q0 (pl_cons q1 pl_nil))
  refine ⟨by simpa [noDic, encL] using a0, by rw [encL, PyData.canLay0]; exact a1, by rw [encL, PyData.showable]; exact a2, by rw [encL, PyData.depth]; omega, ?_⟩
  show szs [.int (n : Nat), .list (ds.map Dr.enc)] + 5 ≤ _
  have e1 : szs [PyData.int (n : Nat), .list (ds.map Dr.enc)] = sz (.int (n : Nat)) + 2 + (sz (.list (ds.map Dr.enc)) + 2 + 0) := rfl
  have e2 : sz (.int (n : Nat)) = 2000 := rfl
  omega
end TD
set_option maxHeartbeats 4000000
namespace TD
open PySem PySem.Spec PyProof.Rows L2
local macro_rules | `(tactic| trivial) => `(tactic| ((with_reducible apply boolG); exact rfl))
local macro_rules | `(tactic| trivial) => `(tactic| ((with_reducible apply ltG); first | exact Nat.le_of_ble_eq_true rfl | omega))
local macro_rules | `(tactic| trivial) => `(tactic| ((with_reducible apply leG); first | exact Nat.le_of_ble_eq_true rfl | omega))
local macro_rules | `(tactic| trivial) => `(tactic| ((with_reducible apply opG); exact rfl))
local macro_rules | `(tactic| trivial) => `(tactic| assumption)
local macro_rules | `(tactic| trivial) => `(tactic| ((with_reducible apply gSub1); omega))
local macro_rules | `(tactic| trivial) => `(tactic| ((with_reducible apply gSubN); omega))
local macro_rules | `(tactic| trivial) => `(tactic| with_reducible exact g1Add)
local macro_rules | `(tactic| trivial) => `(tactic| with_reducible exact gAdd1)
local macro_rules | `(tactic| trivial) => `(tactic| with_reducible exact gAddN)
local macro_rules | `(tactic| trivial) => `(tactic| with_reducible exact gNeS)
local macro_rules | `(tactic| trivial) => `(tactic| with_reducible exact gEqS)
local macro_rules | `(tactic| trivial) => `(tactic| ((with_reducible apply gNeF); omega))
local macro_rules | `(tactic| trivial) => `(tactic| ((with_reducible apply gNeT); omega))
local macro_rules | `(tactic| trivial) => `(tactic| ((with_reducible apply gEqF); omega))
local macro_rules | `(tactic| trivial) => `(tactic| ((with_reducible apply gEqT); omega))
local macro_rules | `(tactic| trivial) => `(tactic| ((with_reducible apply gGeF); omega))
local macro_rules | `(tactic| trivial) => `(tactic| ((with_reducible apply gGeT); omega))
local macro_rules | `(tactic| trivial) => `(tactic| ((with_reducible apply gGtF); omega))
local macro_rules | `(tactic| trivial) => `(tactic| ((with_reducible apply gGtT); omega))
local macro_rules | `(tactic| trivial) => `(tactic| ((with_reducible apply gLeF); omega))
local macro_rules | `(tactic| trivial) => `(tactic| ((with_reducible apply gLeT); omega))
local macro_rules | `(tactic| trivial) => `(tactic| ((with_reducible apply gLtF); omega))
local macro_rules | `(tactic| trivial) => `(tactic| ((with_reducible apply gLtT); omega))
local macro_rules | `(tactic| trivial) => `(tactic| ((with_reducible apply slo_c) <;> trivial))
local macro_rules | `(tactic| trivial) => `(tactic| ((with_reducible apply slo_n) <;> trivial))
local macro_rules | `(tactic| trivial) => `(tactic| ((with_reducible apply rep_s) <;> trivial))
local macro_rules | `(tactic| trivial) => `(tactic| with_reducible exact rep_z)
local macro_rules | `(tactic| trivial) => `(tactic| ((with_reducible apply wipe_c) <;> trivial))
local macro_rules | `(tactic| trivial) => `(tactic| with_reducible exact wipe_n)
local macro_rules | `(tactic| trivial) => `(tactic| ((with_reducible apply set_s) <;> trivial))
local macro_rules | `(tactic| trivial) => `(tactic| with_reducible exact set_z)
local macro_rules | `(tactic| trivial) => `(tactic| ((with_reducible apply wExt) <;> trivial))
local macro_rules | `(tactic| trivial) => `(tactic| ((with_reducible apply wAppR) <;> trivial))
local macro_rules | `(tactic| trivial) => `(tactic| ((with_reducible apply wAug) <;> trivial))
local macro_rules | `(tactic| trivial) => `(tactic| ((with_reducible apply wSetO) <;> trivial))
local macro_rules | `(tactic| trivial) => `(tactic| ((with_reducible apply wApp) <;> trivial))
local macro_rules | `(tactic| trivial) => `(tactic| ((with_reducible apply wPar3M) <;> trivial))
local macro_rules | `(tactic| trivial) => `(tactic| ((with_reducible apply wParO) <;> trivial))
local macro_rules | `(tactic| trivial) => `(tactic| ((with_reducible apply wParOO) <;> trivial))
local macro_rules | `(tactic| trivial) => `(tactic| ((with_reducible apply wParDO) <;> trivial))
local macro_rules | `(tactic| trivial) => `(tactic| ((with_reducible apply wParOD) <;> trivial))
local macro_rules | `(tactic| trivial) => `(tactic| ((with_reducible apply wPar3) <;> trivial))
local macro_rules | `(tactic| trivial) => `(tactic| ((with_reducible apply wPar) <;> trivial))
local macro_rules | `(tactic| trivial) => `(tactic| ((with_reducible apply wFor) <;> trivial))
local macro_rules | `(tactic| trivial) => `(tactic| ((with_reducible apply wSIfF) <;> trivial))
local macro_rules | `(tactic| trivial) => `(tactic| ((with_reducible apply wSIfT) <;> trivial))
local macro_rules | `(tactic| trivial) => `(tactic| ((with_reducible apply wRet) <;> trivial))
local macro_rules | `(tactic| trivial) => `(tactic| ((with_reducible apply wDrop) <;> trivial))
local macro_rules | `(tactic| trivial) => `(tactic| ((with_reducible apply wAsgO) <;> trivial))
local macro_rules | `(tactic| trivial) => `(tactic| ((with_reducible apply wAsg) <;> trivial))
local macro_rules | `(tactic| trivial) => `(tactic| with_reducible exact wCt)
local macro_rules | `(tactic| trivial) => `(tactic| with_reducible exact wBr)
local macro_rules | `(tactic| trivial) => `(tactic| with_reducible exact wNext)
local macro_rules | `(tactic| trivial) => `(tactic| ((with_reducible apply seqG); exact rfl))
local macro_rules | `(tactic| trivial) => `(tactic| ((with_reducible apply wSeqN) <;> trivial))
local macro_rules | `(tactic| trivial) => `(tactic| ((with_reducible apply wSeq) <;> trivial))
local macro_rules | `(tactic| trivial) => `(tactic| ((with_reducible apply wTc) <;> trivial))
local macro_rules | `(tactic| trivial) => `(tactic| with_reducible exact wTn)
local macro_rules | `(tactic| trivial) => `(tactic| ((with_reducible apply wT) <;> trivial))
local macro_rules | `(tactic| trivial) => `(tactic| ((with_reducible apply wN) <;> trivial))
local macro_rules | `(tactic| trivial) => `(tactic| ((with_reducible apply wNotB) <;> trivial))
local macro_rules | `(tactic| trivial) => `(tactic| ((with_reducible apply wNotF) <;> trivial))
local macro_rules | `(tactic| trivial) => `(tactic| ((with_reducible apply wNotT) <;> trivial))
local macro_rules | `(tactic| trivial) => `(tactic| ((with_reducible apply wOrF) <;> trivial))
local macro_rules | `(tactic| trivial) => `(tactic| ((with_reducible apply wOrT) <;> trivial))
local macro_rules | `(tactic| trivial) => `(tactic| ((with_reducible apply wAndT) <;> trivial))
local macro_rules | `(tactic| trivial) => `(tactic| ((with_reducible apply wAndF) <;> trivial))
local macro_rules | `(tactic| trivial) => `(tactic| ((with_reducible apply wTru) <;> trivial))
local macro_rules | `(tactic| trivial) => `(tactic| ((with_reducible apply wVal) <;> trivial))
local macro_rules | `(tactic| trivial) => `(tactic| ((with_reducible apply wLc2) <;> trivial))
local macro_rules | `(tactic| trivial) => `(tactic| ((with_reducible apply wLcR) <;> trivial))
local macro_rules | `(tactic| trivial) => `(tactic| ((with_reducible apply wLc) <;> trivial))
local macro_rules | `(tactic| trivial) => `(tactic| ((with_reducible apply wR1) <;> trivial))
local macro_rules | `(tactic| trivial) => `(tactic| ((with_reducible apply wZ) <;> trivial))
local macro_rules | `(tactic| trivial) => `(tactic| ((with_reducible apply wEn) <;> trivial))
local macro_rules | `(tactic| trivial) => `(tactic| ((with_reducible apply wL) <;> trivial))
local macro_rules | `(tactic| trivial) => `(tactic| ((with_reducible apply wGPure) <;> trivial))
local macro_rules | `(tactic| trivial) => `(tactic| ((with_reducible apply wPure) <;> trivial))
local macro_rules | `(tactic| trivial) => `(tactic| ((with_reducible apply wCatO) <;> trivial))
local macro_rules | `(tactic| trivial) => `(tactic| ((with_reducible apply wListOf) <;> trivial))
local macro_rules | `(tactic| trivial) => `(tactic| ((with_reducible apply wSlF) <;> trivial))
local macro_rules | `(tactic| trivial) => `(tactic| ((with_reducible apply wSlT) <;> trivial))
local macro_rules | `(tactic| trivial) => `(tactic| ((with_reducible apply wIxO) <;> trivial))
local macro_rules | `(tactic| trivial) => `(tactic| ((with_reducible apply wLenO) <;> trivial))
local macro_rules | `(tactic| trivial) => `(tactic| ((with_reducible apply wIsiLO) <;> trivial))
local macro_rules | `(tactic| trivial) => `(tactic| ((with_reducible apply wIsi) <;> trivial))
local macro_rules | `(tactic| trivial) => `(tactic| ((with_reducible apply wEOrF) <;> trivial))
local macro_rules | `(tactic| trivial) => `(tactic| ((with_reducible apply wEOrT) <;> trivial))
local macro_rules | `(tactic| trivial) => `(tactic| ((with_reducible apply wEAndT) <;> trivial))
local macro_rules | `(tactic| trivial) => `(tactic| ((with_reducible apply wEAndF) <;> trivial))
local macro_rules | `(tactic| trivial) => `(tactic| ((with_reducible apply wChainF) <;> trivial))
local macro_rules | `(tactic| trivial) => `(tactic| ((with_reducible apply wChainT) <;> trivial))
local macro_rules | `(tactic| trivial) => `(tactic| ((with_reducible apply wIfF) <;> trivial))
local macro_rules | `(tactic| trivial) => `(tactic| ((with_reducible apply wIfT) <;> trivial))
local macro_rules | `(tactic| trivial) => `(tactic| ((with_reducible apply wCallBr) <;> trivial))
local macro_rules | `(tactic| trivial) => `(tactic| ((with_reducible apply wCallBO) <;> trivial))
local macro_rules | `(tactic| trivial) => `(tactic| ((with_reducible apply wCallB) <;> trivial))
local macro_rules | `(tactic| trivial) => `(tactic| ((with_reducible apply wCallK) <;> trivial))
local macro_rules | `(tactic| trivial) => `(tactic| ((with_reducible apply wCall1) <;> trivial))
local macro_rules | `(tactic| trivial) => `(tactic| ((with_reducible apply wCall0) <;> trivial))
local macro_rules | `(tactic| trivial) => `(tactic| ((with_reducible apply wMove) <;> trivial))
local macro_rules | `(tactic| trivial) => `(tactic| ((with_reducible apply wLst) <;> trivial))
local macro_rules | `(tactic| trivial) => `(tactic| ((with_reducible apply wTup) <;> trivial))
local macro_rules | `(tactic| trivial) => `(tactic| ((with_reducible apply wCB) <;> trivial))
local macro_rules | `(tactic| trivial) => `(tactic| ((with_reducible apply wUn) <;> trivial))
local macro_rules | `(tactic| trivial) => `(tactic| ((with_reducible apply wOp) <;> trivial))
local macro_rules | `(tactic| trivial) => `(tactic| ((with_reducible apply wOwn) <;> trivial))
local macro_rules | `(tactic| trivial) => `(tactic| ((with_reducible apply wCons) <;> trivial))
local macro_rules | `(tactic| trivial) => `(tactic| with_reducible exact wNil)
local macro_rules | `(tactic| trivial) => `(tactic| ((with_reducible apply ownG); exact rfl))
local macro_rules | `(tactic| trivial) => `(tactic| ((with_reducible apply slotG); exact rfl))
local macro_rules | `(tactic| trivial) => `(tactic| ((with_reducible apply frG); exact rfl))
local macro_rules | `(tactic| trivial) => `(tactic| ((with_reducible apply fillG); exact rfl))
local macro_rules | `(tactic| trivial) => `(tactic| ((with_reducible apply pickG); exact rfl))
local macro_rules | `(tactic| trivial) => `(tactic| ((with_reducible apply argG); exact rfl))
local macro_rules | `(tactic| trivial) => `(tactic| ((with_reducible apply retG); exact rfl))
local macro_rules | `(tactic| trivial) => `(tactic| with_reducible exact retO)
local macro_rules | `(tactic| trivial) => `(tactic| with_reducible exact retV)
local macro_rules | `(tactic| trivial) => `(tactic| ((with_reducible apply dropG); exact rfl))
local macro_rules | `(tactic| trivial) => `(tactic| with_reducible exact dropO)
local macro_rules | `(tactic| trivial) => `(tactic| with_reducible exact dropV)
local macro_rules | `(tactic| trivial) => `(tactic| ((with_reducible apply endG); exact rfl))
local macro_rules | `(tactic| trivial) => `(tactic| with_reducible exact endO)
local macro_rules | `(tactic| trivial) => `(tactic| with_reducible exact endV)
local macro_rules | `(tactic| trivial) => `(tactic| ((with_reducible apply callG); exact rfl))
local macro_rules | `(tactic| trivial) => `(tactic| with_reducible exact callO)
local macro_rules | `(tactic| trivial) => `(tactic| with_reducible exact callV)
local macro_rules | `(tactic| trivial) => `(tactic| ((with_reducible apply fzG); exact rfl))
local macro_rules | `(tactic| trivial) => `(tactic| with_reducible exact fzR)
local macro_rules | `(tactic| trivial) => `(tactic| with_reducible exact fzL)
local macro_rules | `(tactic| trivial) => `(tactic| with_reducible exact fzV)
local macro_rules | `(tactic| trivial) => `(tactic| ((with_reducible apply wFz) <;> trivial))
local macro_rules | `(tactic| trivial) => `(tactic| ((with_reducible apply wVar) <;> first | exact rfl | assumption))
local macro_rules | `(tactic| trivial) => `(tactic| with_reducible exact wCn)
local macro_rules | `(tactic| trivial) => `(tactic| with_reducible exact wC)
local macro_rules | `(tactic| trivial) => `(tactic| with_reducible assumption)
open Classical in
noncomputable def rndV (ds : List Dr) (T : Nat) (P : Nat → Nat → Prop) (k r : Nat) : Option Nat := if h : ∃ v, Rn ds T P v k r ∧ ∀ j, j < v → ¬ Rn ds T P j k r then some h.choose else none
theorem rnd_some {ds : List Dr} {T : Nat} {P : Nat → Nat → Prop} {k r v : Nat} (h1 : Rn ds T P v k r) (h2 : ∀ j, j < v → ¬ Rn ds T P j k r) : rndV ds T P k r = some v := by
  have ex : ∃ v, Rn ds T P v k r ∧ ∀ j, j < v → ¬ Rn ds T P j k r := ⟨v, h1, h2⟩
  unfold rndV
  rw [dif_pos ex]
  obtain ⟨a, b⟩ := ex.choose_spec
  rcases Nat.lt_trichotomy ex.choose v with w | w | w
  · exact (h2 _ w a).elim
  · rw [w]
  · exact (b _ w h1).elim
theorem rnd_none {ds : List Dr} {T : Nat} {P : Nat → Nat → Prop} {k r : Nat} (h : ¬ Lt ds T P k r) : rndV ds T P k r = none := dif_neg fun ⟨v, h1, _⟩ => h ⟨v, h1⟩
def optD : Option Nat → PyData
  | some v => .int (v : Nat)
  | none => .none
theorem get_first {q : Nat × Nat} : ∀ {g : List ((Nat × Nat) × Nat)}, q ∈ keysQ g → ∃ e ∈ g, e.1 = q ∧ getBy isKeysD (encQ g) (keyQ q) = some (.int (e.2 : Nat))
  | [], h => nomatch h
  | e :: g, h => by
    by_cases z : e.1 = q
    · refine ⟨e, List.mem_cons_self, z, ?_⟩
      unfold getBy encQ
      rw [List.map_cons, List.find?_cons, decide_eq_true (sp_key.mpr z)]
      rfl
    · have : q ∈ keysQ g := (List.mem_cons.mp h).resolve_left fun y => z y.symm
      obtain ⟨e', h1, h2, h3⟩ := get_first this
      refine ⟨e', List.mem_cons_of_mem _ h1, h2, ?_⟩
      unfold getBy encQ at h3 ⊢
      rw [List.map_cons, List.find?_cons, decide_eq_false (fun w => z (sp_key.mp w))]
      exact h3
theorem look_rnd {ds : List Dr} {T m : Nat} {P : Nat → Nat → Prop} {g : List ((Nat × Nat) × Nat)} (h : LI ds T P m g) (hm : moreN g T ds = []) (k r : Nat) : lookT (encQ g) (sp (k, r)) = some ((rndV ds T P k r).map fun v => PyData.int (v : Nat)) := by
  by_cases hk : (k, r) ∈ keysQ g
  · obtain ⟨e, h1, h2, h3⟩ := get_first hk
    obtain ⟨a, b⟩ := h.val e h1
    rw [h2] at a b
    rw [rnd_some a b]
    exact congrArg some h3
  · obtain ⟨o, h1, h2⟩ := look_q g (k, r)
    rw [decide_eq_false hk] at h2
    rw [rnd_none (fun w => hk ((h.last hm k r).mpr w)), h1]
    cases o with
    | none => rfl
    | some _ => exact nomatch h2
theorem opt_get (o : Option Nat) : (o.map fun v => PyData.int (v : Nat)).getD .none = optD o := by cases o <;> rfl
theorem vals_eq {ds : List Dr} {T m : Nat} {P : Nat → Nat → Prop} {g : List ((Nat × Nat) × Nat)} (h : LI ds T P m g) (hm : moreN g T ds = []) : (encQ g).map (valG (encQ g)) = (g.map fun e => e.2).map fun v => PyData.int (v : Nat) := by
  conv => lhs; arg 2; unfold encQ
  rw [List.map_map, List.map_map]
  refine List.map_congr_left fun e he => ?_
  obtain ⟨a, b⟩ := h.val e he
  show valG (encQ g) (sp e.1, .int (e.2 : Nat)) = .int (e.2 : Nat)
  unfold valG
  rw [show sp e.1 = sp (e.1.1, e.1.2) from rfl, look_rnd h hm, rnd_some a b]
  rfl
theorem val_le {ds : List Dr} {T m : Nat} {P : Nat → Nat → Prop} {g : List ((Nat × Nat) × Nat)} (h : LI ds T P m g) : ∀ e ∈ g, e.2 ≤ m := fun e he => by
  obtain ⟨a, b⟩ := h.val e he
  refine Classical.byContradiction fun z => b m (by omega) ((h.on e.1.1 e.1.2).mp ?_)
  exact List.mem_map.mpr ⟨e, he, rfl⟩
theorem intsOf_nat : ∀ xs : List Nat, intsOf (xs.map fun v => PyData.int (v : Nat)) = some (xs.map fun n : Nat => (n : Int))
  | [] => rfl
  | x :: xs => by
    show (match intsOf (xs.map fun v => PyData.int (v : Nat)) with | some bs => some (((x : Nat) : Int) :: bs) | none => none) = _
    rw [intsOf_nat xs]
    rfl
theorem top_le {B : Int} : ∀ (ns : List Int) (n : Int), n ≤ B → (∀ x ∈ ns, x ≤ B) → topI n ns ≤ B
  | [], n, h, _ => h
  | x :: ns, n, h, k => by
    have hx := k x List.mem_cons_self
    have hr := fun y hy => k y (List.mem_cons_of_mem _ hy)
    unfold topI
    first
      | (split <;> exact top_le ns _ (by assumption) hr)
      | exact top_le ns _ (by omega) hr
theorem max_le {xs : List Nat} {B : Nat} (ne : xs ≠ []) (h : ∀ x ∈ xs, x ≤ B) : ∃ i : Int, gMaxL [.list (xs.map fun v => PyData.int (v : Nat))] = some (.int i) ∧ i ≤ B := by
  cases xs with
  | nil => exact (ne rfl).elim
  | cons x xs =>
    refine ⟨topI (x : Int) (xs.map fun n : Nat => (n : Int)), ?_, top_le _ _ (by have := h x List.mem_cons_self; omega) fun y hy => ?_⟩
    · show (match intsOf ((x :: xs).map fun v => PyData.int (v : Nat)) with | some (n :: ns) => some (PyData.int (topI n ns)) | _ => none) = _
      rw [intsOf_nat]
      rfl
    · obtain ⟨k, hk, rfl⟩ := List.mem_map.mp hy
      have := h k (List.mem_cons_of_mem _ hk)
      omega
set_option maxHeartbeats 4000000
def rowsF (n T : Nat) (f : Nat → Nat → PyData) : List (List PyData) := (List.range T).map fun t => (List.range n).map fun r => f t r
theorem rowsF_congr {n T : Nat} {f g : Nat → Nat → PyData} (h : ∀ t, t < T → ∀ r, r < n → f t r = g t r) : rowsF n T f = rowsF n T g := List.map_congr_left fun t ht => List.map_congr_left fun r hr => h t (List.mem_range.mp ht) r (List.mem_range.mp hr)
theorem range_set {α : Type} {n r : Nat} {f : Nat → α} {d : α} : ((List.range n).map f).set r d = (List.range n).map fun x => if x = r then d else f x := by
  refine List.ext_getElem? fun i => ?_
  rw [List.getElem?_map]
  by_cases h : i < n
  · rw [List.getElem?_range h]
    by_cases e : i = r
    · subst e
      rw [List.getElem?_set_self (by rw [List.length_map, List.length_range]; exact h)]
      show _ = some (if i = i then d else f i)
      rw [if_pos rfl]
    · rw [List.getElem?_set_ne (Ne.symm e), List.getElem?_map, List.getElem?_range h]
      show _ = some (if i = r then d else f i)
      rw [if_neg e]
      rfl
  · rw [List.getElem?_eq_none (by rw [List.length_set, List.length_map, List.length_range]; omega), List.getElem?_eq_none (by rw [List.length_range]; omega)]
    rfl
def put2 (f : Nat → Nat → PyData) (t r : Nat) (d : PyData) : Nat → Nat → PyData := fun t' r' => if t' = t then (if r' = r then d else f t' r') else f t' r'
theorem rowsF_put {n T t r : Nat} {f : Nat → Nat → PyData} {d : PyData} : (rowsF n T f).set t (((List.range n).map fun x => f t x).set r d) = rowsF n T (put2 f t r d) := by
  unfold rowsF
  rw [range_set, range_set]
  refine List.map_congr_left fun t' _ => ?_
  by_cases e : t' = t
  · subst e
    rw [if_pos rfl]
    refine List.map_congr_left fun r' _ => ?_
    unfold put2
    rw [if_pos rfl]
  · rw [if_neg e]
    refine List.map_congr_left fun r' _ => ?_
    unfold put2
    rw [if_neg e]
abbrev rnB : En → SR := sSetR 3 (gPure [3] (eVar 6)) (gPure [3] (eVar 8)) (gPure [3] (eVar 4))
theorem unls_map' : ∀ rs : List (List PyData), unls (rs.map PyData.list) = some rs
  | [] => rfl
  | r :: rs => by
    have := unls_map' rs
    simp [unls, this]
theorem ownR_rD {ρ : En} {i : Nat} {rs : List (List PyData)} (h : ρ[i]? = some (some (rD rs))) : ownR i ρ = some rs := by
  unfold ownR
  rw [h]
  exact unls_map' rs
theorem rn_put {n T t r k : Nat} {f : Nat → Nat → PyData} {L P s5 s7 : Option PyData} (ht : t < T) (hr : r < n) : rnB [L, P, none, some (rD (rowsF n T f)), some (.int (k : Nat)), s5, some (.int (t : Nat)), s7, some (.int (r : Nat))] = .nx [L, P, none, some (rD (rowsF n T (put2 f t r (.int (k : Nat))))), some (.int (k : Nat)), s5, some (.int (t : Nat)), s7, some (.int (r : Nat))] := by
  have ow : ownR 3 [L, P, none, some (rD (rowsF n T f)), some (.int (k : Nat)), s5, some (.int (t : Nat)), s7, some (.int (r : Nat))] = some (rowsF n T f) := ownR_rD rfl
  have rt : (rowsF n T f)[t]? = some ((List.range n).map fun x => f t x) := by
    unfold rowsF
    rw [List.getElem?_map, List.getElem?_range ht]
    rfl
  have e1 : gPure [3] (eVar 4) [L, P, none, some (rD (rowsF n T f)), some (.int (k : Nat)), s5, some (.int (t : Nat)), s7, some (.int (r : Nat))] = some (.int (k : Nat)) := rfl
  have e2 : gPure [3] (eVar 6) [L, P, none, some (rD (rowsF n T f)), some (.int (k : Nat)), s5, some (.int (t : Nat)), s7, some (.int (r : Nat))] = some (.int (.ofNat t)) := rfl
  have e3 : gPure [3] (eVar 8) [L, P, none, some (rD (rowsF n T f)), some (.int (k : Nat)), s5, some (.int (t : Nat)), s7, some (.int (r : Nat))] = some (.int (.ofNat r)) := rfl
  unfold rnB sSetR
  rw [e1]
  dsimp only
  rw [e2]
  dsimp only
  rw [e3]
  dsimp only
  rw [ow]
  dsimp only
  rw [rt]
  dsimp only
  rw [decide_eq_true (show r < ((List.range n).map fun x => f t x).length by rw [List.length_map, List.length_range]; exact hr), rowsF_put]
  rfl
def putS (f : Nat → Nat → PyData) (t : Nat) (rs : List Nat) (d : PyData) : Nat → Nat → PyData := rs.foldl (fun f r => put2 f t r d) f
theorem rn_rooms {n T t k : Nat} {L P s5 s7 : Option PyData} (ht : t < T) : ∀ (rs : List Nat) (f : Nat → Nat → PyData) (z8 : Option PyData), (∀ r ∈ rs, r < n) → ∃ y8, sTurns (gN 8) rnB (natD rs) [L, P, none, some (rD (rowsF n T f)), some (.int (k : Nat)), s5, some (.int (t : Nat)), s7, z8] = .nx [L, P, none, some (rD (rowsF n T (putS f t rs (.int (k : Nat))))), some (.int (k : Nat)), s5, some (.int (t : Nat)), s7, y8]
  | [], f, z8, _ => ⟨z8, rfl⟩
  | r :: rs, f, z8, h => by
    obtain ⟨y8, e⟩ := rn_rooms ht rs (put2 f t r (.int (k : Nat))) (some (.int (r : Nat))) fun x hx => h x (List.mem_cons_of_mem _ hx)
    exact ⟨y8, zTurn rfl (rn_put ht (h r List.mem_cons_self)) e⟩
theorem putS_at {t : Nat} {d : PyData} {t' r' : Nat} : ∀ {rs : List Nat} {f : Nat → Nat → PyData}, putS f t rs d t' r' = if t' = t ∧ r' ∈ rs then d else f t' r'
  | [], f => by
    rw [if_neg (fun h => nomatch h.2)]
    rfl
  | r :: rs, f => by
    show putS (put2 f t r d) t rs d t' r' = _
    rw [putS_at]
    unfold put2
    by_cases h1 : t' = t
    · by_cases h2 : r' ∈ rs
      · rw [if_pos ⟨h1, h2⟩, if_pos ⟨h1, List.mem_cons_of_mem _ h2⟩]
      · rw [if_neg (fun h => h2 h.2), if_pos h1]
        by_cases h3 : r' = r
        · rw [if_pos h3, if_pos ⟨h1, by rw [h3]; exact List.mem_cons_self⟩]
        · rw [if_neg h3, if_neg (fun h => (List.mem_cons.mp h.2).elim h3 h2)]
    · rw [if_neg (fun h => h1 h.1), if_neg h1, if_neg (fun h => h1 h.1)]
abbrev rnB2 : En → SR := sFor (iL (eFz (eCall F_lights_of [.d] (aCons (eVar 7) aNil)))) (gN 8) rnB
def putW (f : Nat → Nat → PyData) (w : List (Nat × Nat)) (d : PyData) : Nat → Nat → PyData := w.foldl (fun f q => putS f q.1 (bitsN q.2) d) f
def WOk (n T : Nat) (w : List (Nat × Nat)) : Prop := ∀ q ∈ w, q.1 < T ∧ ∀ r, q.2.testBit r = true → r < n
theorem wok_bits {n : Nat} {q : Nat × Nat} (hn : n ≤ 999) (h : ∀ r, q.2.testBit r = true → r < n) : q.2 < 2 ^ 999 := Nat.lt_of_lt_of_le (Nat.lt_pow_two_of_testBit _ fun i hi => by
  cases e : q.2.testBit i with
  | false => rfl
  | true =>
    have := h i e
    omega) (Nat.pow_le_pow_right (by decide) hn)
theorem rn_wave {n T k : Nat} {L P s5 : Option PyData} (hn : n ≤ 999) : ∀ (w : List (Nat × Nat)) (f : Nat → Nat → PyData) (z6 z7 z8 : Option PyData), WOk n T w → ∃ y6 y7 y8, sTurns (gT [(gN 6), (gN 7)]) rnB2 (wavD w) [L, P, none, some (rD (rowsF n T f)), some (.int (k : Nat)), s5, z6, z7, z8] = .nx [L, P, none, some (rD (rowsF n T (putW f w (.int (k : Nat))))), some (.int (k : Nat)), s5, y6, y7, y8]
  | [], f, z6, z7, z8, _ => ⟨z6, z7, z8, rfl⟩
  | q :: w, f, z6, z7, z8, h => by
    have hq := h q List.mem_cons_self
    have b := wok_bits hn hq.2
    have inn : ∀ r ∈ bitsN q.2, r < n := fun r hr => hq.2 r ((bitsN_mem b).mp hr)
    obtain ⟨y8, e1⟩ := rn_rooms (L := L) (P := P) (s5 := s5) (s7 := some (.int (q.2 : Nat))) (k := k) hq.1 (bitsN q.2) f z8 inn
    have lt := lights_tells b
    have ll : (natD (bitsN q.2)).length ≤ 40000 := by
      rw [natD_len]
      have := nodup_below n (bitsN q.2) ((bitsN_rise _).imp fun z => by omega) inn
      omega
    obtain ⟨y6, y7, y8', e2⟩ := rn_wave (L := L) (P := P) (s5 := s5) (k := k) hn w (putS f q.1 (bitsN q.2) (.int (k : Nat))) (some (.int (q.1 : Nat))) (some (.int (q.2 : Nat))) y8 fun x hx => h x (List.mem_cons_of_mem _ hx)
    refine ⟨y6, y7, y8', zTurn rfl (zFor (zL (zFzL (zCallO (zOne (zVar rfl)) lt))) e1) e2⟩
abbrev rnB3 : En → SR := sFor (iL (eVar 5)) (gT [(gN 6), (gN 7)]) rnB2
def putWs : Nat → (Nat → Nat → PyData) → List (List (Nat × Nat)) → Nat → Nat → PyData
  | _, f, [] => f
  | k, f, w :: ws => putWs (k + 1) (putW f w (.int (k : Nat))) ws
theorem rn_waves {n T : Nat} {L P : Option PyData} (hn : n ≤ 999) : ∀ (ws : List (List (Nat × Nat))) (k : Nat) (f : Nat → Nat → PyData) (z4 z5 z6 z7 z8 : Option PyData), (∀ w ∈ ws, WOk n T w) → ∃ y4 y5 y6 y7 y8, sTurns (gT [(gN 4), (gN 5)]) rnB3 (numD (k : Nat) (wavesD ws)) [L, P, none, some (rD (rowsF n T f)), z4, z5, z6, z7, z8] = .nx [L, P, none, some (rD (rowsF n T (putWs k f ws))), y4, y5, y6, y7, y8]
  | [], k, f, z4, z5, z6, z7, z8, _ => ⟨z4, z5, z6, z7, z8, rfl⟩
  | w :: ws, k, f, z4, z5, z6, z7, z8, h => by
    have h1 := h w List.mem_cons_self
    obtain ⟨y6, y7, y8, e1⟩ := rn_wave (L := L) (P := P) (s5 := some (.list (wavD w))) (k := k) hn w f z6 z7 z8 h1
    obtain ⟨y4', y5', y6', y7', y8', e2⟩ := rn_waves (L := L) (P := P) hn ws (k + 1) (putW f w (.int (k : Nat))) (some (.int (k : Nat))) (some (.list (wavD w))) y6 y7 y8 fun x hx => h x (List.mem_cons_of_mem _ hx)
    exact ⟨y4', y5', y6', y7', y8', zTurn rfl (zFor (zL (zVar rfl)) e1) e2⟩
set_option maxHeartbeats 4000000
open Classical in
theorem putW_at {d : PyData} {t r : Nat} : ∀ {w : List (Nat × Nat)} {f : Nat → Nat → PyData}, putW f w d t r = if ∃ q ∈ w, q.1 = t ∧ r ∈ bitsN q.2 then d else f t r
  | [], f => by
    rw [if_neg (fun ⟨_, h, _⟩ => nomatch h)]
    rfl
  | q :: w, f => by
    show putW (putS f q.1 (bitsN q.2) d) w d t r = _
    rw [putW_at, putS_at]
    by_cases h : ∃ q ∈ w, q.1 = t ∧ r ∈ bitsN q.2
    · obtain ⟨x, hx, y⟩ := h
      rw [if_pos ⟨x, hx, y⟩, if_pos ⟨x, List.mem_cons_of_mem _ hx, y⟩]
    · rw [if_neg h]
      by_cases k : t = q.1 ∧ r ∈ bitsN q.2
      · rw [if_pos k, if_pos ⟨q, List.mem_cons_self, k.1.symm, k.2⟩]
      · rw [if_neg k, if_neg]
        rintro ⟨x, hx, y1, y2⟩
        rcases List.mem_cons.mp hx with z | z
        · subst z
          exact k ⟨y1.symm, y2⟩
        · exact h ⟨x, z, y1, y2⟩
theorem putWs_at {R : Nat → Nat → Option Nat} {t r : Nat} : ∀ (ws : List (List (Nat × Nat))) (k : Nat) (f : Nat → Nat → PyData), (∀ i w, ws[i]? = some w → ∀ q ∈ w, ∀ r ∈ bitsN q.2, R q.1 r = some (k + i)) → putWs k f ws t r = optD (R t r) ∨ (putWs k f ws t r = f t r ∧ ∀ w ∈ ws, ∀ q ∈ w, ¬ (q.1 = t ∧ r ∈ bitsN q.2))
  | [], k, f, _ => .inr ⟨rfl, fun _ h => nomatch h⟩
  | w :: ws, k, f, h => by
    rcases putWs_at (t := t) (r := r) ws (k + 1) (putW f w (.int (k : Nat))) (fun i v hv q hq r hr => by
      have := h (i + 1) v (by simpa using hv) q hq r hr
      rwa [show k + (i + 1) = k + 1 + i by omega] at this) with e | ⟨e, no⟩
    · exact .inl e
    · have e' : putWs k f (w :: ws) t r = putW f w (.int (k : Nat)) t r := e
      rw [putW_at] at e'
      by_cases z : ∃ q ∈ w, q.1 = t ∧ r ∈ bitsN q.2
      · rw [if_pos z] at e'
        obtain ⟨q, hq, y1, y2⟩ := z
        have := h 0 w rfl q hq r y2
        rw [y1] at this
        rw [this]
        exact .inl e'
      · rw [if_neg z] at e'
        refine .inr ⟨e', fun v hv q hq y => ?_⟩
        rcases List.mem_cons.mp hv with a | a
        · exact z ⟨q, a ▸ hq, y⟩
        · exact no v a q hq y
theorem on_orAt {l : List Nat} {q : Nat × Nat} {t r : Nat} (h : On (orAt l q) t r) : On l t r ∨ (q.1 = t ∧ q.2.testBit r = true) := by
  unfold On orAt at h
  unfold On
  rw [List.getD_eq_getElem?_getD] at h
  by_cases e : t = q.1
  · subst e
    by_cases hl : q.1 < l.length
    · rw [List.getElem?_set_self hl] at h
      have h : (l.getD q.1 0 ||| q.2).testBit r = true := h
      rw [Nat.testBit_or, Bool.or_eq_true] at h
      exact h.imp id fun z => ⟨rfl, z⟩
    · rw [List.getElem?_eq_none (by rw [List.length_set]; omega)] at h
      have h : (0 : Nat).testBit r = true := h
      rw [Nat.zero_testBit] at h
      exact nomatch h
  · rw [List.getElem?_set_ne (Ne.symm e), ← List.getD_eq_getElem?_getD] at h
    exact .inl h
theorem on_fold {t r : Nat} : ∀ (w : List (Nat × Nat)) (l : List Nat), On (w.foldl orAt l) t r → On l t r ∨ ∃ q ∈ w, q.1 = t ∧ q.2.testBit r = true
  | [], _, h => .inl h
  | q :: w, l, h => by
    rcases on_fold w (orAt l q) h with z | ⟨x, hx, y⟩
    · rcases on_orAt z with z | z
      · exact .inl z
      · exact .inr ⟨q, List.mem_cons_self, z⟩
    · exact .inr ⟨x, List.mem_cons_of_mem _ hx, y⟩
theorem on_unionF {t r : Nat} : ∀ (ws : List (List (Nat × Nat))) (l : List Nat), On (ws.foldl (fun l w => w.foldl orAt l) l) t r → On l t r ∨ ∃ w ∈ ws, ∃ q ∈ w, q.1 = t ∧ q.2.testBit r = true
  | [], _, h => .inl h
  | w :: ws, l, h => by
    rcases on_unionF ws _ h with z | ⟨x, hx, y⟩
    · rcases on_fold w l z with z | z
      · exact .inl z
      · exact .inr ⟨w, List.mem_cons_self, z⟩
    · exact .inr ⟨x, List.mem_cons_of_mem _ hx, y⟩
theorem on_union {T t r : Nat} {ws : List (List (Nat × Nat))} (h : On (unionW T ws) t r) : ∃ w ∈ ws, ∃ q ∈ w, q.1 = t ∧ q.2.testBit r = true := by
  rcases on_unionF ws (zeros T) h with z | z
  · unfold On zeros at z
    rw [List.getD_eq_getElem?_getD] at z
    by_cases ht : t < T
    · rw [List.getElem?_replicate, if_pos ht] at z
      have z : (0 : Nat).testBit r = true := z
      rw [Nat.zero_testBit] at z
      exact nomatch z
    · rw [List.getElem?_eq_none (by rw [List.length_replicate]; omega)] at z
      have z : (0 : Nat).testBit r = true := z
      rw [Nat.zero_testBit] at z
      exact nomatch z
  · exact z
noncomputable abbrev rndF (ds : List Dr) (xss : List (List Int)) : Nat → Nat → PyData := fun t r => optD (rndV ds xss.length (Pr xss) t r)
theorem round_numbers_tells {n : Nat} {ds : List Dr} {xss : List (List Int)} (h : Good n ds xss) : F_round_numbers [encL n ds, .list (encP xss)] = .o (rD (rowsF n xss.length (rndF ds xss))) .none := by
  have hn := h.n2
  have hT := h.tl
  obtain ⟨ws, e, w1, w2, w3⟩ := waves_of_tells (by omega) h.fd h.fx h.tl h.z (by have := h.dl; omega) h.fuel
  have ri := Rn_in (rooms_in h.fd) h.fx.pr
  have ok : ∀ w ∈ ws, WOk n xss.length w := fun w hw q hq => by
    obtain ⟨i, hi⟩ := List.mem_iff_getElem?.mp hw
    obtain ⟨a, b⟩ := w2 i w hi q hq
    exact ⟨a, fun r hr => (ri _ _ _ (b r hr).1).2⟩
  have eq : rowsF n xss.length (putWs 0 (fun _ _ => .none) ws) = rowsF n xss.length (rndF ds xss) := rowsF_congr fun t ht r hr => by
    rcases putWs_at (R := fun t r => rndV ds xss.length (Pr xss) t r) (t := t) (r := r) ws 0 (fun _ _ => .none) (fun i w hi q hq r hr => by
      have b := wok_bits (n := n) (by omega) (ok w (List.mem_of_getElem? hi) q hq).2
      obtain ⟨_, c⟩ := w2 i w hi q hq
      obtain ⟨c1, c2⟩ := c r ((bitsN_mem b).mp hr)
      rw [Nat.zero_add]
      exact rnd_some c1 c2) with z | ⟨z, no⟩
    · exact z
    · rw [z]
      have : ¬ Lt ds xss.length (Pr xss) t r := fun y => by
        obtain ⟨w, hw, q, hq, q1, q2⟩ := on_union ((w1.last t r).mpr y)
        exact no w hw q hq ⟨q1, (bitsN_mem (wok_bits (n := n) (by omega) (ok w hw q hq).2)).mpr q2⟩
      show PyData.none = optD (rndV ds xss.length (Pr xss) t r)
      rw [rnd_none this]
      rfl
  obtain ⟨y4, y5, y6, y7, y8, e2⟩ := rn_waves (n := n) (T := xss.length) (L := some (encL n ds)) (P := some (.list (encP xss))) (by omega) ws 0 (fun _ _ => .none) none none none none none ok
  rw [eq] at e2
  have el : (encP xss).length = xss.length := by unfold encP; rw [List.length_map]
  have i1 : lcItR [2] (gN 2) tYesZ (eLc (iR1 (aCons (eOp gIxT (eVar 0) (eC (.int 0))) aNil)) [2] (gN 2) tYesZ (eC .none)) (encP xss) [some (encL n ds), some (.list (encP xss)), none, none, none, none, none, none, none] = some (rowsF n xss.length (fun _ _ => .none), [some (encL n ds), some (.list (encP xss)), none, none, none, none, none, none, none]) := by
    have r1 : rowsF n xss.length (fun _ _ => .none) = xss.map fun _ => (List.range n).map fun _ => PyData.none := by
      unfold rowsF
      rw [List.map_const', List.map_const', List.length_range]
      exact (List.map_const' ..).symm
    rw [r1]
    refine lcR_map (fun xs : List Int => PyData.list (xs.map PyData.int)) (fun _ => (List.range n).map fun _ => PyData.none) xss fun xs _ => ⟨_, rfl, _, rfl, ?_⟩
    have it : lcItems [2] (gN 2) tYesZ (eC .none) (rgD 0 n) [some (encL n ds), some (.list (encP xss)), none, none, none, none, none, none, none] = some ((List.range n).map fun _ => PyData.none, [some (encL n ds), some (.list (encP xss)), none, none, none, none, none, none, none]) := by
      rw [range_data]
      exact lc_map (fun t : Nat => PyData.int (t : Nat)) (fun _ => PyData.none) (List.range n) fun t _ => ⟨_, rfl, _, rfl, _, rfl, rfl⟩
    have l2 : (rgD 0 n).length ≤ 40000 := by rw [rgD_below, List.length_map, below_len]; omega
    exact ⟨_, zLc (zR1 (n := n) (zOne (zOp (zVar rfl) rfl rfl)) (by omega)) l2 it, rfl⟩
  have s1 : sAsgO 3 (eLcR (iL (eVar 1)) [2] (gN 2) tYesZ (eLc (iR1 (aCons (eOp gIxT (eVar 0) (eC (.int 0))) aNil)) [2] (gN 2) tYesZ (eC .none))) [some (encL n ds), some (.list (encP xss)), none, none, none, none, none, none, none] = .nx [some (encL n ds), some (.list (encP xss)), none, some (rD (rowsF n xss.length (fun _ _ => .none))), none, none, none, none, none] := by
    have ll : (encP xss).length ≤ 40000 := by omega
    have iL1 : iL (eVar 1) [some (encL n ds), some (.list (encP xss)), none, none, none, none, none, none, none] = .vs (encP xss) [some (encL n ds), some (.list (encP xss)), none, none, none, none, none, none, none] := zL (zVar rfl)
    exact zAsgO (zLcR (vs := [2]) iL1 ll i1)
  have s2 : sFor (iEn (aCons (eFz (eCall F_waves_of [.s 0, .s 1] (aCons (eVar 0) (aCons (eVar 1) aNil)))) aNil)) (gT [(gN 4), (gN 5)]) rnB3 [some (encL n ds), some (.list (encP xss)), none, some (rD (rowsF n xss.length (fun _ _ => .none))), none, none, none, none, none] = .nx [some (encL n ds), some (.list (encP xss)), none, some (rD (rowsF n xss.length (rndF ds xss))), y4, y5, y6, y7, y8] :=
    zFor (zEn (zOne (zFzL (zCallO (zTwo (zVar rfl) (zVar rfl)) e)))) e2
  exact zFn rfl (congrArg (finY none) (zSeq s1 (zSeq s2 (zRetO (zMove rfl)))))
theorem lit_rounds_tells {n : Nat} {ds : List Dr} {xss : List (List Int)} (h : Good n ds xss) : F_lit_rounds [encL n ds, .list (encP xss)] = .o (rD (rowsF n xss.length (rndF ds xss))) .none := by
  have c1 := check_level_tells h.n1 h.fd (by have := h.dl; omega)
  have c2 := check_presses_tells (ds := ds) h.fx (by have := h.tl; omega)
  have e := round_numbers_tells h
  exact zFn rfl (congrArg (finY none) (zSeq (zDropV (zFzV (zCallV (zOne (zVar rfl)) c1))) (zSeq (zDropV (zFzV (zCallV (zTwo (zVar rfl) (zVar rfl)) c2))) (zRetO (zCallO (zTwo (zVar rfl) (zVar rfl)) e)))))
set_option maxHeartbeats 4000000
theorem maskN_at (xs : List Nat) (r : Nat) : (maskN xs).testBit r = decide (r ∈ xs) := by
  unfold maskN
  rw [maskN_bit, Nat.zero_testBit, Bool.false_or]
abbrev kdB : En → SR := sSeq (sAsg (eOp (gI fun i j => i + j) (eVar 5) (eVar 4)) (gN 6)) (sIf (tAndZ (tVal' (eOp gEq (eOp (gI Builtin.bitAnd) (eOp gIxL (eVar 0) (eVar 5)) (eVar 2)) (eVar 2))) (tAndZ (tVal' (eChain (gB fun i j => decide (i ≤ j)) (gB fun i j => decide (i < j)) (eC (.int 0)) (eVar 6) (eCB gLen (aCons (eVar 0) aNil)))) (tNotZ (tTru' (eOp (gI Builtin.bitAnd) (eOp gIxL (eVar 0) (eVar 6)) (eVar 3)))))) (sRet (eC (.bool false))) sNext)
theorem kd_turn {lit : List Nat} {d : Dm} {t : Nat} {D z6 : Option PyData} (ht : t < lit.length) (hk : ∀ k : Nat, lit.getD t 0 &&& d.needs = d.needs → (t : Int) + d.shift = (k : Int) → k < lit.length → lit.getD k 0 &&& d.gives ≠ 0) : kdB [some (.list (natD lit)), D, some (.int (d.needs : Nat)), some (.int (d.gives : Nat)), some (.int d.shift), some (.int (t : Nat)), z6] = .nx [some (.list (natD lit)), D, some (.int (d.needs : Nat)), some (.int (d.gives : Nat)), some (.int d.shift), some (.int (t : Nat)), some (.int ((t : Nat) + d.shift))] := by
  generalize hgo : ((t : Nat) : Int) + d.shift = goal
  have s1 : sAsg (eOp (gI fun i j => i + j) (eVar 5) (eVar 4)) (gN 6) [some (.list (natD lit)), D, some (.int (d.needs : Nat)), some (.int (d.gives : Nat)), some (.int d.shift), some (.int (t : Nat)), z6] = .nx [some (.list (natD lit)), D, some (.int (d.needs : Nat)), some (.int (d.gives : Nat)), some (.int d.shift), some (.int (t : Nat)), some (.int goal)] := by
    rw [← hgo]
    exact zAsgN (i := 6) (zOp (z := .int ((t : Nat) + d.shift)) (zVar rfl) (zVar rfl) rfl)
  refine zSeq s1 (zSIfF ?_ rfl)
  have bl : ∀ a b : Nat, gI Builtin.bitAnd (.int (a : Nat)) (.int (b : Nat)) = some (.int ((a &&& b : Nat) : Int)) := fun a b => by
    show some (PyData.int (Builtin.bitAnd _ _)) = _
    rw [bitAnd_nat]
  have A : tVal' (eOp gEq (eOp (gI Builtin.bitAnd) (eOp gIxL (eVar 0) (eVar 5)) (eVar 2)) (eVar 2)) [some (.list (natD lit)), D, some (.int (d.needs : Nat)), some (.int (d.gives : Nat)), some (.int d.shift), some (.int (t : Nat)), some (.int goal)] = .b (decide (((lit.getD t 0 &&& d.needs : Nat) : Int) = (d.needs : Nat))) [some (.list (natD lit)), D, some (.int (d.needs : Nat)), some (.int (d.gives : Nat)), some (.int d.shift), some (.int (t : Nat)), some (.int goal)] :=
    zVal (zOp (zOp (zOp (zVar rfl) (zVar rfl) (natD_at ht)) (zVar rfl) (bl _ _)) (zVar rfl) rfl)
  have B : tVal' (eChain (gB fun i j => decide (i ≤ j)) (gB fun i j => decide (i < j)) (eC (.int 0)) (eVar 6) (eCB gLen (aCons (eVar 0) aNil))) [some (.list (natD lit)), D, some (.int (d.needs : Nat)), some (.int (d.gives : Nat)), some (.int d.shift), some (.int (t : Nat)), some (.int goal)] = .b (decide ((0 : Int) ≤ goal) && decide (goal < ((natD lit).length : Nat))) [some (.list (natD lit)), D, some (.int (d.needs : Nat)), some (.int (d.gives : Nat)), some (.int d.shift), some (.int (t : Nat)), some (.int goal)] :=
    zVal (zChain rfl (zVar rfl) rfl (zCB (zOne (zVar rfl)) rfl) rfl)
  by_cases c1 : lit.getD t 0 &&& d.needs = d.needs
  · rw [decide_eq_true (show ((lit.getD t 0 &&& d.needs : Nat) : Int) = (d.needs : Nat) by rw [c1])] at A
    refine zAndT A ?_
    by_cases c2 : (0 : Int) ≤ goal ∧ goal < ((natD lit).length : Nat)
    · rw [decide_eq_true c2.1, decide_eq_true c2.2] at B
      refine zAndT B ?_
      obtain ⟨k, rfl⟩ : ∃ k : Nat, goal = (k : Int) := ⟨goal.toNat, by omega⟩
      have kl : k < lit.length := by
        have := c2.2
        rw [natD_len] at this
        omega
      have nz := hk k c1 hgo kl
      refine zNot (b := true) (zTru (zOp (zOp (zVar rfl) (zVar rfl) (natD_at kl)) (zVar rfl) (bl _ _)) ?_)
      show some (((lit.getD k 0 &&& d.gives : Nat) : Int) != 0) = some true
      rw [bne_iff_ne.mpr (by omega)]
    · have : (decide ((0 : Int) ≤ goal) && decide (goal < ((natD lit).length : Nat))) = false := by
        rw [← Bool.decide_and]
        exact decide_eq_false c2
      rw [this] at B
      exact zAndF B
  · rw [decide_eq_false (show ¬ ((lit.getD t 0 &&& d.needs : Nat) : Int) = (d.needs : Nat) by omega)] at A
    exact zAndF A
theorem kd_turns {lit : List Nat} {d : Dm} {D : Option PyData} (hk : ∀ t, t < lit.length → ∀ k : Nat, lit.getD t 0 &&& d.needs = d.needs → (t : Int) + d.shift = (k : Int) → k < lit.length → lit.getD k 0 &&& d.gives ≠ 0) : ∀ (ts : List Nat) (z5 z6 : Option PyData), (∀ t ∈ ts, t < lit.length) → ∃ y5 y6, sTurns (gN 5) kdB (ts.map fun t => PyData.int (t : Nat)) [some (.list (natD lit)), D, some (.int (d.needs : Nat)), some (.int (d.gives : Nat)), some (.int d.shift), z5, z6] = .nx [some (.list (natD lit)), D, some (.int (d.needs : Nat)), some (.int (d.gives : Nat)), some (.int d.shift), y5, y6]
  | [], z5, z6, _ => ⟨z5, z6, rfl⟩
  | t :: ts, z5, z6, h => by
    have ht := h t List.mem_cons_self
    obtain ⟨y5, y6, e⟩ := kd_turns (D := D) hk ts (some (.int (t : Nat))) (some (.int ((t : Nat) + d.shift))) fun x hx => h x (List.mem_cons_of_mem _ hx)
    exact ⟨y5, y6, zTurn rfl (kd_turn ht (hk t ht)) e⟩
theorem keeps_door_tells {lit : List Nat} {d : Dm} (hl : lit.length ≤ 40000) (hk : ∀ t, t < lit.length → ∀ k : Nat, lit.getD t 0 &&& d.needs = d.needs → (t : Int) + d.shift = (k : Int) → k < lit.length → lit.getD k 0 &&& d.gives ≠ 0) : F_keeps_door [.list (natD lit), d.enc] = .v (.bool true) .none := by
  obtain ⟨y5, y6, e⟩ := kd_turns (D := some d.enc) hk (List.range lit.length) none none fun t h => List.mem_range.mp h
  rw [← range_data, ← natD_len] at e
  have s1 : sAsg (eVar 1) (gT [(gN 2), (gN 3), (gN 4)]) [some (.list (natD lit)), some d.enc, none, none, none, none, none] = .nx [some (.list (natD lit)), some d.enc, some (.int (d.needs : Nat)), some (.int (d.gives : Nat)), some (.int d.shift), none, none] := zAsg (zVar rfl) rfl
  exact zFn rfl (congrArg (finY none) (zSeq s1 (zSeq (zFor (zR1 (zOne (zCB (zOne (zVar rfl)) rfl)) (by rw [natD_len]; exact hl)) e) (zRetV rfl))))
theorem all_true {α : Type} : ∀ xs : List α, gAll [.list (xs.map fun _ => PyData.bool true)] = some (.bool true) := fun xs => by
  have b : ∀ xs : List α, boolsOf (xs.map fun _ => PyData.bool true) = some (xs.map fun _ => true) := fun xs => by
    induction xs with
    | nil => rfl
    | cons x xs ih =>
      show (match boolsOf (xs.map fun _ => PyData.bool true) with | some bs => some (true :: bs) | none => none) = _
      rw [ih]
      rfl
  show (match boolsOf (xs.map fun _ => PyData.bool true) with | some bs => some (PyData.bool (bs.all id)) | none => none) = _
  rw [b]
  dsimp only
  rw [show (xs.map fun _ => true).all id = true from List.all_eq_true.mpr fun x hx => by
    obtain ⟨_, _, rfl⟩ := List.mem_map.mp hx
    rfl]
abbrev ikB : En → SR := sIf (tTru' (eOp (gI Builtin.bitAnd) (eFz (eCall F_mask_of [.d] (aCons (eVar 3) aNil))) (eUn (gUI Builtin.bitNot) (eOp gIxL (eVar 4) (eVar 5))))) (sRet (eC (.bool false))) sNext
theorem ik_turns {n : Nat} {lit : List Nat} {L P V z6 : Option PyData} (hn : n ≤ 999) : ∀ (xss : List (List Int)) (t : Nat) (z3 z5 : Option PyData), FitP n xss → t + xss.length ≤ lit.length → (∀ i xs, xss[i]? = some xs → ∀ x ∈ xs, On lit (t + i) x.toNat) → ∃ y3 y5, sTurns (gT [(gN 5), (gN 3)]) ikB (numD (t : Nat) (encP xss)) [L, P, V, z3, some (.list (natD lit)), z5, z6] = .nx [L, P, V, y3, some (.list (natD lit)), y5, z6]
  | [], t, z3, z5, _, _, _ => ⟨z3, z5, rfl⟩
  | xs :: xss, t, z3, z5, h, hl, ho => by
    rw [List.length_cons] at hl
    obtain ⟨y3, y5, e⟩ := ik_turns (lit := lit) (L := L) (P := P) (V := V) (z6 := z6) hn xss (t + 1) (some (.list (xs.map PyData.int))) (some (.int (t : Nat))) (fun q hq => h q (List.mem_cons_of_mem _ hq)) (by omega) fun i ys hi x hx => by
      have := ho (i + 1) ys (by simpa using hi) x hx
      rwa [show t + (i + 1) = t + 1 + i by omega] at this
    obtain ⟨e1, e2⟩ := nat_of_below (h xs List.mem_cons_self)
    have mt := mask_tells (xs := xs.map Int.toNat) fun k hk => by have := e2 k hk; omega
    rw [← e1] at mt
    have o0 := ho 0 xs rfl
    have z0 : maskN (xs.map Int.toNat) - (maskN (xs.map Int.toNat) &&& lit.getD t 0) = 0 := Nat.eq_of_testBit_eq fun r => by
      rw [sub_and_bit, maskN_at, Nat.zero_testBit]
      by_cases hr : r ∈ xs.map Int.toNat
      · obtain ⟨x, hx, rfl⟩ := List.mem_map.mp hr
        have : (lit.getD t 0).testBit x.toNat = true := o0 x hx
        rw [this, decide_eq_true hr]
        rfl
      · rw [decide_eq_false hr]
        rfl
    have an : gI Builtin.bitAnd (.int (maskN (xs.map Int.toNat) : Nat)) (.int (Builtin.bitNot ((lit.getD t 0 : Nat) : Int))) = some (.int 0) := by
      show some (PyData.int (Builtin.bitAnd _ _)) = _
      rw [andNot_nat, z0]
      rfl
    have tt : ikB [L, P, V, some (.list (xs.map PyData.int)), some (.list (natD lit)), some (.int (t : Nat)), z6] = .nx [L, P, V, some (.list (xs.map PyData.int)), some (.list (natD lit)), some (.int (t : Nat)), z6] :=
      zSIfF (zTru (zOp (zFzV (zCallV (zOne (zVar rfl)) mt)) (zUn (zOp (zVar rfl) (zVar rfl) (natD_at (by omega))) rfl) an) rfl) rfl
    exact ⟨y3, y5, zTurn rfl tt e⟩
def castP (hs : List (List Nat)) : List (List Int) := hs.map fun h => h.map fun r => ((r : Nat) : Int)
theorem castP_enc (hs : List (List Nat)) : encP (castP hs) = histD hs := by
  unfold encP castP histD
  rw [List.map_map]
  refine List.map_congr_left fun h _ => ?_
  show PyData.list ((h.map fun r => ((r : Nat) : Int)).map PyData.int) = .list (natD h)
  rw [List.map_map]
  rfl
theorem castP_fit {n T : Nat} {S : Nat → Nat → Prop} : FitP n (castP (litL n T S)) := fun xs hxs => by
  unfold castP litL at hxs
  rw [List.map_map] at hxs
  obtain ⟨t, _, rfl⟩ := List.mem_map.mp hxs
  exact List.Sublist.map _ List.filter_sublist
open Classical in
theorem lit_on {n T : Nat} {S : Nat → Nat → Prop} (hS : ∀ k r, S k r → k < T ∧ r < n) (k r : Nat) : On ((litL n T S).map maskN) k r ↔ S k r := by
  unfold On
  rw [List.getD_eq_getElem?_getD, List.getElem?_map]
  unfold litL
  rw [List.getElem?_map]
  by_cases hk : k < T
  · rw [List.getElem?_range hk]
    show (maskN _).testBit r = true ↔ _
    rw [maskN_at]
    constructor
    · intro h
      have := List.mem_filter.mp (of_decide_eq_true h)
      exact of_decide_eq_true this.2
    · intro h
      exact decide_eq_true (List.mem_filter.mpr ⟨List.mem_range.mpr (hS k r h).2, decide_eq_true h⟩)
  · rw [List.getElem?_eq_none (by rw [List.length_range]; omega)]
    constructor
    · intro h
      have h : (0 : Nat).testBit r = true := h
      rw [Nat.zero_testBit] at h
      exact nomatch h
    · exact fun h => absurd (hS k r h).1 hk
theorem Lt_giv {ds : List Dr} {T : Nat} {P : Nat → Nat → Prop} {m : Nat} {g : List ((Nat × Nat) × Nat)} (hi : LI ds T P m g) (hm : moreN g T ds = []) {d : Dr} (hd : d ∈ ds) {t k : Nat} (ht : t < T) (hn : ∀ x ∈ d.needs, Lt ds T P t x.toNat) (hs : (t : Int) + d.shift = (k : Int)) (hk : k < T) : Lt ds T P k d.room.toNat := by
  have e := fun k r => (hi.last hm k r).symm.trans (hi.on k r)
  refine ⟨m + 1, ?_⟩
  refine .inr ⟨d, hd, t, ht, fun x hx => (e _ _).mp (hn x hx), hs, hk, rfl⟩
set_option maxHeartbeats 4000000
theorem one_mask {a r : Nat} (h : a.testBit r = true) : a &&& 2 ^ r ≠ 0 := fun z => by
  have : (a &&& 2 ^ r).testBit r = true := by
    rw [Nat.testBit_and, h, Nat.testBit_two_pow_self]
    rfl
  rw [z, Nat.zero_testBit] at this
  exact nomatch this
theorem is_keeping_tells {n : Nat} {ds : List Dr} {xss : List (List Int)} (h : Good n ds xss) {m : Nat} {g : List ((Nat × Nat) × Nat)} (hi : LI ds xss.length (Pr xss) m g) (hm : moreN g xss.length ds = []) : F_is_keeping [encL n ds, .list (encP xss), .list (histD (litL n xss.length (LtX ds xss)))] = .v (.bool true) .none := by
  have hn := h.n2
  have hT := h.tl
  have lin : ∀ k r, LtX ds xss k r → k < xss.length ∧ r < n := fun k r w => Lt_in (rooms_in h.fd) h.fx.pr w
  have fy : FitP n (castP (litL n xss.length (LtX ds xss))) := castP_fit
  have on := lit_on (S := LtX ds xss) lin
  have ll : (litL n xss.length (LtX ds xss)).length = xss.length := litL_len _ _ _
  generalize hH : litL n xss.length (LtX ds xss) = hs at fy on ll ⊢
  have ml : (hs.map maskN).length = xss.length := by rw [List.length_map, ll]
  have pl : (encP xss).length = xss.length := by unfold encP; rw [List.length_map]
  have hl : (histD hs).length = xss.length := by unfold histD; rw [List.length_map, ll]
  have g1 : gFitsPresses [.int (n : Nat), .list (histD hs)] = some (.bool true) := by
    rw [← castP_enc]
    show (match decide ((encP (castP hs)).length ≤ 30000) with
      | true => some (PyData.bool (fitsPresses (n : Int) (.list (encP (castP hs)))))
      | false => none) = _
    rw [castP_enc, decide_eq_true (by omega), ← castP_enc, fits_presses fy]
  have g2 : gNe (.int ((histD hs).length : Nat)) (.int ((encP xss).length : Nat)) = some (.bool false) := by
    rw [hl, pl]
    show some (PyData.bool (!decide ((xss.length : Int) = xss.length))) = _
    rw [decide_eq_true rfl]
    rfl
  have i1 : lcItems [3] (gN 3) tYesZ (eFz (eCall F_mask_of [.d] (aCons (eVar 3) aNil))) (histD hs) [some (encL n ds), some (.list (encP xss)), some (.list (histD hs)), none, none, none, none] = some (natD (hs.map maskN), [some (encL n ds), some (.list (encP xss)), some (.list (histD hs)), none, none, none, none]) := by
    have := lc_map (vs := [3]) (gz := gN 3) (ft := tYesZ) (fe := eFz (eCall F_mask_of [.d] (aCons (eVar 3) aNil))) (ρ := [some (encL n ds), some (.list (encP xss)), some (.list (histD hs)), none, none, none, none]) (fun q : List Nat => PyData.list (natD q)) (fun q => PyData.int (maskN q : Nat)) hs fun q hq => by
      have mt := mask_tells (xs := q) fun k hk => by
        rw [← hH] at hq
        unfold litL at hq
        obtain ⟨t, _, rfl⟩ := List.mem_map.mp hq
        have := List.mem_range.mp (List.mem_filter.mp hk).1
        omega
      exact ⟨_, rfl, _, rfl, _, zFzV (zCallV (zOne (zVar rfl)) mt), rfl⟩
    rw [show natD (hs.map maskN) = hs.map fun q => PyData.int (maskN q : Nat) by
      unfold natD
      rw [List.map_map]
      rfl]
    exact this
  obtain ⟨y3, y5, e2⟩ := ik_turns (lit := hs.map maskN) (L := some (encL n ds)) (P := some (.list (encP xss))) (V := some (.list (histD hs))) (z6 := none) (by omega) xss 0 none none h.fx (by omega) fun i xs hx x hxx => by
    rw [Nat.zero_add]
    refine (on i x.toNat).mpr ⟨0, xs, hx, ?_⟩
    have := (below_mem.mp ((h.fx xs (List.mem_of_getElem? hx)).subset hxx)).1
    rw [Int.toNat_of_nonneg this]
    exact hxx
  have dm := door_masks_tells (n := n) (ds := ds) (by omega) h.fd (by have := h.dl; omega)
  have i3 : lcItems [6] (gN 6) tYesZ (eFz (eCall F_keeps_door [.d, .d] (aCons (eVar 4) (aCons (eVar 6) aNil)))) (ds.map fun d => (dmOf d).enc) [some (encL n ds), some (.list (encP xss)), some (.list (histD hs)), y3, some (.list (natD (hs.map maskN))), y5, none] = some (ds.map fun _ => PyData.bool true, [some (encL n ds), some (.list (encP xss)), some (.list (histD hs)), y3, some (.list (natD (hs.map maskN))), y5, none]) :=
    lc_map (fun d : Dr => (dmOf d).enc) (fun _ => PyData.bool true) ds fun d hd => by
      have kd := keeps_door_tells (lit := hs.map maskN) (d := dmOf d) (by omega) fun t ht k c1 c2 c3 => by
        have need := (need_mask _ _).mp c1
        have lk : LtX ds xss k d.room.toNat := Lt_giv hi hm hd (by omega) (fun x hx => (on t x.toNat).mp (need x.toNat (List.mem_map_of_mem hx))) c2 (by omega)
        exact one_mask ((on k d.room.toNat).mpr lk)
      exact ⟨_, rfl, _, rfl, _, zFzV (zCallV (zTwo (zVar rfl) (zVar rfl)) kd), rfl⟩
  have t1 : tOrZ (tNotZ (tVal' (eCB gFitsPresses (aCons (eOp gIxT (eVar 0) (eC (.int 0))) (aCons (eVar 2) aNil))))) (tVal' (eOp gNe (eCB gLen (aCons (eVar 2) aNil)) (eCB gLen (aCons (eVar 1) aNil)))) [some (encL n ds), some (.list (encP xss)), some (.list (histD hs)), none, none, none, none] = .b false [some (encL n ds), some (.list (encP xss)), some (.list (histD hs)), none, none, none, none] :=
    zOrF (zNot (b := true) (zVal (zCB (zTwo (zOp (zVar rfl) rfl rfl) (zVar rfl)) g1))) (zVal (zOp (zCB (zOne (zVar rfl)) rfl) (zCB (zOne (zVar rfl)) rfl) g2))
  have i0 : iL (eVar 2) [some (encL n ds), some (.list (encP xss)), some (.list (histD hs)), none, none, none, none] = .vs (histD hs) [some (encL n ds), some (.list (encP xss)), some (.list (histD hs)), none, none, none, none] := zL (zVar rfl)
  have s2 : sAsg (eFz (eLc (iL (eVar 2)) [3] (gN 3) tYesZ (eFz (eCall F_mask_of [.d] (aCons (eVar 3) aNil))))) (gN 4) [some (encL n ds), some (.list (encP xss)), some (.list (histD hs)), none, none, none, none] = .nx [some (encL n ds), some (.list (encP xss)), some (.list (histD hs)), none, some (.list (natD (hs.map maskN))), none, none] :=
    zAsgN (i := 4) (zFzL (zLc (vs := [3]) i0 (by omega) i1))
  have s3 : sFor (iEn (aCons (eVar 1) aNil)) (gT [(gN 5), (gN 3)]) ikB [some (encL n ds), some (.list (encP xss)), some (.list (histD hs)), none, some (.list (natD (hs.map maskN))), none, none] = .nx [some (encL n ds), some (.list (encP xss)), some (.list (histD hs)), y3, some (.list (natD (hs.map maskN))), y5, none] := zFor (zEn (zOne (zVar rfl))) e2
  have i4 : iL (eFz (eCall F_door_masks [.s 0] (aCons (eVar 0) aNil))) [some (encL n ds), some (.list (encP xss)), some (.list (histD hs)), y3, some (.list (natD (hs.map maskN))), y5, none] = .vs (ds.map fun d => (dmOf d).enc) [some (encL n ds), some (.list (encP xss)), some (.list (histD hs)), y3, some (.list (natD (hs.map maskN))), y5, none] := zL (zFzL (zCallO (zOne (zVar rfl)) dm))
  refine zFn rfl (congrArg (finY none) (zSeq (zSIfF t1 rfl) (zSeq s2 (zSeq s3 (zRetV (zCB (zOne (zFzL (zLc (vs := [6]) i4 (by rw [List.length_map]; have := h.dl; omega) i3))) (all_true ds)))))))
theorem keeps_tells {n : Nat} {ds : List Dr} {xss : List (List Int)} (h : Good n ds xss) {m : Nat} {g : List ((Nat × Nat) × Nat)} (hi : LI ds xss.length (Pr xss) m g) (hm : moreN g xss.length ds = []) : F_keeps [encL n ds, .list (encP xss), .list (histD (litL n xss.length (LtX ds xss)))] = .v (.bool true) .none := by
  have c1 := check_level_tells h.n1 h.fd (by have := h.dl; omega)
  have c2 := check_presses_tells (ds := ds) h.fx (by have := h.tl; omega)
  have e := is_keeping_tells h hi hm
  exact zFn rfl (congrArg (finY none) (zSeq (zDropV (zFzV (zCallV (zOne (zVar rfl)) c1))) (zSeq (zDropV (zFzV (zCallV (zTwo (zVar rfl) (zVar rfl)) c2))) (zRetV (zCallV (zCons (zVar rfl) (zTwo (zVar rfl) (zVar rfl))) e)))))
set_option maxHeartbeats 4000000
abbrev f2T : En → SR := sIf (tOrZ (tVal' (eOp gNeA (eOp gIxLN (eVar 13) (eUn gNeg (eC (.int 1)))) (eTup (aCons (eC (.str "mark")) (aCons (eVar 12) aNil))))) (tAndZ (tVal' (eOp (gB fun i j => decide (j < i)) (eCB gLen (aCons (eVar 13) aNil)) (eC (.int 1)))) (tVal' (eIsi "tuple" (eOp gIxLN (eVar 13) (eUn gNeg (eC (.int 2)))))))) (sRet (eC (.bool false))) sNext
theorem ix_last (ys : List PyData) (m : PyData) : gIxLN (.list (ys ++ [m])) (.int (-1)) = some m := by
  show (match decide (0 < (ys ++ [m]).length) with
    | true => (ys ++ [m])[(ys ++ [m]).length - 1 - 0]?
    | false => none) = _
  rw [decide_eq_true (by rw [List.length_append]; simp)]
  dsimp only
  rw [show (ys ++ [m]).length - 1 - 0 = ys.length by rw [List.length_append]; simp, List.getElem?_append_right (Nat.le_refl _), Nat.sub_self]
  rfl
theorem ix_last2 (zs : List PyData) (y m : PyData) : gIxLN (.list (zs ++ [y] ++ [m])) (.int (-2)) = some y := by
  show (match decide (1 < (zs ++ [y] ++ [m]).length) with
    | true => (zs ++ [y] ++ [m])[(zs ++ [y] ++ [m]).length - 1 - 1]?
    | false => none) = _
  rw [decide_eq_true (by rw [List.length_append, List.length_append]; simp)]
  dsimp only
  rw [show (zs ++ [y] ++ [m]).length - 1 - 1 = zs.length by rw [List.length_append, List.length_append]; simp, List.append_assoc, List.getElem?_append_right (Nat.le_refl _), Nat.sub_self]
  rfl
theorem sh_mkN (k : Nat) : SeqAt.shaped (mkN k) = true := by
  have h : PyData.strOk (Str.ofString "mark") = true := by decide +kernel
  simp [SeqAt.shaped, mkN, PyData.canLay0, PyData.canLayAll0, PyData.depth, PyData.depthAll, h]
theorem eqv_mkN (k : Nat) : PyData.eqv (mkN k) (mkN k) = true := by
  simp [mkN, PyData.eqv, PyData.eqvAll]
theorem f2_turn {ys : List PyData} {k : Nat} (hk : k ≤ 1000000) (hy : ∀ y ∈ ys, isT "tuple" y = false) {ρ : En} (h12 : ρ[12]? = some (some (.int (k : Nat)))) (h13 : ρ[13]? = some (some (.list (ys ++ [mkN k])))) : f2T ρ = .nx ρ := by
  have A : tVal' (eOp gNeA (eOp gIxLN (eVar 13) (eUn gNeg (eC (.int 1)))) (eTup (aCons (eC (.str "mark")) (aCons (eVar 12) aNil)))) ρ = .b false ρ := by
    refine zVal (zOp (zOp (zVar h13) (zUn rfl rfl) (ix_last ys (mkN k))) (zTup (zTwo rfl (zVar h12)) (Nat.le_of_ble_eq_true rfl)) ?_)
    show gNeA (mkN k) (mkN k) = _
    show (match SeqAt.shaped (mkN k) && SeqAt.shaped (mkN k) with
      | true => some (PyData.bool (!PyData.eqv (mkN k) (mkN k)))
      | false => none) = _
    rw [sh_mkN, eqv_mkN]
    rfl
  have L : tVal' (eOp (gB fun i j => decide (j < i)) (eCB gLen (aCons (eVar 13) aNil)) (eC (.int 1))) ρ = .b (decide ((1 : Int) < ((ys ++ [mkN k]).length : Nat))) ρ := zVal (zOp (zCB (zOne (zVar h13)) rfl) rfl rfl)
  refine zSIfF (zOrF A ?_) rfl
  rcases List.eq_nil_or_concat ys with e | ⟨zs, y, e⟩
  · subst e
    exact zAndF L
  · rw [List.concat_eq_append] at e
    subst e
    rw [decide_eq_true (show (1 : Int) < ((zs ++ [y] ++ [mkN k]).length : Nat) by rw [List.length_append, List.length_append]; simp; omega)] at L
    refine zAndT L (zVal ?_)
    have := wIsi (T := "tuple") (zOp (zVar h13) (zUn (fa := eC (.int 2)) (q := gNeg) (z := .int (-2)) rfl rfl) (ix_last2 zs y (mkN k)))
    rw [hy y (List.mem_append_right _ List.mem_cons_self)] at this
    exact this
theorem f2_turns {a0 a1 a2 a3 a4 a5 a6 a7 a8 a9 b0 b1 : Option PyData} : ∀ (rs : List (List PyData)) (k : Nat) (z2 z3 : Option PyData), k + rs.length ≤ 1000000 → (∀ r ∈ rs, ∀ y ∈ r, isT "tuple" y = false) → ∃ y2 y3, sTurns (gT [(gN 12), (gN 13)]) f2T (numD (k : Nat) ((markR k rs).map PyData.list)) [a0, a1, a2, a3, a4, a5, a6, a7, a8, a9, b0, b1, z2, z3] = .nx [a0, a1, a2, a3, a4, a5, a6, a7, a8, a9, b0, b1, y2, y3]
  | [], k, z2, z3, _, _ => ⟨z2, z3, rfl⟩
  | r :: rs, k, z2, z3, hk, h => by
    rw [List.length_cons] at hk
    obtain ⟨y2, y3, e⟩ := f2_turns (a0 := a0) (a1 := a1) (a2 := a2) (a3 := a3) (a4 := a4) (a5 := a5) (a6 := a6) (a7 := a7) (a8 := a8) (a9 := a9) (b0 := b0) (b1 := b1) rs (k + 1) (some (.int (k : Nat))) (some (.list (r ++ [mkN k]))) (by omega) fun x hx => h x (List.mem_cons_of_mem _ hx)
    exact ⟨y2, y3, zTurn rfl (f2_turn (k := k) (by omega) (h r List.mem_cons_self) rfl rfl) e⟩
abbrev f2B : En → SR := sFor (iEn (aCons (eVar 11) aNil)) (gT [(gN 12), (gN 13)]) f2T
theorem f2_tells {a0 a1 a2 a3 a4 a5 a6 a7 a8 a9 b0 z2 z3 : Option PyData} {rs : List (List PyData)} (hl : rs.length ≤ 1000) (h : ∀ r ∈ rs, ∀ y ∈ r, isT "tuple" y = false) : ∃ y2 y3, f2B [a0, a1, a2, a3, a4, a5, a6, a7, a8, a9, b0, some (aliasD rs), z2, z3] = .nx [a0, a1, a2, a3, a4, a5, a6, a7, a8, a9, b0, some (aliasD rs), y2, y3] := by
  obtain ⟨y2, y3, e⟩ := f2_turns (a0 := a0) (a1 := a1) (a2 := a2) (a3 := a3) (a4 := a4) (a5 := a5) (a6 := a6) (a7 := a7) (a8 := a8) (a9 := a9) (b0 := b0) (b1 := some (aliasD rs)) rs 1 (some (.int (0 : Nat))) (some (.list ((markR 1 rs).map PyData.list ++ [mkN 0]))) (by omega) h
  have e0 : f2T [a0, a1, a2, a3, a4, a5, a6, a7, a8, a9, b0, some (aliasD rs), some (.int (0 : Nat)), some (.list ((markR 1 rs).map PyData.list ++ [mkN 0]))] = .nx [a0, a1, a2, a3, a4, a5, a6, a7, a8, a9, b0, some (aliasD rs), some (.int (0 : Nat)), some (.list ((markR 1 rs).map PyData.list ++ [mkN 0]))] :=
    f2_turn (k := 0) (by omega) (fun y hy => by
      obtain ⟨r, _, rfl⟩ := List.mem_map.mp hy
      rfl) rfl rfl
  exact ⟨y2, y3, zFor (zEn (zOne (zVar rfl))) (zTurn rfl e0 e)⟩
theorem okR_of {rs : List (List PyData)} (h1 : rs.length ≤ 80000) (h2 : ∀ r ∈ rs, r.length ≤ 90000) : okR rs = true := by
  unfold okR
  rw [decide_eq_true h1, Bool.true_and]
  exact List.all_eq_true.mpr fun r hr => decide_eq_true (h2 r hr)
theorem mark_tells {a0 a1 a2 a3 a4 a7 a8 a9 b0 b1 b2 b3 : Option PyData} {rs qs : List (List PyData)} (h1 : rs.length ≤ 1000) (h2 : ∀ r ∈ rs, r.length ≤ 1000 ∧ ∀ y ∈ r, isT "tuple" y = false) (h3 : qs.length ≤ 1000) (h4 : ∀ r ∈ qs, r.length ≤ 1000 ∧ ∀ y ∈ r, isT "tuple" y = false) : ∃ y2 y3, sMark7 5 6 11 12 13 f2B [a0, a1, a2, a3, a4, some (rD rs), some (rD qs), a7, a8, a9, b0, b1, b2, b3] = .nx [a0, a1, a2, a3, a4, none, none, a7, a8, a9, b0, some (aliasD qs), y2, y3] := by
  obtain ⟨y2, y3, e⟩ := f2_tells (a0 := a0) (a1 := a1) (a2 := a2) (a3 := a3) (a4 := a4) (a5 := none) (a6 := none) (a7 := a7) (a8 := a8) (a9 := a9) (b0 := b0) (z2 := none) (z3 := none) h1 fun r hr => (h2 r hr).2
  obtain ⟨x2, x3, e'⟩ := f2_tells (a0 := a0) (a1 := a1) (a2 := a2) (a3 := a3) (a4 := a4) (a5 := none) (a6 := none) (a7 := a7) (a8 := a8) (a9 := a9) (b0 := b0) (z2 := none) (z3 := none) h3 fun r hr => (h4 r hr).2
  refine ⟨x2, x3, ?_⟩
  unfold sMark7
  rw [ownR_rD (rs := rs) rfl]
  dsimp only
  rw [ownR_rD (rs := qs) rfl]
  dsimp only
  rw [okR_of (by omega) fun r hr => Nat.le_trans (h2 r hr).1 (by decide), okR_of (by omega) fun r hr => Nat.le_trans (h4 r hr).1 (by decide)]
  have q1 : st7 11 12 13 rs (bas 5 6 [a0, a1, a2, a3, a4, some (rD rs), some (rD qs), a7, a8, a9, b0, b1, b2, b3]) = [a0, a1, a2, a3, a4, none, none, a7, a8, a9, b0, some (aliasD rs), none, none] := rfl
  have q2 : st7 11 12 13 qs [a0, a1, a2, a3, a4, none, none, a7, a8, a9, b0, some (aliasD rs), y2, y3] = [a0, a1, a2, a3, a4, none, none, a7, a8, a9, b0, some (aliasD qs), none, none] := rfl
  rw [show (true && true && len3 11 12 13 [a0, a1, a2, a3, a4, some (rD rs), some (rD qs), a7, a8, a9, b0, b1, b2, b3]) = true from rfl]
  dsimp only
  rw [q1, e]
  dsimp only
  rw [show len3 11 12 13 [a0, a1, a2, a3, a4, none, none, a7, a8, a9, b0, some (aliasD rs), y2, y3] = true from rfl]
  dsimp only
  rw [q2, e']
set_option maxHeartbeats 4000000
abbrev frP : En → ER := (eFz (eLc (iR1 (aCons (eCB gLen (aCons (eVar 1) aNil)) aNil)) [7] (gN 7) tYesZ (eFz (eLc (iR1 (aCons (eOp gIxT (eVar 0) (eC (.int 0))) aNil)) [8] (gN 8) tYesZ (eDGet1O 3 (eTup (aCons (eVar 7) (aCons (eVar 8) aNil))))))))
theorem rnd_le {ds : List Dr} {T m : Nat} {P : Nat → Nat → Prop} {g : List ((Nat × Nat) × Nat)} (h : LI ds T P m g) (hm : moreN g T ds = []) {k r v : Nat} (e : rndV ds T P k r = some v) : v ≤ m := by
  by_cases hk : (k, r) ∈ keysQ g
  · obtain ⟨q, h1, h2, _⟩ := get_first hk
    obtain ⟨a, b⟩ := h.val q h1
    have le := val_le h q h1
    rw [h2] at a b
    rw [rnd_some a b] at e
    exact Option.some.inj e ▸ le
  · rw [rnd_none (fun w => hk ((h.last hm k r).mpr w))] at e
    exact nomatch e
theorem rowsF_len (n T : Nat) (f : Nat → Nat → PyData) : (rowsF n T f).length = T := by
  unfold rowsF
  rw [List.length_map, List.length_range]
theorem rowsF_mem {n T : Nat} {f : Nat → Nat → PyData} {p : PyData → Prop} (h : ∀ t r, p (f t r)) : ∀ r ∈ rowsF n T f, r.length ≤ n ∧ ∀ y ∈ r, p y := fun r hr => by
  unfold rowsF at hr
  obtain ⟨t, _, rfl⟩ := List.mem_map.mp hr
  refine ⟨by rw [List.length_map, List.length_range]; exact Nat.le_refl _, fun y hy => ?_⟩
  obtain ⟨q, _, rfl⟩ := List.mem_map.mp hy
  exact h t q
theorem litR_mem {n T : Nat} {S : Nat → Nat → Prop} : ∀ r ∈ litR n T S, r.length ≤ n ∧ ∀ y ∈ r, isT "tuple" y = false := fun r hr => by
  unfold litR at hr
  obtain ⟨q, hq, rfl⟩ := List.mem_map.mp hr
  refine ⟨by rw [natD_len]; exact litL_mem q hq, fun y hy => ?_⟩
  unfold natD at hy
  obtain ⟨_, _, rfl⟩ := List.mem_map.mp hy
  rfl
theorem litR_len (n T : Nat) (S : Nat → Nat → Prop) : (litR n T S).length = T := by
  unfold litR
  rw [List.length_map, litL_len]
theorem optD_flat (o : Option Nat) : isT "tuple" (optD o) = false := by cases o <;> rfl
structure Small (n : Nat) (ds : List Dr) (xss : List (List Int)) : Prop where
  n1 : 1 ≤ n
  n2 : n ≤ 4
  fd : ∀ d ∈ ds, d.Fit n
  fx : FitP n xss
  dl : ds.length ≤ 20
  tl : xss.length ≤ 8
theorem Small.good {n : Nat} {ds : List Dr} {xss : List (List Int)} (h : Small n ds xss) : Good n ds xss := ⟨h.n1, by have := h.n2; omega, h.fd, h.fx, by have := h.dl; omega, by have := h.tl; omega, by
  have h1 : 2 ^ n ≤ 2 ^ 4 := Nat.pow_le_pow_right (by decide) h.n2
  have := Nat.mul_le_mul h.tl h1
  omega⟩
theorem Small.fuel {n : Nat} {ds : List Dr} {xss : List (List Int)} (h : Small n ds xss) : xss.length * n ≤ 990 := by
  have := Nat.mul_le_mul h.tl h.n2
  omega
theorem mul_gi {a b : Int} (c : cMul a b = true) : gIc cMul (fun i j => i * j) (.int a) (.int b) = some (.int (a * b)) := by
  simp only [gIc, c]
theorem in_64 {b : Nat} (h : b ≤ 1000) : (-2 ^ 64 : Int) < (b : Int) ∧ (b : Int) < 2 ^ 64 := ⟨by omega, by omega⟩
theorem mul_small {a b : Nat} (h : b ≤ 1000) : gIc cMul (fun i j => i * j) (.int (a : Nat)) (.int (b : Nat)) = some (.int ((a : Int) * (b : Int))) := mul_gi (cMul_r (in_64 h))
theorem vals_tell {ρ : En} {kvs : List (PyData × PyData)} (h : ρ[3]? = some (some (tD kvs))) (h1 : kvs.length ≤ 40000) (h2 : 10 < ρ.length) : eVals 3 10 ρ = .o (.list (kvs.map (valG kvs))) ρ := by
  unfold eVals
  rw [h]
  dsimp only
  rw [decide_eq_true h1, decide_eq_true h2]
  rfl
theorem max_test {ρ : En} {i : Int} {n T : Nat} (h0 : eOp gIxT (eVar 0) (eC (.int 0)) ρ = .v (.int (n : Nat)) ρ) (h1 : eCB gLen (aCons (eVar 1) aNil) ρ = .v (.int (T : Nat)) ρ) (hm : eCB gMaxL (aCons (eFz (eVals 3 10)) aNil) ρ = .v (.int i) ρ) (hT : T ≤ 1000) (le : i ≤ (n : Int) * (T : Int)) : tVal' (eOp (gB fun i j => decide (j < i)) (eCB gMaxL (aCons (eFz (eVals 3 10)) aNil)) (eOp (gIc cMul fun i j => i * j) (eOp gIxT (eVar 0) (eC (.int 0))) (eCB gLen (aCons (eVar 1) aNil)))) ρ = .b false ρ := by
  refine zVal (zOp hm (zOp h0 h1 (mul_small hT)) ?_)
  show some (PyData.bool (decide ((n : Int) * (T : Int) < i))) = _
  rw [decide_eq_false (Int.not_lt.mpr le)]
theorem first_tells {n : Nat} {ds : List Dr} {xss : List (List Int)} {m : Nat} {g : List ((Nat × Nat) × Nat)} {kS : Str} (s : Small n ds xss) (hi : LI ds xss.length (Pr xss) m g) (hm : moreN g xss.length ds = []) : frP [some (encL n ds), some (.list (encP xss)), some (.str kS), some (tD (encQ g)), some (.list (histD (litL n xss.length (LtX ds xss)))), some (rD (litR n xss.length (LtX ds xss))), some (rD (rowsF n xss.length (rndF ds xss))), none, none, none, none, none, none, none] = .v (.list ((rowsF n xss.length (rndF ds xss)).map PyData.list)) [some (encL n ds), some (.list (encP xss)), some (.str kS), some (tD (encQ g)), some (.list (histD (litL n xss.length (LtX ds xss)))), some (rD (litR n xss.length (LtX ds xss))), some (rD (rowsF n xss.length (rndF ds xss))), none, none, none, none, none, none, none] := by
  have n2 := s.n2
  have tl := s.tl
  have p1 : (encP xss).length = xss.length := by unfold encP; rw [List.length_map]
  have rl : ∀ k : Nat, (rgD 0 k).length = k := fun k => by rw [rgD_below, List.length_map, below_len]
  have inner : ∀ t : Nat, lcItems [8] (gN 8) tYesZ (eDGet1O 3 (eTup (aCons (eVar 7) (aCons (eVar 8) aNil)))) (rgD 0 n) [some (encL n ds), some (.list (encP xss)), some (.str kS), some (tD (encQ g)), some (.list (histD (litL n xss.length (LtX ds xss)))), some (rD (litR n xss.length (LtX ds xss))), some (rD (rowsF n xss.length (rndF ds xss))), some (.int (t : Nat)), none, none, none, none, none, none] = some ((List.range n).map fun r => rndF ds xss t r, [some (encL n ds), some (.list (encP xss)), some (.str kS), some (tD (encQ g)), some (.list (histD (litL n xss.length (LtX ds xss)))), some (rD (litR n xss.length (LtX ds xss))), some (rD (rowsF n xss.length (rndF ds xss))), some (.int (t : Nat)), none, none, none, none, none, none]) := fun t => by
    rw [range_data]
    refine lc_map (fun r : Nat => PyData.int (r : Nat)) _ (List.range n) fun r hr => ?_
    have lk : lookO 3 [some (encL n ds), some (.list (encP xss)), some (.str kS), some (tD (encQ g)), some (.list (histD (litL n xss.length (LtX ds xss)))), some (rD (litR n xss.length (LtX ds xss))), some (rD (rowsF n xss.length (rndF ds xss))), some (.int (t : Nat)), some (.int (r : Nat)), none, none, none, none, none] (.tuple [.int (t : Nat), .int (r : Nat)]) = some ((rndV ds xss.length (Pr xss) t r).map fun v => PyData.int (v : Nat)) := by
      unfold lookO
      exact look_rnd hi hm t r
    exact ⟨_, rfl, _, rfl, _, wDGet1 rfl (zTup (zTwo (zVar rfl) (zVar rfl)) (Nat.le_of_ble_eq_true rfl)) lk (opt_get _), rfl⟩
  have items : lcItems [7] (gN 7) tYesZ (eFz (eLc (iR1 (aCons (eOp gIxT (eVar 0) (eC (.int 0))) aNil)) [8] (gN 8) tYesZ (eDGet1O 3 (eTup (aCons (eVar 7) (aCons (eVar 8) aNil)))))) (rgD 0 xss.length) [some (encL n ds), some (.list (encP xss)), some (.str kS), some (tD (encQ g)), some (.list (histD (litL n xss.length (LtX ds xss)))), some (rD (litR n xss.length (LtX ds xss))), some (rD (rowsF n xss.length (rndF ds xss))), none, none, none, none, none, none, none] = some ((rowsF n xss.length (rndF ds xss)).map PyData.list, [some (encL n ds), some (.list (encP xss)), some (.str kS), some (tD (encQ g)), some (.list (histD (litL n xss.length (LtX ds xss)))), some (rD (litR n xss.length (LtX ds xss))), some (rD (rowsF n xss.length (rndF ds xss))), none, none, none, none, none, none, none]) := by
    rw [range_data]
    unfold rowsF
    rw [List.map_map]
    refine lc_map (fun t : Nat => PyData.int (t : Nat)) _ (List.range xss.length) fun t ht => ?_
    refine ⟨[some (encL n ds), some (.list (encP xss)), some (.str kS), some (tD (encQ g)), some (.list (histD (litL n xss.length (LtX ds xss)))), some (rD (litR n xss.length (LtX ds xss))), some (rD (rowsF n xss.length (rndF ds xss))), some (.int (t : Nat)), none, none, none, none, none, none], rfl, _, rfl, [some (encL n ds), some (.list (encP xss)), some (.str kS), some (tD (encQ g)), some (.list (histD (litL n xss.length (LtX ds xss)))), some (rD (litR n xss.length (LtX ds xss))), some (rD (rowsF n xss.length (rndF ds xss))), some (.int (t : Nat)), none, none, none, none, none, none], ?_, rfl⟩
    exact zFzL (zLc (fi := iR1 (aCons (eOp gIxT (eVar 0) (eC (.int 0))) aNil)) (ρ1 := [some (encL n ds), some (.list (encP xss)), some (.str kS), some (tD (encQ g)), some (.list (histD (litL n xss.length (LtX ds xss)))), some (rD (litR n xss.length (LtX ds xss))), some (rD (rowsF n xss.length (rndF ds xss))), some (.int (t : Nat)), none, none, none, none, none, none]) (zR1 (n := n) (zOne (zOp (zVar rfl) rfl rfl)) (by omega)) (by rw [rl]; omega) (inner t))
  exact zFzL (zLc (zR1 (n := xss.length) (zOne (zCB (zOne (zVar rfl)) (by
      show some (PyData.int ((encP xss).length : Nat)) = _
      rw [p1]))) (by omega)) (by rw [rl]; omega) items)
theorem law_right_tells {n : Nat} {ds : List Dr} {xss : List (List Int)} (s : Small n ds xss) : F__law_right [encL n ds, .list (encP xss)] = .v (.bool true) .none := by
  have n1 := s.n1
  have n2 := s.n2
  have tl := s.tl
  have dl := s.dl
  have hTn : xss.length * n ≤ 8 * 4 := Nat.mul_le_mul tl n2
  have p1 : (encP xss).length = xss.length := by unfold encP; rw [List.length_map]
  obtain ⟨m, g, er, hi, hm, mg⟩ := law_rounds_tells s.good s.fuel
  have gl := hi.len (rooms_in s.fd) s.fx.pr
  have el := law_light_tells s.good s.fuel
  have et := light_tells s.good
  have en := lit_rounds_tells s.good
  have kt := keeps_tells s.good hi hm
  have plL := level_pl s.fd (by omega) (by omega)
  have plX := presses_pl s.fx (by omega) (by omega)
  have plK : Pl 5 16000000 (.list [encL n ds, .list (encP xss)]) := (pl_list (n := 2) (k := 4) (w := 5000000) (pl_cons plL (pl_cons (plX.up' (by decide) (by decide)) pl_nil)) (by simp)).up' (Nat.le_refl _) (by decide)
  have rpK := plK.repr (by decide) (by decide)
  have ck : ∀ (ρ : En), ρ[0]? = some (some (encL n ds)) → ρ[1]? = some (some (.list (encP xss))) → eCB gRepr (aCons (eFz (eLst (aCons (eVar 0) (aCons (eVar 1) aNil)))) aNil) ρ = .v (.str (PyData.list [encL n ds, .list (encP xss)]).shown) ρ := fun ρ a1 a2 => zCB (zOne (zFzL (zLst (zTwo (zVar a1) (zVar a2)) (Nat.le_of_ble_eq_true rfl)))) rpK
  generalize hkS : (PyData.list [encL n ds, .list (encP xss)]).shown = kS at ck
  have plD : Pl 2 4000000 (.list (histD (litL n xss.length (LtX ds xss)))) := by
    rw [← castP_enc]
    exact presses_pl castP_fit (by omega) (by unfold castP; rw [List.length_map, litL_len]; omega)
  have rpD := plD.repr (by decide) (by decide)
  have rpT : gRepr [.list ((litR n xss.length (LtX ds xss)).map PyData.list)] = some (.str (PyData.list (histD (litL n xss.length (LtX ds xss)))).shown) := by rw [litR_list]; exact rpD
  have kt' : F_keeps [encL n ds, .list (encP xss), .list ((litR n xss.length (LtX ds xss)).map PyData.list)] = .v (.bool true) .none := by rw [litR_list]; exact kt
  have plF : Pl 2 4000000 (.list ((rowsF n xss.length (rndF ds xss)).map PyData.list)) := (pl_list (n := 8) (k := 1) (w := 61000) (fun d hd => by
    obtain ⟨r, hr, rfl⟩ := List.mem_map.mp hd
    obtain ⟨a, b⟩ := rowsF_mem (p := Pl 0 2000) (f := rndF ds xss) (fun t r => by
      show Pl 0 2000 (optD (rndV ds xss.length (Pr xss) t r))
      cases e : rndV ds xss.length (Pr xss) t r with
      | none => exact pl_none
      | some v =>
        have := rnd_le hi hm e
        exact pl_int (by omega)) r hr
    exact (pl_list (n := 4) b (by omega)).up' (Nat.le_refl _) (by decide)) (by rw [List.length_map, rowsF_len]; exact tl)).up' (Nat.le_refl _) (by decide)
  have rpF := plF.repr (by decide) (by decide)
  have s1 : sPar3M 2 3 4 (eCB gRepr (aCons (eFz (eLst (aCons (eVar 0) (aCons (eVar 1) aNil)))) aNil)) (eCall F__law_rounds [.s 0, .s 1] (aCons (eVar 0) (aCons (eVar 1) aNil))) (eFz (eCall F__law_light [.s 0, .s 1] (aCons (eVar 0) (aCons (eVar 1) aNil)))) [some (encL n ds), some (.list (encP xss)), none, none, none, none, none, none, none, none, none, none, none, none] = .nx [some (encL n ds), some (.list (encP xss)), some (.str kS), some (tD (encQ g)), some (.list (histD (litL n xss.length (LtX ds xss)))), none, none, none, none, none, none, none, none, none] := wPar3M (ck _ rfl rfl) (zCallO (zTwo (zVar rfl) (zVar rfl)) er) (zFzL (zCallO (zTwo (zVar rfl) (zVar rfl)) el)) rfl rfl rfl
  have s2 : sParOO 5 6 (eCall F_light [.s 0, .s 1] (aCons (eVar 0) (aCons (eVar 1) aNil))) (eCall F_lit_rounds [.s 0, .s 1] (aCons (eVar 0) (aCons (eVar 1) aNil))) [some (encL n ds), some (.list (encP xss)), some (.str kS), some (tD (encQ g)), some (.list (histD (litL n xss.length (LtX ds xss)))), none, none, none, none, none, none, none, none, none] = .nx [some (encL n ds), some (.list (encP xss)), some (.str kS), some (tD (encQ g)), some (.list (histD (litL n xss.length (LtX ds xss)))), some (rD (litR n xss.length (LtX ds xss))), some (rD (rowsF n xss.length (rndF ds xss))), none, none, none, none, none, none, none] := wParOO (zCallO (zTwo (zVar rfl) (zVar rfl)) et) (zCallO (zTwo (zVar rfl) (zVar rfl)) en) rfl rfl
  have s3 : sAsg (eFz (eLc (iR1 (aCons (eCB gLen (aCons (eVar 1) aNil)) aNil)) [7] (gN 7) tYesZ (eFz (eLc (iR1 (aCons (eOp gIxT (eVar 0) (eC (.int 0))) aNil)) [8] (gN 8) tYesZ (eDGet1O 3 (eTup (aCons (eVar 7) (aCons (eVar 8) aNil)))))))) (gN 9) [some (encL n ds), some (.list (encP xss)), some (.str kS), some (tD (encQ g)), some (.list (histD (litL n xss.length (LtX ds xss)))), some (rD (litR n xss.length (LtX ds xss))), some (rD (rowsF n xss.length (rndF ds xss))), none, none, none, none, none, none, none] = .nx [some (encL n ds), some (.list (encP xss)), some (.str kS), some (tD (encQ g)), some (.list (histD (litL n xss.length (LtX ds xss)))), some (rD (litR n xss.length (LtX ds xss))), some (rD (rowsF n xss.length (rndF ds xss))), none, none, some (.list ((rowsF n xss.length (rndF ds xss)).map PyData.list)), none, none, none, none] := zAsgN (i := 9) (first_tells (kS := kS) s hi hm)
  have s4 : sIf (tOrZ (tVal' (ePure [3, 5, 6] (eOp gNe (eCB gRepr (aCons (eVar 5) aNil)) (eCB gRepr (aCons (eVar 4) aNil))))) (tOrZ (tVal' (eOp gNe (eCB gRepr (aCons (eFz (eCallK F_light [1, 0] (aCons (eVar 1) (aCons (eVar 0) aNil)))) aNil)) (eCB gRepr (aCons (eVar 4) aNil)))) (tVal' (ePure [3, 5, 6] (eOp gNe (eCB gRepr (aCons (eVar 6) aNil)) (eCB gRepr (aCons (eVar 9) aNil))))))) (sRet (eC (.bool false))) sNext [some (encL n ds), some (.list (encP xss)), some (.str kS), some (tD (encQ g)), some (.list (histD (litL n xss.length (LtX ds xss)))), some (rD (litR n xss.length (LtX ds xss))), some (rD (rowsF n xss.length (rndF ds xss))), none, none, some (.list ((rowsF n xss.length (rndF ds xss)).map PyData.list)), none, none, none, none] = .nx [some (encL n ds), some (.list (encP xss)), some (.str kS), some (tD (encQ g)), some (.list (histD (litL n xss.length (LtX ds xss)))), some (rD (litR n xss.length (LtX ds xss))), some (rD (rowsF n xss.length (rndF ds xss))), none, none, some (.list ((rowsF n xss.length (rndF ds xss)).map PyData.list)), none, none, none, none] :=
    zSIfF (zOrF (zVal (wPure (ρ1 := [some (encL n ds), some (.list (encP xss)), some (.str kS), none, some (.list (histD (litL n xss.length (LtX ds xss)))), some (.list ((litR n xss.length (LtX ds xss)).map PyData.list)), some (.list ((rowsF n xss.length (rndF ds xss)).map PyData.list)), none, none, some (.list ((rowsF n xss.length (rndF ds xss)).map PyData.list)), none, none, none, none]) rfl (zOp (zCB (zOne (zVar rfl)) rpT) (zCB (zOne (zVar rfl)) rpD) (ne_str _)) rfl)) (zOrF (zVal (zOp (zCB (zOne (wFz (zCallKO (zTwo (zVar rfl) (zVar rfl)) et) rfl)) rpT) (zCB (zOne (zVar rfl)) rpD) (ne_str _))) (zVal (wPure (ρ1 := [some (encL n ds), some (.list (encP xss)), some (.str kS), none, some (.list (histD (litL n xss.length (LtX ds xss)))), some (.list ((litR n xss.length (LtX ds xss)).map PyData.list)), some (.list ((rowsF n xss.length (rndF ds xss)).map PyData.list)), none, none, some (.list ((rowsF n xss.length (rndF ds xss)).map PyData.list)), none, none, none, none]) rfl (zOp (zCB (zOne (zVar rfl)) rpF) (zCB (zOne (zVar rfl)) rpF) (ne_str _)) rfl)))) rfl
  have s5 : sIf (tOrZ (tVal' (eOp gNe (eCB gRepr (aCons (eFz (eCallK F_lit_rounds [1, 0] (aCons (eVar 1) (aCons (eVar 0) aNil)))) aNil)) (eCB gRepr (aCons (eVar 9) aNil)))) (tOrZ (tVal' (ePure [3, 5, 6] (eOp (gIsB true) (eFz (eCall F_keeps [.s 0, .s 1, .d] (aCons (eVar 0) (aCons (eVar 1) (aCons (eVar 5) aNil))))) (eC (.bool true))))) (tVal' (eOp gNe (eCB gRepr (aCons (eFz (eLst (aCons (eVar 0) (aCons (eVar 1) aNil)))) aNil)) (eVar 2))))) (sRet (eC (.bool false))) sNext [some (encL n ds), some (.list (encP xss)), some (.str kS), some (tD (encQ g)), some (.list (histD (litL n xss.length (LtX ds xss)))), some (rD (litR n xss.length (LtX ds xss))), some (rD (rowsF n xss.length (rndF ds xss))), none, none, some (.list ((rowsF n xss.length (rndF ds xss)).map PyData.list)), none, none, none, none] = .nx [some (encL n ds), some (.list (encP xss)), some (.str kS), some (tD (encQ g)), some (.list (histD (litL n xss.length (LtX ds xss)))), some (rD (litR n xss.length (LtX ds xss))), some (rD (rowsF n xss.length (rndF ds xss))), none, none, some (.list ((rowsF n xss.length (rndF ds xss)).map PyData.list)), none, none, none, none] :=
    zSIfF (zOrF (zVal (zOp (zCB (zOne (wFz (zCallKO (zTwo (zVar rfl) (zVar rfl)) en) rfl)) rpF) (zCB (zOne (zVar rfl)) rpF) (ne_str _))) (zOrF (zVal (wPure (ρ1 := [some (encL n ds), some (.list (encP xss)), some (.str kS), none, some (.list (histD (litL n xss.length (LtX ds xss)))), some (.list ((litR n xss.length (LtX ds xss)).map PyData.list)), some (.list ((rowsF n xss.length (rndF ds xss)).map PyData.list)), none, none, some (.list ((rowsF n xss.length (rndF ds xss)).map PyData.list)), none, none, none, none]) rfl (zOp (zFzV (zCallV (zCons (zVar rfl) (zTwo (zVar rfl) (zVar rfl))) kt')) rfl rfl) rfl)) (zVal (zOp (ck _ rfl rfl) (zVar rfl) (ne_str _))))) rfl
  have s6 : sIf (tAndZ (tVal' (eNeE 3)) (tVal' (eOp (gB fun i j => decide (j < i)) (eCB gMaxL (aCons (eFz (eVals 3 10)) aNil)) (eOp (gIc cMul fun i j => i * j) (eOp gIxT (eVar 0) (eC (.int 0))) (eCB gLen (aCons (eVar 1) aNil)))))) (sRet (eC (.bool false))) sNext [some (encL n ds), some (.list (encP xss)), some (.str kS), some (tD (encQ g)), some (.list (histD (litL n xss.length (LtX ds xss)))), some (rD (litR n xss.length (LtX ds xss))), some (rD (rowsF n xss.length (rndF ds xss))), none, none, some (.list ((rowsF n xss.length (rndF ds xss)).map PyData.list)), none, none, none, none] = .nx [some (encL n ds), some (.list (encP xss)), some (.str kS), some (tD (encQ g)), some (.list (histD (litL n xss.length (LtX ds xss)))), some (rD (litR n xss.length (LtX ds xss))), some (rD (rowsF n xss.length (rndF ds xss))), none, none, some (.list ((rowsF n xss.length (rndF ds xss)).map PyData.list)), none, none, none, none] := by
    refine zSIfF ?_ rfl
    by_cases ge : g = []
    · subst ge
      exact zAndF (zVal rfl)
    · have ne1 : tVal' (eNeE 3) [some (encL n ds), some (.list (encP xss)), some (.str kS), some (tD (encQ g)), some (.list (histD (litL n xss.length (LtX ds xss)))), some (rD (litR n xss.length (LtX ds xss))), some (rD (rowsF n xss.length (rndF ds xss))), none, none, some (.list ((rowsF n xss.length (rndF ds xss)).map PyData.list)), none, none, none, none] = .b true [some (encL n ds), some (.list (encP xss)), some (.str kS), some (tD (encQ g)), some (.list (histD (litL n xss.length (LtX ds xss)))), some (rD (litR n xss.length (LtX ds xss))), some (rD (rowsF n xss.length (rndF ds xss))), none, none, some (.list ((rowsF n xss.length (rndF ds xss)).map PyData.list)), none, none, none, none] := by
        cases g with
        | nil => exact (ge rfl).elim
        | cons q g => exact zVal rfl
      refine zAndT ne1 ?_
      obtain ⟨i, e1, e2⟩ := max_le (xs := g.map fun e => e.2) (B := m) (fun z => ge (List.map_eq_nil_iff.mp z)) fun x hx => by
        obtain ⟨q, hq, rfl⟩ := List.mem_map.mp hx
        exact val_le hi q hq
      have ev : eFz (eVals 3 10) [some (encL n ds), some (.list (encP xss)), some (.str kS), some (tD (encQ g)), some (.list (histD (litL n xss.length (LtX ds xss)))), some (rD (litR n xss.length (LtX ds xss))), some (rD (rowsF n xss.length (rndF ds xss))), none, none, some (.list ((rowsF n xss.length (rndF ds xss)).map PyData.list)), none, none, none, none] = .v (.list ((g.map fun e => e.2).map fun v => PyData.int (v : Nat))) [some (encL n ds), some (.list (encP xss)), some (.str kS), some (tD (encQ g)), some (.list (histD (litL n xss.length (LtX ds xss)))), some (rD (litR n xss.length (LtX ds xss))), some (rD (rowsF n xss.length (rndF ds xss))), none, none, some (.list ((rowsF n xss.length (rndF ds xss)).map PyData.list)), none, none, none, none] := by
        rw [← vals_eq hi hm]
        exact zFzL (vals_tell rfl (by unfold encQ; rw [List.length_map]; omega) (Nat.lt_of_sub_pos (Nat.zero_lt_succ 3)))
      have h1 : eCB gLen (aCons (eVar 1) aNil) [some (encL n ds), some (.list (encP xss)), some (.str kS), some (tD (encQ g)), some (.list (histD (litL n xss.length (LtX ds xss)))), some (rD (litR n xss.length (LtX ds xss))), some (rD (rowsF n xss.length (rndF ds xss))), none, none, some (.list ((rowsF n xss.length (rndF ds xss)).map PyData.list)), none, none, none, none] = .v (.int (xss.length : Nat)) [some (encL n ds), some (.list (encP xss)), some (.str kS), some (tD (encQ g)), some (.list (histD (litL n xss.length (LtX ds xss)))), some (rD (litR n xss.length (LtX ds xss))), some (rD (rowsF n xss.length (rndF ds xss))), none, none, some (.list ((rowsF n xss.length (rndF ds xss)).map PyData.list)), none, none, none, none] := zCB (zOne (zVar rfl)) (by
        show some (PyData.int ((encP xss).length : Nat)) = _
        rw [p1])
      have h0 : eOp gIxT (eVar 0) (eC (.int 0)) [some (encL n ds), some (.list (encP xss)), some (.str kS), some (tD (encQ g)), some (.list (histD (litL n xss.length (LtX ds xss)))), some (rD (litR n xss.length (LtX ds xss))), some (rD (rowsF n xss.length (rndF ds xss))), none, none, some (.list ((rowsF n xss.length (rndF ds xss)).map PyData.list)), none, none, none, none] = .v (.int (n : Nat)) [some (encL n ds), some (.list (encP xss)), some (.str kS), some (tD (encQ g)), some (.list (histD (litL n xss.length (LtX ds xss)))), some (rD (litR n xss.length (LtX ds xss))), some (rD (rowsF n xss.length (rndF ds xss))), none, none, some (.list ((rowsF n xss.length (rndF ds xss)).map PyData.list)), none, none, none, none] := zOp (zVar rfl) rfl rfl
      exact max_test h0 h1 (zCB (zOne ev) e1) (by omega) (by rw [← Int.natCast_mul, Nat.mul_comm]; omega)
  obtain ⟨y2, y3, s7⟩ := mark_tells (a0 := some (encL n ds)) (a1 := some (.list (encP xss))) (a2 := some (.str kS)) (a3 := some (tD (encQ g))) (a4 := some (.list (histD (litL n xss.length (LtX ds xss))))) (a7 := none) (a8 := none) (a9 := some (.list ((rowsF n xss.length (rndF ds xss)).map PyData.list))) (b0 := none) (b1 := none) (b2 := none) (b3 := none) (rs := litR n xss.length (LtX ds xss)) (qs := rowsF n xss.length (rndF ds xss)) (by rw [litR_len]; omega) (fun r hr => ⟨by have := (litR_mem r hr).1; omega, (litR_mem r hr).2⟩) (by rw [rowsF_len]; omega) fun r hr => by
    have := rowsF_mem (p := fun y => isT "tuple" y = false) (f := rndF ds xss) (fun t r => optD_flat _) r hr
    exact ⟨by have := this.1; omega, this.2⟩
  have s8 : sRet (eAnd (eOp gEq (eCB gRepr (aCons (eFz (eCall F_light [.s 0, .s 1] (aCons (eVar 0) (aCons (eVar 1) aNil)))) aNil)) (eCB gRepr (aCons (eVar 4) aNil))) (eAnd (eOp gEq (eCB gRepr (aCons (eFz (eCall F_lit_rounds [.s 0, .s 1] (aCons (eVar 0) (aCons (eVar 1) aNil)))) aNil)) (eCB gRepr (aCons (eVar 9) aNil))) (eOp gEq (eCB gRepr (aCons (eFz (eLst (aCons (eVar 0) (aCons (eVar 1) aNil)))) aNil)) (eVar 2)))) [some (encL n ds), some (.list (encP xss)), some (.str kS), some (tD (encQ g)), some (.list (histD (litL n xss.length (LtX ds xss)))), none, none, none, none, some (.list ((rowsF n xss.length (rndF ds xss)).map PyData.list)), none, some (aliasD (rowsF n xss.length (rndF ds xss))), y2, y3] = .ret (.bool true) [some (encL n ds), some (.list (encP xss)), some (.str kS), some (tD (encQ g)), some (.list (histD (litL n xss.length (LtX ds xss)))), none, none, none, none, some (.list ((rowsF n xss.length (rndF ds xss)).map PyData.list)), none, some (aliasD (rowsF n xss.length (rndF ds xss))), y2, y3] :=
    zRetV (wEAndT (zOp (zCB (zOne (wFz (zCallO (zTwo (zVar rfl) (zVar rfl)) et) rfl)) rpT) (zCB (zOne (zVar rfl)) rpD) (eq_str _)) (wEAndT (zOp (zCB (zOne (wFz (zCallO (zTwo (zVar rfl) (zVar rfl)) en) rfl)) rpF) (zCB (zOne (zVar rfl)) rpF) (eq_str _)) (zOp (ck _ rfl rfl) (zVar rfl) (eq_str _))))
  exact zFn rfl (congrArg (finY none) (zSeq s1 (zSeq s2 (zSeq s3 (zSeq s4 (zSeq s5 (zSeq s6 (zSeq s7 s8))))))))
set_option maxHeartbeats 4000000
def lawB : En → SR := (sSeq (sAsgO 2 (eGenS 0 (eVar 1))) (sSeq (sAsg (eFz (eCall F__law_level [.o 2, .d, .d] (aOwnS 2 (aCons (eC (.int 4)) (aCons (eC (.int 7)) aNil))))) (gN 3)) (sIf (tNotZ (tVal' (eFz (eCall F__law_right [.d, .d] (aCons (eVar 3) (aCons (eFz (eCall F__law_presses [.o 2, .d, .d] (aOwnS 2 (aCons (eVar 3) (aCons (eC (.int 5)) aNil))))) aNil)))))) (sRet (eC (.bool false))) sNext)))
def lawRest : En → SR := (sSeq (sAsg (eTup (aCons (eC (.int 3)) (aCons (eFz (eLst (aCons (eTup (aCons (eFz (eLst (aCons (eC (.int 0)) aNil))) (aCons (eC (.int 1)) (aCons (eC (.int 0)) aNil)))) (aCons (eTup (aCons (eFz (eLst (aCons (eC (.int 1)) aNil))) (aCons (eC (.int 2)) (aCons (eUn gNeg (eC (.int 1))) aNil)))) (aCons (eTup (aCons (eFz (eLst (aCons (eC (.int 2)) aNil))) (aCons (eC (.int 2)) (aCons (eUn gNeg (eC (.int 1))) aNil)))) aNil))))) aNil))) (gN 4)) (sSeq (sIf (tOrZ (tVal' (eOp gNeA (eFz (eCall F_light [.d, .d] (aCons (eVar 4) (aCons (eFz (eLst (aCons (eFz (eLst aNil)) (aCons (eFz (eLst aNil)) (aCons (eFz (eLst (aCons (eC (.int 0)) aNil))) aNil))))) aNil)))) (eFz (eLst (aCons (eFz (eLst (aCons (eC (.int 2)) aNil))) (aCons (eFz (eLst (aCons (eC (.int 2)) aNil))) (aCons (eFz (eLst (aCons (eC (.int 0)) (aCons (eC (.int 1)) aNil)))) aNil))))))) (tVal' (eOp gNeA (eFz (eCall F_lit_rounds [.d, .d] (aCons (eVar 4) (aCons (eFz (eLst (aCons (eFz (eLst aNil)) (aCons (eFz (eLst aNil)) (aCons (eFz (eLst (aCons (eC (.int 0)) aNil))) aNil))))) aNil)))) (eFz (eLst (aCons (eFz (eLst (aCons (eC .none) (aCons (eC .none) (aCons (eC (.int 3)) aNil))))) (aCons (eFz (eLst (aCons (eC .none) (aCons (eC .none) (aCons (eC (.int 2)) aNil))))) (aCons (eFz (eLst (aCons (eC (.int 0)) (aCons (eC (.int 1)) (aCons (eC .none) aNil))))) aNil)))))))) (sRet (eC (.bool false))) sNext) (sSeq (sAsg (eTup (aCons (eC (.int 2)) (aCons (eFz (eLst (aCons (eTup (aCons (eFz (eLst (aCons (eC (.int 0)) aNil))) (aCons (eC (.int 0)) (aCons (eC (.int 1)) aNil)))) (aCons (eTup (aCons (eFz (eLst (aCons (eC (.int 0)) aNil))) (aCons (eC (.int 1)) (aCons (eUn gNeg (eC (.int 1))) aNil)))) (aCons (eTup (aCons (eFz (eLst (aCons (eC (.int 1)) aNil))) (aCons (eC (.int 1)) (aCons (eUn gNeg (eC (.int 1))) aNil)))) aNil))))) aNil))) (gN 5)) (sSeq (sIf (tVal' (eOp gNeA (eFz (eCall F_light [.d, .d] (aCons (eVar 5) (aCons (eOp gCat (eFz (eLst (aCons (eFz (eLst (aCons (eC (.int 0)) aNil))) aNil))) (eOp gRep (eFz (eLst (aCons (eFz (eLst aNil)) aNil))) (eC (.int 29)))) aNil)))) (eOp gCat (eOp gRep (eFz (eLst (aCons (eFz (eLst (aCons (eC (.int 0)) (aCons (eC (.int 1)) aNil)))) aNil))) (eC (.int 29))) (eFz (eLst (aCons (eFz (eLst (aCons (eC (.int 0)) aNil))) aNil)))))) (sRet (eC (.bool false))) sNext) (sSeq (sAsg (eTup (aCons (eC (.int 2)) (aCons (eFz (eLst (aCons (eTup (aCons (eFz (eLst (aCons (eC (.int 0)) aNil))) (aCons (eC (.int 1)) (aCons (eC (.int 1)) aNil)))) (aCons (eTup (aCons (eFz (eLst (aCons (eC (.int 1)) aNil))) (aCons (eC (.int 0)) (aCons (eC (.int 1)) aNil)))) (aCons (eTup (aCons (eFz (eLst (aCons (eC (.int 0)) aNil))) (aCons (eC (.int 0)) (aCons (eC (.int 1)) aNil)))) (aCons (eTup (aCons (eFz (eLst (aCons (eC (.int 1)) aNil))) (aCons (eC (.int 1)) (aCons (eC (.int 1)) aNil)))) aNil)))))) aNil))) (gN 6)) (sSeq (sIf (tVal' (eOp gNeA (eFz (eCall F_lit_rounds [.d, .d] (aCons (eVar 6) (aCons (eOp gCat (eFz (eLst (aCons (eFz (eLst (aCons (eC (.int 0)) (aCons (eC (.int 1)) aNil)))) aNil))) (eOp gRep (eFz (eLst (aCons (eFz (eLst aNil)) aNil))) (eC (.int 29)))) aNil)))) (eFz (eLc (iR1 (aCons (eC (.int 30)) aNil)) [7] (gN 7) tYesZ (eFz (eLst (aCons (eVar 7) (aCons (eVar 7) aNil)))))))) (sRet (eC (.bool false))) sNext) (sSeq (sPar 8 9 (aCons (eFz (eLst aNil)) (aCons (eFz (eLst (aCons (eFz (eLst (aCons (eC (.int 0)) aNil))) (aCons (eFz (eLst (aCons (eC (.int 6)) aNil))) (aCons (eFz (eLst (aCons (eC (.int 7)) aNil))) (aCons (eFz (eLst (aCons (eC (.int 8)) aNil))) (aCons (eFz (eLst (aCons (eC (.int 9)) aNil))) (aCons (eFz (eLst (aCons (eC (.int 10)) aNil))) (aCons (eFz (eLst (aCons (eC (.int 11)) aNil))) (aCons (eFz (eLst (aCons (eC (.int 12)) aNil))) (aCons (eFz (eLst (aCons (eC (.int 13)) aNil))) (aCons (eFz (eLst (aCons (eC (.int 1)) aNil))) (aCons (eFz (eLst (aCons (eC (.int 14)) aNil))) (aCons (eFz (eLst (aCons (eC (.int 15)) aNil))) aNil)))))))))))))) aNil))) (sSeq (sFor (iR1 (aCons (eC (.int 6)) aNil)) (gN 10) (sSeq (sAsg (eOp (gI fun i j => i + j) (eC (.int 6)) (eOp (gIc cMul fun i j => i * j) (eC (.int 8)) (eVar 10))) (gN 11)) (sAsg (eOp gCat (eOp gCat (eOp gCat (eVar 8) (eFz (eLst (aCons (eTup (aCons (eFz (eLst (aCons (eVar 10) aNil))) (aCons (eVar 11) (aCons (eC (.int 1)) aNil)))) aNil)))) (eFz (eLc (iR2 (aCons (eVar 11) (aCons (eOp (gI fun i j => i + j) (eVar 11) (eC (.int 7))) aNil))) [12] (gN 12) tYesZ (eTup (aCons (eFz (eLst (aCons (eVar 12) aNil))) (aCons (eOp (gI fun i j => i + j) (eVar 12) (eC (.int 1))) (aCons (eC (.int 1)) aNil))))))) (eFz (eLst (aCons (eTup (aCons (eFz (eLst (aCons (eOp (gI fun i j => i + j) (eVar 11) (eC (.int 7))) aNil))) (aCons (eOp (gIc cPos fun i j => i % j) (eCB gInt (aCons (eOp (gI fun i j => i + j) (eVar 10) (eC (.int 1))) aNil)) (eC (.int 6))) (aCons (eC (.int 1)) aNil)))) aNil)))) (gN 8)))) (sSeq (sIf (tVal' (eOp gNeA (eFz (eCall F_light [.d, .d] (aCons (eTup (aCons (eC (.int 54)) (aCons (eVar 8) aNil))) (aCons (eOp gCat (eFz (eLst (aCons (eFz (eLst (aCons (eC (.int 0)) aNil))) aNil))) (eOp gRep (eFz (eLst (aCons (eFz (eLst aNil)) aNil))) (eC (.int 11)))) aNil)))) (eVar 9))) (sRet (eC (.bool false))) sNext) (sSeq (sAsg (eTup (aCons (eC (.int 3)) (aCons (eFz (eLst (aCons (eTup (aCons (eFz (eLst (aCons (eC (.int 0)) aNil))) (aCons (eC (.int 1)) (aCons (eUn gNeg (eC (.int 1))) aNil)))) (aCons (eTup (aCons (eFz (eLst (aCons (eC (.int 1)) aNil))) (aCons (eC (.int 2)) (aCons (eC (.int 1)) aNil)))) (aCons (eTup (aCons (eFz (eLst (aCons (eC (.int 2)) aNil))) (aCons (eC (.int 0)) (aCons (eC (.int 1)) aNil)))) aNil))))) aNil))) (gN 13)) (sSeq (sIf (tVal' (eOp gNeA (eFz (eCall F_light [.d, .d] (aCons (eVar 13) (aCons (eOp gCat (eFz (eLst (aCons (eFz (eLst aNil)) (aCons (eFz (eLst (aCons (eC (.int 0)) aNil))) aNil)))) (eOp gRep (eFz (eLst (aCons (eFz (eLst aNil)) aNil))) (eC (.int 28)))) aNil)))) (eOp gCat (eOp gCat (eFz (eLst (aCons (eFz (eLst (aCons (eC (.int 1)) aNil))) aNil))) (eOp gRep (eFz (eLst (aCons (eFz (eLst (aCons (eC (.int 0)) (aCons (eC (.int 1)) (aCons (eC (.int 2)) aNil))))) aNil))) (eC (.int 28)))) (eFz (eLst (aCons (eFz (eLst (aCons (eC (.int 0)) (aCons (eC (.int 2)) aNil)))) aNil)))))) (sRet (eC (.bool false))) sNext) (sRet (eAnd (eOp gEqA (eFz (eCall F_light [.d, .d] (aCons (eTup (aCons (eC (.int 1)) (aCons (eFz (eLst (aCons (eTup (aCons (eFz (eLst aNil)) (aCons (eC (.int 0)) (aCons (eC (.int 1)) aNil)))) aNil))) aNil))) (aCons (eFz (eLst (aCons (eFz (eLst aNil)) (aCons (eFz (eLst aNil)) (aCons (eFz (eLst aNil)) aNil))))) aNil)))) (eFz (eLst (aCons (eFz (eLst aNil)) (aCons (eFz (eLst (aCons (eC (.int 0)) aNil))) (aCons (eFz (eLst (aCons (eC (.int 0)) aNil))) aNil)))))) (eAnd (eOp gEqA (eFz (eCall F_light [.d, .d] (aCons (eTup (aCons (eC (.int 1)) (aCons (eFz (eLst aNil)) aNil))) (aCons (eFz (eLst aNil)) aNil)))) (eFz (eLst aNil))) (eOp gEqA (eFz (eCall F_light [.d, .d] (aCons (eTup (aCons (eC (.int 1)) (aCons (eFz (eLst (aCons (eTup (aCons (eFz (eLst (aCons (eC (.int 0)) aNil))) (aCons (eC (.int 0)) (aCons (eC (.int 0)) aNil)))) aNil))) aNil))) (aCons (eFz (eLst (aCons (eFz (eLst aNil)) aNil))) aNil)))) (eFz (eLst (aCons (eFz (eLst aNil)) aNil))))))))))))))))))
theorem law_turn {s : List Int} {k : Nat} {g0 l0 : Option PyData} {a0 a1 a2 a3 a4 a5 a6 a7 a8 a9 : Option PyData} (hk : k ≤ 1000) : ∃ g' l', lawB [some (markD s), some (.int (k : Nat)), g0, l0, a0, a1, a2, a3, a4, a5, a6, a7, a8, a9] = .nx [some (markD s), some (.int (k : Nat)), some g', some l', a0, a1, a2, a3, a4, a5, a6, a7, a8, a9] := by
  have h1 := gen_gn s (k := k)
  obtain ⟨n, ds, g1, e2, hn, hd, fd, h2⟩ := level_tells h1 (most := 4) (doors := 7) (by decide) (by decide) (by omega)
  obtain ⟨xss, g2, e3, hx, fx, h3⟩ := presses_tells (n := n) (ds := ds) h2 (most := 5) (by omega) (by decide) (by omega)
  have e4 := law_right_tells (n := n) (ds := ds) (xss := xss) ⟨by omega, by omega, fd, fx, by omega, by omega⟩
  refine ⟨g2, encL n ds, ?_⟩
  have s1 : sAsgO 2 (eGenS 0 (eVar 1)) [some (markD s), some (.int (k : Nat)), g0, l0, a0, a1, a2, a3, a4, a5, a6, a7, a8, a9] = .nx [some (markD s), some (.int (k : Nat)), some (genV s k), l0, a0, a1, a2, a3, a4, a5, a6, a7, a8, a9] := zAsgO (i := 2) (genS_tells hk rfl (zVar rfl))
  have s2 : sAsg (eFz (eCall F__law_level [.o 2, .d, .d] (aOwnS 2 (aCons (eC (.int 4)) (aCons (eC (.int 7)) aNil))))) (gN 3) [some (markD s), some (.int (k : Nat)), some (genV s k), l0, a0, a1, a2, a3, a4, a5, a6, a7, a8, a9] = .nx [some (markD s), some (.int (k : Nat)), some g1, some (encL n ds), a0, a1, a2, a3, a4, a5, a6, a7, a8, a9] :=
    zAsgN (ρ1 := [some (markD s), some (.int (k : Nat)), some g1, l0, a0, a1, a2, a3, a4, a5, a6, a7, a8, a9]) (i := 3) (zFzV (zCallOwnV (j := 0) (i := 2) (c := genV s k) (ρ1 := [some (markD s), some (.int (k : Nat)), some (genV s k), l0, a0, a1, a2, a3, a4, a5, a6, a7, a8, a9]) (ds := [.none, .int 4, .int 7]) (zOwn (d := genV s k) rfl (zTwo rfl rfl)) rfl rfl e2))
  have c3 : eFz (eCall F__law_presses [.o 2, .d, .d] (aOwnS 2 (aCons (eVar 3) (aCons (eC (.int 5)) aNil)))) [some (markD s), some (.int (k : Nat)), some g1, some (encL n ds), a0, a1, a2, a3, a4, a5, a6, a7, a8, a9] = .v (.list (encP xss)) [some (markD s), some (.int (k : Nat)), some g2, some (encL n ds), a0, a1, a2, a3, a4, a5, a6, a7, a8, a9] :=
    zFzL (zCallOwnO (j := 0) (i := 2) (c := g1) (ρ1 := [some (markD s), some (.int (k : Nat)), some g1, some (encL n ds), a0, a1, a2, a3, a4, a5, a6, a7, a8, a9]) (ds := [.none, encL n ds, .int 5]) (zOwn (d := g1) rfl (zTwo (zVar rfl) rfl)) rfl rfl e3)
  have c4 : eFz (eCall F__law_right [.d, .d] (aCons (eVar 3) (aCons (eFz (eCall F__law_presses [.o 2, .d, .d] (aOwnS 2 (aCons (eVar 3) (aCons (eC (.int 5)) aNil))))) aNil))) [some (markD s), some (.int (k : Nat)), some g1, some (encL n ds), a0, a1, a2, a3, a4, a5, a6, a7, a8, a9] = .v (.bool true) [some (markD s), some (.int (k : Nat)), some g2, some (encL n ds), a0, a1, a2, a3, a4, a5, a6, a7, a8, a9] :=
    zFzV (zCallV (zTwo (zVar rfl) c3) e4)
  exact zSeq s1 (zSeq s2 (zSIfF (zNot (zVal c4)) rfl))
set_option maxHeartbeats 4000000
theorem law_rest {S k g l : PyData} : finY none (lawRest [some S, some k, some g, some l, none, none, none, none, none, none, none, none, none, none]) = .v (.bool true) .none := by kernel_rfl
set_option maxHeartbeats 4000000
theorem law_tells (s : List Int) : F_law [markD s] = .v (.bool true) .none := by
  obtain ⟨g0, l0, e0⟩ := law_turn (s := s) (k := 0) (g0 := none) (l0 := none) (a0 := none) (a1 := none) (a2 := none) (a3 := none) (a4 := none) (a5 := none) (a6 := none) (a7 := none) (a8 := none) (a9 := none) (by decide)
  obtain ⟨g1, l1, e1⟩ := law_turn (s := s) (k := 1) (g0 := some g0) (l0 := some l0) (a0 := none) (a1 := none) (a2 := none) (a3 := none) (a4 := none) (a5 := none) (a6 := none) (a7 := none) (a8 := none) (a9 := none) (by decide)
  obtain ⟨g2, l2, e2⟩ := law_turn (s := s) (k := 2) (g0 := some g1) (l0 := some l1) (a0 := none) (a1 := none) (a2 := none) (a3 := none) (a4 := none) (a5 := none) (a6 := none) (a7 := none) (a8 := none) (a9 := none) (by decide)
  obtain ⟨g3, l3, e3⟩ := law_turn (s := s) (k := 3) (g0 := some g2) (l0 := some l2) (a0 := none) (a1 := none) (a2 := none) (a3 := none) (a4 := none) (a5 := none) (a6 := none) (a7 := none) (a8 := none) (a9 := none) (by decide)
  have loop : sFor (iR1 (aCons (eC (.int 4)) aNil)) (gN 1) lawB [some (markD s), none, none, none, none, none, none, none, none, none, none, none, none, none] = .nx [some (markD s), some (.int 3), some g3, some l3, none, none, none, none, none, none, none, none, none, none] :=
    zFor (ds := [.int 0, .int 1, .int 2, .int 3]) rfl (zTurn rfl e0 (zTurn rfl e1 (zTurn rfl e2 (zTurn rfl e3 rfl))))
  refine zFn rfl ?_
  exact (congrArg (finY none) (zSeq loop rfl)).trans law_rest
end TD
set_option maxHeartbeats 4000000
namespace TD
open PySem PySem.Spec PyProof.Rows L2
open Evl (Ex)
theorem at_mk {K : Fg} {h : Heap} {mg : Str → Option Value} {x : Str} {st : Stmt} {f : Addr} {oc : Value} {od an : Option Addr} {osl : Array (Option Value)} {kV doc pm cdv ct : Value} (X : K.In h) (G : h.Ns mainGlobals mg) (a : PySem.W.nsIn K mainGlobals x = some (some (.ref f)))
    (l : K.lookup f = some ⟨oc, od, .func (PySem.W.fnOf x x (defArgs st) (defBody st) (defScope st) .none kV doc pm an cdv ct), osl⟩) (c : PySem.W.codeIn K cdv x = true) (k : PySem.W.keepIn K (.ref f) = true) : At K mg x st :=
  ⟨f, _, fun_mk l c k, PySem.W.mg_of X G a⟩
theorem cx_no {P : Program} {w : World} {H : Hp} {s s' : Shared} {e : Value} (h : L2.CX P w [] H s (fun _ _ _ => False) e s') : False := by
  obtain ⟨_, _, _, _, _, h⟩ := h
  exact h.2.2.2.2.2.2.2
theorem all_mk {P : Program} {w : World} {K : Fg} {h : Heap} {mg : Str → Option Value} {fa : Addr} {t0 : Tok} (X : K.In h) (G : h.Ns mainGlobals mg) (hfa : mg "law" = some (.ref fa))
    (a_is_whole : At K mg "is_whole" s_is_whole)
    (a_is_count : At K mg "is_count" s_is_count)
    (a_is_tuple_of : At K mg "is_tuple_of" s_is_tuple_of)
    (a_fits_room : At K mg "fits_room" s_fits_room)
    (a_fits_lights : At K mg "fits_lights" s_fits_lights)
    (a_fits_presses : At K mg "fits_presses" s_fits_presses)
    (a_fits_door_within : At K mg "fits_door_within" s_fits_door_within)
    (a_fits_door : At K mg "fits_door" s_fits_door)
    (a_fits_level_with : At K mg "fits_level_with" s_fits_level_with)
    (a_fits_level : At K mg "fits_level" s_fits_level)
    (a__law_cell : At K mg "_law_cell" s__law_cell)
    (a__law_generator : At K mg "_law_generator" s__law_generator)
    (a_check_level : At K mg "check_level" s_check_level)
    (a_check_presses : At K mg "check_presses" s_check_presses)
    (a_mask_of : At K mg "mask_of" s_mask_of)
    (a_lights_of : At K mg "lights_of" s_lights_of)
    (a_door_masks : At K mg "door_masks" s_door_masks)
    (a_keeps_door : At K mg "keeps_door" s_keeps_door)
    (a_is_keeping : At K mg "is_keeping" s_is_keeping)
    (a_given_by : At K mg "given_by" s_given_by)
    (a_waves_from : At K mg "waves_from" s_waves_from)
    (a_waves_of : At K mg "waves_of" s_waves_of)
    (a_masks_of_waves : At K mg "masks_of_waves" s_masks_of_waves)
    (a_light_masks : At K mg "light_masks" s_light_masks)
    (a_round_numbers : At K mg "round_numbers" s_round_numbers)
    (a_light : At K mg "light" s_light)
    (a_keeps : At K mg "keeps" s_keeps)
    (a_lit_rounds : At K mg "lit_rounds" s_lit_rounds)
    (a__law_hash : At K mg "_law_hash" s__law_hash)
    (a__law_random : At K mg "_law_random" s__law_random)
    (a__law_some : At K mg "_law_some" s__law_some)
    (a__law_level : At K mg "_law_level" s__law_level)
    (a__law_presses : At K mg "_law_presses" s__law_presses)
    (a__law_given : At K mg "_law_given" s__law_given)
    (a__law_rounds : At K mg "_law_rounds" s__law_rounds)
    (a__law_light : At K mg "_law_light" s__law_light)
    (a__law_right : At K mg "_law_right" s__law_right)
    (a_law : At K mg "law" s_law)
    (z_NEXT : PySem.W.nsIn K mainGlobals "NEXT" = some (some (.int 1 t0)))
    (z_isinstance : PySem.W.nsIn K mainGlobals "isinstance" = some none)
    (z_int : PySem.W.nsIn K mainGlobals "int" = some none)
    (z_bool : PySem.W.nsIn K mainGlobals "bool" = some none)
    (z_list : PySem.W.nsIn K mainGlobals "list" = some none)
    (z_tuple : PySem.W.nsIn K mainGlobals "tuple" = some none)
    (z_len : PySem.W.nsIn K mainGlobals "len" = some none)
    (z_all : PySem.W.nsIn K mainGlobals "all" = some none)
    (z_max : PySem.W.nsIn K mainGlobals "max" = some none)
    (z_sum : PySem.W.nsIn K mainGlobals "sum" = some none)
    (z_range : PySem.W.nsIn K mainGlobals "range" = some none)
    (z_enumerate : PySem.W.nsIn K mainGlobals "enumerate" = some none)
    (z_repr : PySem.W.nsIn K mainGlobals "repr" = some none)
    (z_sorted : PySem.W.nsIn K mainGlobals "sorted" = some none)
    : ∃ fd : FuncData, (∀ (s : Shared) (v : Value), BindsTo s fd ⟨[v], []⟩ [("_law_script", v)]) ∧ ∀ base : Heap, K.In base → base.Ns mainGlobals mg → (∃ mm, base.Ns sysModules mm) → FnG P w K mg base (L2.CX P w) 12 fa fd ["_law_script"] (spLawV K) := by
  have BN_ : BN mg t0 := ⟨PySem.W.mg_of X G z_NEXT⟩
  have Bl_ : Bl mg := ⟨PySem.W.mg_none_of X G z_isinstance, PySem.W.mg_none_of X G z_int, PySem.W.mg_none_of X G z_bool, PySem.W.mg_none_of X G z_list, PySem.W.mg_none_of X G z_tuple, PySem.W.mg_none_of X G z_len, PySem.W.mg_none_of X G z_all⟩
  have Bg_ : Bg mg := ⟨PySem.W.mg_none_of X G z_int, PySem.W.mg_none_of X G z_len, PySem.W.mg_none_of X G z_max, PySem.W.mg_none_of X G z_sum, PySem.W.mg_none_of X G z_range⟩
  have Tb_ : Tb mg := ⟨PySem.W.mg_none_of X G z_all, PySem.W.mg_none_of X G z_enumerate, PySem.W.mg_none_of X G z_int, PySem.W.mg_none_of X G z_isinstance, PySem.W.mg_none_of X G z_len, PySem.W.mg_none_of X G z_list, PySem.W.mg_none_of X G z_max, PySem.W.mg_none_of X G z_range, PySem.W.mg_none_of X G z_repr, PySem.W.mg_none_of X G z_sorted, PySem.W.mg_none_of X G z_tuple⟩
  obtain ⟨f, fd, F, hm⟩ := a_law
  have e := hfa.symm.trans hm
  cases e
  refine ⟨fd, ?_, fun base _ _ sm => ?_⟩
  · obtain ⟨oc, od, kV, doc, pm, an, cdv, ct, osl, rfl, lk, hcd⟩ := F.ex
    exact fun s v => .of_eq rfl
  · have cl : Nat → Addr := fun _ => 0
    have c_is_whole := f_is_whole (P := P) (w := w) (base := base) (T := Bl_) (a := a_is_whole)
    have c_is_count := f_is_count (P := P) (w := w) (base := base) (c_is_whole := c_is_whole) (a := a_is_count)
    have c_is_tuple_of := f_is_tuple_of (P := P) (w := w) (base := base) (T := Bl_) (a := a_is_tuple_of)
    have c_fits_room := f_fits_room (P := P) (w := w) (base := base) (c_is_count := c_is_count) (a := a_fits_room)
    have c_fits_lights := f_fits_lights (P := P) (w := w) (base := base) (T := Bl_) (c_fits_room := c_fits_room) (a := a_fits_lights)
    have c_fits_presses := f_fits_presses (P := P) (w := w) (base := base) (T := Bl_) (c_fits_lights := c_fits_lights) (a := a_fits_presses)
    have c_fits_door_within := f_fits_door_within (P := P) (w := w) (base := base) (c_is_tuple_of := c_is_tuple_of) (c_fits_lights := c_fits_lights) (c_fits_room := c_fits_room) (c_is_whole := c_is_whole) (a := a_fits_door_within)
    have c_fits_door := f_fits_door (P := P) (w := w) (base := base) (T := BN_) (c_fits_door_within := c_fits_door_within) (a := a_fits_door)
    obtain ⟨fda, hfda⟩ : ∃ a, mg "fits_door" = some (.ref a) := let ⟨f, _, h, _⟩ := c_fits_door; ⟨f, h⟩
    have c_fits_level_with := f_fits_level_with (P := P) (w := w) (base := base) (T := Bl_) (hone := ⟨_, _, c_fits_door, hfda⟩) (c_is_tuple_of := c_is_tuple_of) (c_is_whole := c_is_whole) (a := a_fits_level_with)
    have c_fits_level := f_fits_level (P := P) (w := w) (base := base) (m_fits_door := hfda) (c_fits_level_with := c_fits_level_with) (a := a_fits_level)
    have c__law_cell := f__law_cell (P := P) (w := w) (base := base) (T := Bg_) (a := a__law_cell)
    have c__law_generator := f__law_generator (P := P) (w := w) (base := base) (T := Bg_) (c__law_cell := c__law_cell) (a := a__law_generator)
    have c_check_level := f_check_level (P := P) (w := w) (base := base) (cl := cl) (c_fits_level := c_fits_level) (a := a_check_level)
    have c_check_presses := f_check_presses (P := P) (w := w) (base := base) (cl := cl) (c_fits_presses := c_fits_presses) (a := a_check_presses)
    have c_mask_of := f_mask_of (P := P) (w := w) (base := base) (cl := cl) (a := a_mask_of)
    have c_lights_of := f_lights_of (P := P) (w := w) (base := base) (cl := cl) (a := a_lights_of)
    have c_door_masks := f_door_masks (P := P) (w := w) (base := base) (cl := cl) (c_mask_of := c_mask_of) (a := a_door_masks)
    have c_keeps_door := f_keeps_door (P := P) (w := w) (base := base) (cl := cl) (T := Tb_) (a := a_keeps_door)
    have c_is_keeping := f_is_keeping (P := P) (w := w) (base := base) (cl := cl) (T := Tb_) (c_mask_of := c_mask_of) (c_door_masks := c_door_masks) (c_keeps_door := c_keeps_door) (c_fits_presses := c_fits_presses) (a := a_is_keeping)
    have c_given_by := f_given_by (P := P) (w := w) (base := base) (cl := cl) (T := Tb_) (a := a_given_by)
    have c_waves_from := f_waves_from (P := P) (w := w) (base := base) (cl := cl) (T := Tb_) (c_given_by := c_given_by) (a := a_waves_from)
    have c_waves_of := f_waves_of (P := P) (w := w) (base := base) (cl := cl) (c_door_masks := c_door_masks) (c_mask_of := c_mask_of) (c_waves_from := c_waves_from) (a := a_waves_of)
    have c_masks_of_waves := f_masks_of_waves (P := P) (w := w) (base := base) (cl := cl) (T := Tb_) (a := a_masks_of_waves)
    have c_light_masks := f_light_masks (P := P) (w := w) (base := base) (cl := cl) (T := Tb_) (c_waves_of := c_waves_of) (c_masks_of_waves := c_masks_of_waves) (a := a_light_masks)
    have c_round_numbers := f_round_numbers (P := P) (w := w) (base := base) (cl := cl) (T := Tb_) (c_waves_of := c_waves_of) (c_lights_of := c_lights_of) (a := a_round_numbers)
    obtain ⟨c_light, k_light⟩ := f_light (P := P) (w := w) (base := base) (cl := cl) (c_check_level := c_check_level) (c_check_presses := c_check_presses) (c_light_masks := c_light_masks) (c_lights_of := c_lights_of) (a := a_light)
    have c_keeps := f_keeps (P := P) (w := w) (base := base) (cl := cl) (c_check_level := c_check_level) (c_check_presses := c_check_presses) (c_is_keeping := c_is_keeping) (a := a_keeps)
    obtain ⟨c_lit_rounds, k_lit_rounds⟩ := f_lit_rounds (P := P) (w := w) (base := base) (cl := cl) (c_check_level := c_check_level) (c_check_presses := c_check_presses) (c_round_numbers := c_round_numbers) (a := a_lit_rounds)
    have c__law_hash := f__law_hash (P := P) (w := w) (base := base) (cl := cl) (T := Tb_) (a := a__law_hash)
    have c__law_random := f__law_random (P := P) (w := w) (base := base) (cl := cl) (T := Tb_) (c__law_hash := c__law_hash) (a := a__law_random)
    have c__law_some := f__law_some (P := P) (w := w) (base := base) (cl := cl) (T := Tb_) (c__law_random := c__law_random) (a := a__law_some)
    have c__law_level := f__law_level (P := P) (w := w) (base := base) (cl := cl) (T := Tb_) (c__law_random := c__law_random) (c__law_some := c__law_some) (a := a__law_level)
    have c__law_presses := f__law_presses (P := P) (w := w) (base := base) (cl := cl) (T := Tb_) (c__law_random := c__law_random) (c__law_some := c__law_some) (a := a__law_presses)
    have c__law_given := f__law_given (P := P) (w := w) (base := base) (cl := cl) (T := Tb_) (sm := sm) (a := a__law_given)
    have c__law_rounds := f__law_rounds (P := P) (w := w) (base := base) (cl := cl) (T := Tb_) (sm := sm) (c__law_given := c__law_given) (a := a__law_rounds)
    have c__law_light := f__law_light (P := P) (w := w) (base := base) (cl := cl) (T := Tb_) (c__law_rounds := c__law_rounds) (a := a__law_light)
    have c__law_right := f__law_right (P := P) (w := w) (base := base) (cl := cl) (T := Tb_) (sm := sm) (c__law_rounds := c__law_rounds) (c__law_light := c__law_light) (c_light := c_light) (c_lit_rounds := c_lit_rounds) (c_keeps := c_keeps) (k_light := k_light) (k_lit_rounds := k_lit_rounds) (a := a__law_right)
    exact f_law (cl := cl) (T := Tb_) (sm := sm) (c__law_level := c__law_level) (c__law_presses := c__law_presses) (c__law_right := c__law_right) (c_lit_rounds := c_lit_rounds) (c_light := c_light) (c__law_generator := c__law_generator) (hF := law_tells) F
end TD
open PySem PySem.W PyProof.Rows
set_option maxHeartbeats 0 in
theorem PySem.Challenge.cw_timedoors_k07_whole_light_holds : PySem.Challenge.rw_timedoors_k07_whole_light.Holds := by
  w_on; o_law; k_head; (case hw => w_witness2)
  k_fill
  refine TD.walkG (l := PySem.Challenge.rw_timedoors_k07_whole_light) (n := 63) (k := 12) (x := "_law_script") (CX := fun w => L2.CX PySem.Challenge.rw_timedoors_k07_whole_light.prog w) (sp := fun w => TD.spLawV _) rfl (by decide) rfl rfl ⟨rfl, by decide, by decide⟩ (fun w h Y => PySem.W.kIn_of Y) ?F (fun _ _ a ns hl _ hS => ⟨a, ns, rfl, hS, fun _ => rfl⟩) (fun _ _ _ _ _ h => TD.cx_no h)
  case F =>
    intro w mg fa h KX G hmg
    refine' TD.all_mk KX G hmg ?a_is_whole ?a_is_count ?a_is_tuple_of ?a_fits_room ?a_fits_lights ?a_fits_presses ?a_fits_door_within ?a_fits_door ?a_fits_level_with ?a_fits_level ?a__law_cell ?a__law_generator ?a_check_level ?a_check_presses ?a_mask_of ?a_lights_of ?a_door_masks ?a_keeps_door ?a_is_keeping ?a_given_by ?a_waves_from ?a_waves_of ?a_masks_of_waves ?a_light_masks ?a_round_numbers ?a_light ?a_keeps ?a_lit_rounds ?a__law_hash ?a__law_random ?a__law_some ?a__law_level ?a__law_presses ?a__law_given ?a__law_rounds ?a__law_light ?a__law_right ?a_law ?z_NEXT ?z_isinstance ?z_int ?z_bool ?z_list ?z_tuple ?z_len ?z_all ?z_max ?z_sum ?z_range ?z_enumerate ?z_repr ?z_sorted
    (case a_is_whole => refine' TD.at_mk KX G ?a ?l ?c ?k; (case a => k_is); (case l => k_is); (case c => k_is); (case k => k_is))
    (case a_is_count => refine' TD.at_mk KX G ?a ?l ?c ?k; (case a => k_is); (case l => k_is); (case c => k_is); (case k => k_is))
    (case a_is_tuple_of => refine' TD.at_mk KX G ?a ?l ?c ?k; (case a => k_is); (case l => k_is); (case c => k_is); (case k => k_is))
    (case a_fits_room => refine' TD.at_mk KX G ?a ?l ?c ?k; (case a => k_is); (case l => k_is); (case c => k_is); (case k => k_is))
    (case a_fits_lights => refine' TD.at_mk KX G ?a ?l ?c ?k; (case a => k_is); (case l => k_is); (case c => k_is); (case k => k_is))
    (case a_fits_presses => refine' TD.at_mk KX G ?a ?l ?c ?k; (case a => k_is); (case l => k_is); (case c => k_is); (case k => k_is))
    (case a_fits_door_within => refine' TD.at_mk KX G ?a ?l ?c ?k; (case a => k_is); (case l => k_is); (case c => k_is); (case k => k_is))
    (case a_fits_door => refine' TD.at_mk KX G ?a ?l ?c ?k; (case a => k_is); (case l => k_is); (case c => k_is); (case k => k_is))
    (case a_fits_level_with => refine' TD.at_mk KX G ?a ?l ?c ?k; (case a => k_is); (case l => k_is); (case c => k_is); (case k => k_is))
    (case a_fits_level => refine' TD.at_mk KX G ?a ?l ?c ?k; (case a => k_is); (case l => k_is); (case c => k_is); (case k => k_is))
    (case a__law_cell => refine' TD.at_mk KX G ?a ?l ?c ?k; (case a => k_is); (case l => k_is); (case c => k_is); (case k => k_is))
    (case a__law_generator => refine' TD.at_mk KX G ?a ?l ?c ?k; (case a => k_is); (case l => k_is); (case c => k_is); (case k => k_is))
    (case a_check_level => refine' TD.at_mk KX G ?a ?l ?c ?k; (case a => k_is); (case l => k_is); (case c => k_is); (case k => k_is))
    (case a_check_presses => refine' TD.at_mk KX G ?a ?l ?c ?k; (case a => k_is); (case l => k_is); (case c => k_is); (case k => k_is))
    (case a_mask_of => refine' TD.at_mk KX G ?a ?l ?c ?k; (case a => k_is); (case l => k_is); (case c => k_is); (case k => k_is))
    (case a_lights_of => refine' TD.at_mk KX G ?a ?l ?c ?k; (case a => k_is); (case l => k_is); (case c => k_is); (case k => k_is))
    (case a_door_masks => refine' TD.at_mk KX G ?a ?l ?c ?k; (case a => k_is); (case l => k_is); (case c => k_is); (case k => k_is))
    (case a_keeps_door => refine' TD.at_mk KX G ?a ?l ?c ?k; (case a => k_is); (case l => k_is); (case c => k_is); (case k => k_is))
    (case a_is_keeping => refine' TD.at_mk KX G ?a ?l ?c ?k; (case a => k_is); (case l => k_is); (case c => k_is); (case k => k_is))
    (case a_given_by => refine' TD.at_mk KX G ?a ?l ?c ?k; (case a => k_is); (case l => k_is); (case c => k_is); (case k => k_is))
    (case a_waves_from => refine' TD.at_mk KX G ?a ?l ?c ?k; (case a => k_is); (case l => k_is); (case c => k_is); (case k => k_is))
    (case a_waves_of => refine' TD.at_mk KX G ?a ?l ?c ?k; (case a => k_is); (case l => k_is); (case c => k_is); (case k => k_is))
    (case a_masks_of_waves => refine' TD.at_mk KX G ?a ?l ?c ?k; (case a => k_is); (case l => k_is); (case c => k_is); (case k => k_is))
    (case a_light_masks => refine' TD.at_mk KX G ?a ?l ?c ?k; (case a => k_is); (case l => k_is); (case c => k_is); (case k => k_is))
    (case a_round_numbers => refine' TD.at_mk KX G ?a ?l ?c ?k; (case a => k_is); (case l => k_is); (case c => k_is); (case k => k_is))
    (case a_light => refine' TD.at_mk KX G ?a ?l ?c ?k; (case a => k_is); (case l => k_is); (case c => k_is); (case k => k_is))
    (case a_keeps => refine' TD.at_mk KX G ?a ?l ?c ?k; (case a => k_is); (case l => k_is); (case c => k_is); (case k => k_is))
    (case a_lit_rounds => refine' TD.at_mk KX G ?a ?l ?c ?k; (case a => k_is); (case l => k_is); (case c => k_is); (case k => k_is))
    (case a__law_hash => refine' TD.at_mk KX G ?a ?l ?c ?k; (case a => k_is); (case l => k_is); (case c => k_is); (case k => k_is))
    (case a__law_random => refine' TD.at_mk KX G ?a ?l ?c ?k; (case a => k_is); (case l => k_is); (case c => k_is); (case k => k_is))
    (case a__law_some => refine' TD.at_mk KX G ?a ?l ?c ?k; (case a => k_is); (case l => k_is); (case c => k_is); (case k => k_is))
    (case a__law_level => refine' TD.at_mk KX G ?a ?l ?c ?k; (case a => k_is); (case l => k_is); (case c => k_is); (case k => k_is))
    (case a__law_presses => refine' TD.at_mk KX G ?a ?l ?c ?k; (case a => k_is); (case l => k_is); (case c => k_is); (case k => k_is))
    (case a__law_given => refine' TD.at_mk KX G ?a ?l ?c ?k; (case a => k_is); (case l => k_is); (case c => k_is); (case k => k_is))
    (case a__law_rounds => refine' TD.at_mk KX G ?a ?l ?c ?k; (case a => k_is); (case l => k_is); (case c => k_is); (case k => k_is))
    (case a__law_light => refine' TD.at_mk KX G ?a ?l ?c ?k; (case a => k_is); (case l => k_is); (case c => k_is); (case k => k_is))
    (case a__law_right => refine' TD.at_mk KX G ?a ?l ?c ?k; (case a => k_is); (case l => k_is); (case c => k_is); (case k => k_is))
    (case a_law => refine' TD.at_mk KX G ?a ?l ?c ?k; (case a => k_is); (case l => k_is); (case c => k_is); (case k => k_is))
    (case z_NEXT => k_is)
    (case z_isinstance => k_is)
    (case z_int => k_is)
    (case z_bool => k_is)
    (case z_list => k_is)
    (case z_tuple => k_is)
    (case z_len => k_is)
    (case z_all => k_is)
    (case z_max => k_is)
    (case z_sum => k_is)
    (case z_range => k_is)
    (case z_enumerate => k_is)
    (case z_repr => k_is)
    (case z_sorted => k_is)

