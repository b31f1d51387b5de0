import PyProof.Rows.All
import Wide.All
import OpenK.AllK
import Wide.FinOn
import HandS.ForMost
import HandS.IsInst
import HandS.Evl
import HandS.WideBits
import HandS.Wide
import HandS.Flow
import HandS.Style
import HandS.SortInts
import HandS.Strs
import HandS.Conv
import HandS.TupLe
import HandS.Defaults
import HandS.Small
import KE.DataCmp
import HandS.SetFor
import KE.SortData
import HandS.CallLocal
import HandS.ExcInit
import HandS.ExcIs
import HandS.ExcValue
import HandS.ExcOwn
import KE.KExcIs
import HandS.DeepEq
import HandS.TryMany
import HandS.Zip
import HandS.Text
import HandS.Lambda
import HandS.EndTab
import HandS.Walk
import HandS.Deep
import KE.KDictZip
import PyProof.ZipIter
import HandS.DictComp
import KE.DataMinMax
import HandS.SortKw
import KE.KRevSl
import PySem.Challenge.RW_timedoors_k32_hands_refused
set_option Elab.async false
set_option linter.all false
set_option maxRecDepth 100000
set_option maxHeartbeats 4000000
namespace TD
open PySem PySem.Spec PyProof.Rows L2

structure FnG (P : Program) (w : World) (K : PySem.W.Frag) (mg : Str → Option Value) (base : Heap) (CX : CXT) (k : Nat) (f : Addr) (fd : FuncData) (ps : List Str) (sp : Sp) : Prop where
  ln : ∀ vs H Q E, sp vs H Q E → vs.length = ps.length
  go : ∀ (A : Around) (outer : List Env) (s : Shared) (H : Hp) (args : Args) (us : List Value) (vs : List V) (Q : VK) (E : XK),
    A.guards = some [] → Room k A → Env0 P w K mg base A outer s H → BindsTo s fd args (ps.zip us) → Vals vs us → sp vs H Q E →
    codeAny (model P w) A (.call (.ref f) args) (CR CX outer P w H s Q E) s

section
variable {P : Program} {w : World} {K : PySem.W.Frag} {mg : Str → Option Value} {base : Heap}
theorem FnG.up {CX : CXT} {j k : Nat} {f : Addr} {fd : FuncData} {ps : List Str} {sp : Sp} (F : FnG P w K mg base CX j f fd ps sp) (h : j ≤ k) :
    FnG P w K mg base CX k f fd ps sp := ⟨F.ln, fun A o s H a us vs Q E g r => F.go A o s H a us vs Q E g (r.mono h)⟩
theorem FnG.weak {CX : CXT} {k : Nat} {f : Addr} {fd : FuncData} {ps : List Str} {sp sp' : Sp} (F : FnG P w K mg base CX k f fd ps sp)
    (h : ∀ vs H Q E, sp' vs H Q E → sp vs H Q E) : FnG P w K mg base CX k f fd ps sp' :=
  ⟨fun vs H Q E q => F.ln vs H Q E (h _ _ _ _ q), fun A o s H a us vs Q E g r e b v q => F.go A o s H a us vs Q E g r e b v (h _ _ _ _ q)⟩
theorem FnG.of {CX : CXT} {k : Nat} {f : Addr} {fd : FuncData} {ps : List Str} {sp : Sp} (F : FnOk P w K mg base CX k f fd ps sp) :
    FnG P w K mg base CX k f fd ps sp := ⟨F.len, fun A o s H a us vs Q E _ r => F.run A o s H a us vs Q E r⟩
theorem fnG {CX : CXT} {x qual : Str} {st : Stmt} {f : Addr} {fd : FuncData} {N ps : List Str} {k : Nat} {sp : Sp} (F : Fun K x qual st f fd) (S : FnScope N ps (defScope st))
    (ln : ∀ vs H Q E, sp vs H Q E → vs.length = ps.length)
    (body : ∀ (cdv : Value) (A : Around) (outer : List Env) (s : Shared) (H : Hp) (vs : List V) (Q : VK) (E : XK),
      A.guards = some [] → Room k (A.deeper (envOfC qual (defScope st) s.heap.objs.size f cdv)) → sp vs H Q E →
      ∃ t, PSs (cxOf CX P w K mg base N qual (defScope st) f cdv A outer s H E) (defBody st) t ∧ t { nx := fun _ H' => Q .non H', rt := Q } (start N vs) H) :
    FnG P w K mg base CX (k + 1) f fd ps sp := by
  obtain ⟨oc, od, kV, doc, pm, an, cdv, ct, osl, rfl, lk, hcd⟩ := F.ex
  refine ⟨ln, ?_⟩
  intro A outer s H args us vs Q E hg hr e0 hb r hsp
  have keepB : ∀ b o, base.get? b = some o → s.heap.get? b = some o := fun b o e => (e0.bs b o e).1
  have inK : K.In s.heap := e0.mod.kin.keeps keepB
  have noLim : s.heap.NoLimit := e0.mod.nolimit.keeps keepB
  have kinds : ∀ y ∈ ps.zip us, (defScope st).names.lookup y.1 = some .local ∨
      ((defScope st).names.lookup y.1 = some .cell ∧ ((cellsFrom (s.heap.objs.size + 1) (defScope st).names []).lookup y.1).isSome = true) := by
    intro ⟨nm, u⟩ hy
    rcases S.par nm (List.of_mem_zip hy).1 with z | z
    · exact Or.inl z
    · exact Or.inr ⟨z, PySem.W.cellsFrom_some _ _ _ (Or.inl z)⟩
  refine codeAny_call_function hr.depth (inK _ _ lk) rfl S.co S.gen rfl (PySem.W.codeRec_of inK hcd) (hb _ _ _ _ ?_)
  refine wpAny_newFunctionEnv_cells S.kind kinds fun en hen s1 x1 => ?_
  subst hen
  refine ⟨noLim.keeps x1.toInCall.keep, codeAny_func ?_⟩
  obtain ⟨t, ht, hq⟩ := body cdv A outer s H vs Q E hg (hr.deeper _) hsp
  have I1 : Inv (cxOf CX P w K mg base N qual (defScope st) f cdv A outer s H E) [] (start N vs) H s1 := inv_start S hr.hd e0 (ln _ _ _ _ hsp) r x1
  refine wpAny_mono (ht.run [] s1 (start N vs) H _ I1 hq) ?_ (fun _ _ z => z)
  intro fl s2 hs
  match fl, hs with
  | .ret u, ⟨v, _, H2, J, rv, q⟩ => exact ⟨v, H2, J.os, J.bare, J.base, J.hok, rv, q⟩
  | .next, ⟨_, H2, J, q⟩ => exact ⟨V.non, H2, J.os, J.bare, J.base, J.hok, rfl, q⟩
  | .brk, ⟨_, _, _, q⟩ => exact q.elim
  | .cont, ⟨_, _, _, q⟩ => exact q.elim
end

section
variable {X : Cx} {CX : CXT} {k : Nat} {f : Addr} {fd : FuncData} {ps ks : List Str} {sp : Sp} {dvs : List V} {ds : List Value} {E : XK} {x : Str} {p pos : Pos} {e : Expr} {es : List Expr} {t tk : TA} {kws : List Keyword}
  {g : List Value → List Value → List Value} {gV : List V → List V → List V}
theorem runG {pins : List (Addr × Obj)} {σ : L2.St} {H : Hp} {s : Shared} {Q : VK} {us us2 : List Value} {kw : List (Str × Value)} {vs : List V}
    (F : FnG X.prog X.w X.K X.mg X.base CX k f fd ps sp) (hg : X.A.guards = some []) (hr : Room k X.A)
    (hb : BindsTo s fd ⟨us2, kw⟩ (ps.zip us)) (hx : Passes CX X E) (I : Inv X pins σ H s) (r : Vals vs us) (h : sp vs H Q E) :
    wpAny (model X.prog X.w) X.A (call (.ref f) us2 kw) (EP X pins σ Q) X.xe s := by
  refine wpAny_call (codeAny_mono (F.go X.A X.stack s H _ us vs Q E hg hr I.env0 hb r h) ?_)
  intro rs s2 hq
  match rs, hq with
  | .error e, hq => exact hx pins σ H s e s2 I hq
  | .ok (.ret u), hq => exact I.after hq
  | .ok .next, hq => exact hq.elim
  | .ok .brk, hq => exact hq.elim
  | .ok .cont, hq => exact hq.elim
theorem pe_g (F : FnG X.prog X.w X.K X.mg X.base CX k f fd ps sp) (gu : X.A.guards = some []) (hr : Room k X.A) (hg : Gl X x) (hm : X.mg x = some (.ref f))
    (hk : PySem.W.keepIn X.K (.ref f) = true) (hb : Binds X.K fd ps []) (hx : Passes CX X E) (ha : PA X (e :: es) t)
    (d1 : (x == ("__debug__" : Str)) = false := by decide)
    (d2 : starEach (e :: es) X.env = (false, eval e X.env) :: starEach es X.env := by rfl)
    (d3 : (backTo pos (starEach es X.env)).any (·.1) = false := by rfl) :
    PE X (.Call (.Name x p) (e :: es) [] pos) (tCall sp [] E t) := by
  refine ⟨fun pins s σ H Q I h => wpAny_Call_Name_kw (ld_glob I hg hm ?_ d1)⟩
  refine PySem.W.callWith_K (h₀ := X.base) I.ok.mod.kin hk (thn (ha.run pos pins s σ H _ I h) ?_) d2 d3
  intro us s1 ⟨vs, H1, I1, r, q⟩
  have q' : sp vs H1 Q E := by
    have z : sp (vs ++ []) H1 Q E := q
    rw [List.append_nil] at z
    exact z
  have b := hb s1 us I1.kIn (by rw [List.append_nil, ← r.length]; exact F.ln _ _ _ _ q')
  rw [List.append_nil] at b
  exact ⟨I1.kIn, runG F gu hr b hx I1 r q'⟩
theorem pe_g0 (F : FnG X.prog X.w X.K X.mg X.base CX k f fd [] sp) (gu : X.A.guards = some []) (hr : Room k X.A) (hg : Gl X x) (hm : X.mg x = some (.ref f))
    (hk : PySem.W.keepIn X.K (.ref f) = true) (hb : Binds X.K fd [] []) (hx : Passes CX X E) (d1 : (x == ("__debug__" : Str)) = false := by decide) :
    PE X (.Call (.Name x p) [] [] pos) (tCall sp [] E tNil) := by
  refine ⟨fun pins s σ H Q I h => wpAny_Call_Name_kw (ld_glob I hg hm ?_ d1)⟩
  exact PySem.W.callWith_K0 I.kIn hk (runG (us := []) F gu hr (hb s [] I.kIn rfl) hx I .nil h)
structure KAll (fd : FuncData) (ps ks : List Str) (g : List Value → List Value) (gV : List V → List V) : Prop where
  to : ∀ ws : List Value, ws.length = ks.length → bindArgs fd ⟨[], ks.zip ws⟩ = pure (ps.zip (g ws))
  rel : ∀ {zs : List V} {ws : List Value}, zs.length = ks.length → Vals zs ws → Vals (gV zs) (g ws)
end

section
end
end TD

set_option maxHeartbeats 4000000
namespace TD
open PySem PySem.Spec PyProof.Rows L2

def keyD : Key → PyData
  | .inl i => .int i
  | .inr x => .str x
mutual
inductive Da (K : PySem.W.Frag) (H : Hp) : V → PyData → Prop
  | non : Da K H .non .none
  | bl (b : Bool) : Da K H (.bl b) (.bool b)
  | int (i : Int) : Da K H (.int i) (.int i)
  | str (x : Str) : Da K H (.str x) (.str x)
  | lst {a : Addr} {xs : List V} {ds : List PyData} : H a = some (.lst xs) → Das K H xs ds → Da K H (.ref a) (.list ds)
  | tup {a : Addr} {xs : List V} {ds : List PyData} : H a = some (.tup xs) → Das K H xs ds → Da K H (.ref a) (.tuple ds)
  | dic {a : Addr} {kvs : List (Key × V)} {ds : List PyData} : H a = some (.dK kvs) → Das K H (kvs.map (·.2)) ds → Da K H (.ref a) (.dict ((kvs.map fun p => keyD p.1).zip ds))
inductive Das (K : PySem.W.Frag) (H : Hp) : List V → List PyData → Prop
  | nil : Das K H [] []
  | cons {v : V} {vs : List V} {d : PyData} {ds : List PyData} : Da K H v d → Das K H vs ds → Das K H (v :: vs) (d :: ds)
end
theorem Das.len {K : PySem.W.Frag} {H : Hp} : ∀ {vs : List V} {ds : List PyData}, Das K H vs ds → vs.length = ds.length
  | _, _, .nil => rfl
  | _, _, .cons _ t => congrArg Nat.succ t.len
theorem Das.get {K : PySem.W.Frag} {H : Hp} : ∀ {vs : List V} {ds : List PyData} {i : Nat} {v : V}, Das K H vs ds → vs[i]? = some v → ∃ d, ds[i]? = some d ∧ Da K H v d
  | _, _, _, _, .nil, h => by simp at h
  | _, _, 0, v, .cons (d := d) h t, e => by
    simp at e
    subst e
    exact ⟨d, rfl, h⟩
  | _, _, i + 1, v, .cons h t, e => by
    obtain ⟨d, e1, e2⟩ := t.get (i := i) (v := v) (by simpa using e)
    exact ⟨d, by simpa using e1, e2⟩
theorem Das.getD {K : PySem.W.Frag} {H : Hp} : ∀ {vs : List V} {ds : List PyData} {i : Nat} {d : PyData}, Das K H vs ds → ds[i]? = some d → ∃ v, vs[i]? = some v ∧ Da K H v d
  | _, _, _, _, .nil, h => by simp at h
  | _, _, 0, d, .cons (v := v) h t, e => by
    simp at e
    subst e
    exact ⟨v, rfl, h⟩
  | _, _, i + 1, d, .cons h t, e => by
    obtain ⟨v, e1, e2⟩ := t.getD (i := i) (d := d) (by simpa using e)
    exact ⟨v, by simpa using e1, e2⟩
theorem Das.app {K : PySem.W.Frag} {H : Hp} : ∀ {vs ws : List V} {ds es : List PyData}, Das K H vs ds → Das K H ws es → Das K H (vs ++ ws) (ds ++ es)
  | _, _, _, _, .nil, h => h
  | _, _, _, _, .cons a t, h => .cons a (t.app h)
theorem Das.take {K : PySem.W.Frag} {H : Hp} : ∀ {vs : List V} {ds : List PyData} (n : Nat), Das K H vs ds → Das K H (vs.take n) (ds.take n)
  | _, _, 0, _ => .nil
  | _, _, _ + 1, .nil => .nil
  | _, _, n + 1, .cons a t => .cons a (t.take n)
theorem Das.drop {K : PySem.W.Frag} {H : Hp} : ∀ {vs : List V} {ds : List PyData} (n : Nat), Das K H vs ds → Das K H (vs.drop n) (ds.drop n)
  | _, _, 0, h => h
  | _, _, _ + 1, .nil => .nil
  | _, _, n + 1, .cons a t => t.drop n
mutual
theorem Da.ex {K : PySem.W.Frag} {H H' : Hp} (e : Evl.Ex H H') : ∀ {v : V} {d : PyData}, Da K H v d → Da K H' v d
  | _, _, .non => .non
  | _, _, .bl b => .bl b
  | _, _, .int i => .int i
  | _, _, .str x => .str x
  | _, _, .lst h t => .lst (e _ _ h) (Das.ex e t)
  | _, _, .tup h t => .tup (e _ _ h) (Das.ex e t)
  | _, _, .dic h t => .dic (e _ _ h) (Das.ex e t)
theorem Das.ex {K : PySem.W.Frag} {H H' : Hp} (e : Evl.Ex H H') : ∀ {vs : List V} {ds : List PyData}, Das K H vs ds → Das K H' vs ds
  | _, _, .nil => .nil
  | _, _, .cons a t => .cons (Da.ex e a) (Das.ex e t)
end
section
variable {X : Cx} {pins : List (Addr × Obj)} {σ : L2.St} {H : Hp} {s : Shared}
theorem pairs_reads {P : Program} {w : World} {h : Heap} : ∀ {es : List DictEntry} {kvs : List (Key × V)} {vs : List (Key × Value)}, Pairs (mixKind P w) es vs → KV kvs vs →
    ReadsAll h (es.map (·.key)) (kvs.map fun p => keyD p.1) [] ∧ Vals (kvs.map (·.2)) (es.map (·.val))
  | _, _, _, .nil, .nil => ⟨.nil, .nil⟩
  | _, _, _, .cons (e := e) h1 h2 t, .cons (a := a) r u => by
    obtain ⟨q1, q2⟩ := pairs_reads (h := h) t u
    obtain ⟨r1, r2⟩ := r
    have h1' : keyIs a.1 e.key = true := by
      rw [r1]
      exact h1
    refine ⟨?_, .cons (by show L2.RelV a.2 e.val; rw [h2]; exact r2) q2⟩
    rcases keyIs_shape h1' with ⟨i, tk, ek, ev⟩ | ⟨x, tk, ek, ev⟩
    · have z := ReadsAll.cons (Reads.int (h := h) i tk) q1
      simp only [List.map_cons, ek, ev]
      exact z
    · have z := ReadsAll.cons (Reads.str (h := h) x tk) q1
      simp only [List.map_cons, ek, ev]
      exact z
theorem seq_not_sm {a : Addr} {o : Obj} {vs : Array Value} {n : Nat} (sm : ∃ mm, X.base.Ns sysModules mm) (I : Inv X pins σ H s) (ho : s.heap.get? a = some o) (hd : o.data = .seq vs n) : a ≠ sysModules := by
  intro e
  subst e
  obtain ⟨mm, q⟩ := sm
  obtain ⟨o2, es, ep, e2, d2, _⟩ := q.keeps I.bk
  rw [ho] at e2
  cases e2
  have z : o.data = .dict es ep := d2
  rw [hd] at z
  cases z
mutual
theorem Da.reads (sm : ∃ mm, X.base.Ns sysModules mm) (I : Inv X pins σ H s) : ∀ (d : PyData) (v : V) (u : Value), Da X.K H v d → RelV v u → ∃ as, Reads s.heap u d as ∧ sysModules ∉ as
  | .none, _, _, h, r => by
    cases h
    cases r
    exact ⟨_, Reads.none, fun z => nomatch z⟩
  | .bool b, _, _, h, r => by
    cases h
    cases r
    exact ⟨_, Reads.bool b, fun z => nomatch z⟩
  | .int i, _, _, h, r => by
    cases h
    obtain ⟨t, rfl⟩ := r
    exact ⟨_, Reads.int i t, fun z => nomatch z⟩
  | .str x, _, _, h, r => by
    cases h
    obtain ⟨t, rfl⟩ := r
    exact ⟨_, Reads.str x t, fun z => nomatch z⟩
  | .list ds, _, _, h, r => by
    cases h with
    | lst hs ha =>
      cases r
      obtain ⟨its, rv, ⟨o, n, ho, hc, _, hd⟩, _⟩ := I.list (SqL.of hs)
      obtain ⟨as, hr, hn⟩ := Das.reads sm I ds _ its ha rv
      refine ⟨_, Reads.list ho hc hd hr, fun z => ?_⟩
      rcases List.mem_cons.mp z with z | z
      · exact seq_not_sm sm I ho hd z.symm
      · exact hn z
  | .tuple ds, _, _, h, r => by
    cases h with
    | tup hs ha =>
      cases r
      obtain ⟨its, rv, ⟨o, ho, hc, n, hd⟩, _⟩ := I.tuple (SqT.of hs)
      obtain ⟨as, hr, hn⟩ := Das.reads sm I ds _ its ha rv
      exact ⟨_, Reads.tuple ho hc hd hr, hn⟩
  | .dict kds, v, u, h, r => by
    generalize hk : PyData.dict kds = dd at h
    cases h with
    | @dic a kvs ds hs ha =>
      cases r
      injection hk with hk
      subst hk
      obtain ⟨_, ns, vs, rel, o, es, ep, ho, hx, hd, _, hp, _⟩ := (I.hok a _ hs : ObjOk X.prog X.w H s.heap a (.dK kvs))
      obtain ⟨q1, q2⟩ := pairs_reads (h := s.heap) hp rel
      have l1 : (kvs.map fun p => keyD p.1).length = ds.length := by
        have := ha.len
        rw [List.length_map] at this ⊢
        exact this
      have ez : ((kvs.map fun p => keyD p.1).zip ds).map (·.2) = ds := List.map_snd_zip (by omega)
      obtain ⟨as, hr, hn⟩ := Das.readsZ sm I ((kvs.map fun p => keyD p.1).zip ds) _ _ (by rw [ez]; exact ha) q2
      refine ⟨_, Reads.dict (es := es) (n := ep) (as := []) (bs := as) ho hx.1 hd ?_ ?_, fun z => ?_⟩
      · rw [List.map_fst_zip (by omega)]
        exact q1
      · exact hr
      · rcases List.mem_cons.mp z with z | z
        · rw [← z] at ns
          simp at ns
        · exact hn (by simpa using z)
    | _ => cases hk
theorem Das.reads (sm : ∃ mm, X.base.Ns sysModules mm) (I : Inv X pins σ H s) : ∀ (ds : List PyData) (vs : List V) (us : List Value), Das X.K H vs ds → Vals vs us → ∃ as, ReadsAll s.heap us ds as ∧ sysModules ∉ as
  | [], _, _, h, r => by
    cases h
    cases r
    exact ⟨_, ReadsAll.nil, fun z => nomatch z⟩
  | d :: ds, _, _, h, r => by
    cases h with
    | cons h1 h2 =>
      cases r with
      | cons r1 r2 =>
        obtain ⟨as, q1, n1⟩ := Da.reads sm I d _ _ h1 r1
        obtain ⟨bs, q2, n2⟩ := Das.reads sm I ds _ _ h2 r2
        exact ⟨_, ReadsAll.cons q1 q2, fun z => (List.mem_append.mp z).elim n1 n2⟩
theorem Das.readsZ (sm : ∃ mm, X.base.Ns sysModules mm) (I : Inv X pins σ H s) : ∀ (kds : List (PyData × PyData)) (vs : List V) (us : List Value), Das X.K H vs (kds.map (·.2)) → Vals vs us → ∃ as, ReadsAll s.heap us (kds.map (·.2)) as ∧ sysModules ∉ as
  | [], _, _, h, r => by
    cases h
    cases r
    exact ⟨_, ReadsAll.nil, fun z => nomatch z⟩
  | (k, d) :: ds, _, _, h, r => by
    cases h with
    | cons h1 h2 =>
      cases r with
      | cons r1 r2 =>
        obtain ⟨as, q1, n1⟩ := Da.reads sm I d _ _ h1 r1
        obtain ⟨bs, q2, n2⟩ := Das.readsZ sm I ds _ _ h2 r2
        exact ⟨_, ReadsAll.cons q1 q2, fun z => (List.mem_append.mp z).elim n1 n2⟩
end
end
end TD
namespace TD
open PySem PySem.Spec PyProof.Rows L2
mutual
def sz : PyData → Nat
  | .none => 10
  | .bool _ => 10
  | .int _ => 2000
  | .str x => (reprText x).length
  | .list xs => szs xs + 5
  | .tuple xs => szs xs + 5
  | .dict kvs => szk kvs + 5
def szs : List PyData → Nat
  | [] => 0
  | d :: ds => sz d + 2 + szs ds
def szk : List (PyData × PyData) → Nat
  | [] => 0
  | (k, v) :: r => sz k + sz v + 4 + szk r
end
def piles (ts : List Str) : Nat := (ts.map fun t => t.length + 2).sum
theorem textFrom_up : ∀ (ts : List Str) (k : Nat) (acc : Str), (textFrom k acc ts).length ≤ acc.length + piles ts
  | [], _, acc => by
    show acc.length ≤ acc.length + 0
    omega
  | t :: r, k, acc => by
    have h := textFrom_up r (k + 1) (acc ++ (if k > 0 then ", " else "" : String) ++ t)
    have e : (acc ++ (if k > 0 then ", " else "" : String) ++ t).length ≤ acc.length + 2 + t.length := by
      rw [strLen_append, strLen_append]
      split
      · show acc.length + 2 + t.length ≤ _
        omega
      · show acc.length + 0 + t.length ≤ _
        omega
    have z : piles (t :: r) = (t.length + 2) + piles r := rfl
    show (textFrom (k + 1) _ r).length ≤ _
    omega
theorem list_up (ts : List Str) : (listText ts).length ≤ piles ts + 2 := by
  have h := textFrom_up ts 0 "["
  have e : (Str.ofString "[").length = 1 := by decide
  have e2 : (Str.ofString "]").length = 1 := by decide
  unfold listText
  rw [strLen_append]
  have z : (textFrom 0 "[" ts).length ≤ 1 + piles ts := by
    rw [← e]
    exact h
  omega
theorem tuple_up (ts : List Str) : (tupleText ts).length ≤ piles ts + 5 := by
  unfold tupleText
  rw [strLen_append, strLen_append]
  have e1 : (Str.ofString "(").length = 1 := by decide
  have e2 : (Str.ofString ((if ts.length == 1 then ",)" else ")" : String))).length ≤ 2 := by split <;> decide
  have e3 : (Str.join ", " ts).length ≤ piles ts := by
    cases ts with
    | nil => exact Nat.zero_le _
    | cons t r =>
      have z := join_length_add (t :: r) (by simp)
      have y : piled (t :: r) = piles (t :: r) := rfl
      omega
  rw [e1]
  omega
theorem dict_up (ts : List Str) : (dictText ts).length ≤ piles ts + 5 := by
  unfold dictText
  rw [strLen_append, strLen_append]
  have e1 : (Str.ofString "{").length = 1 := by decide
  have e2 : (Str.ofString "}").length = 1 := by decide
  have e3 : (Str.join ", " ts).length ≤ piles ts := by
    cases ts with
    | nil => exact Nat.zero_le _
    | cons t r =>
      have z := join_length_add (t :: r) (by simp)
      have y : piled (t :: r) = piles (t :: r) := rfl
      omega
  omega
mutual
theorem shown_up : ∀ d : PyData, d.showable = true → d.shown.length ≤ sz d
  | .none, _ => by
    show (Str.ofString "None").length ≤ 10
    decide
  | .bool b, _ => by
    cases b
    · show (Str.ofString "False").length ≤ 10
      decide
    · show (Str.ofString "True").length ≤ 10
      decide
  | .int i, h => by
    have z : i.natAbs.log2 < 1920 := by simpa [PyData.showable] using h
    have y := int_text_len_1921 z
    show (Str.ofString (toString i)).length ≤ 2000
    omega
  | .str x, _ => Nat.le_refl _
  | .list xs, h => by
    have q := shown_ups xs (by simpa [PyData.showable] using h)
    have z := list_up (PyData.shownAll xs)
    have e : (PyData.list xs).shown = listText (PyData.shownAll xs) := by simp only [PyData.shown]
    rw [e]
    show _ ≤ szs xs + 5
    omega
  | .tuple xs, h => by
    have q := shown_ups xs (by simpa [PyData.showable] using h)
    have z := tuple_up (PyData.shownAll xs)
    have e : (PyData.tuple xs).shown = tupleText (PyData.shownAll xs) := by simp only [PyData.shown]
    rw [e]
    show _ ≤ szs xs + 5
    omega
  | .dict kvs, h => by
    have q := shown_upk kvs (by simpa [PyData.showable] using h)
    have z := dict_up (PyData.shownKv kvs)
    have e : (PyData.dict kvs).shown = dictText (PyData.shownKv kvs) := by simp only [PyData.shown]
    rw [e]
    show _ ≤ szk kvs + 5
    omega
theorem shown_ups : ∀ ds : List PyData, PyData.showableAll ds = true → piles (PyData.shownAll ds) ≤ szs ds
  | [], _ => by
    simp only [PyData.shownAll]
    exact Nat.le_refl _
  | d :: ds, h => by
    have z : d.showable = true ∧ PyData.showableAll ds = true := by simpa [PyData.showableAll] using h
    have h1 := shown_up d z.1
    have h2 := shown_ups ds z.2
    simp only [PyData.shownAll]
    show d.shown.length + 2 + piles (PyData.shownAll ds) ≤ sz d + 2 + szs ds
    omega
theorem shown_upk : ∀ kvs : List (PyData × PyData), PyData.showableKv kvs = true → piles (PyData.shownKv kvs) ≤ szk kvs
  | [], _ => by
    simp only [PyData.shownKv]
    exact Nat.le_refl _
  | (k, v) :: r, h => by
    have z : (k.showable = true ∧ v.showable = true) ∧ PyData.showableKv r = true := by simpa [PyData.showableKv] using h
    have h1 := shown_up k z.1.1
    have h2 := shown_up v z.1.2
    have h3 := shown_upk r z.2
    simp only [PyData.shownKv]
    show (k.shown ++ ": " ++ v.shown).length + 2 + piles (PyData.shownKv r) ≤ sz k + sz v + 4 + szk r
    rw [strLen_append, strLen_append]
    have e : (Str.ofString ": ").length = 2 := by decide
    omega
end
structure Fine (d : PyData) : Prop where
  sh : d.showable = true
  dp : d.depth ≤ 100
  up : sz d ≤ 16000000
section
variable {X : Cx}
def rRepr (K : PySem.W.Frag) : List V → Hp → VK → Prop := fun xs H Q => ∃ v d, xs = [v] ∧ Da K H v d ∧ Fine d ∧ Q (.str d.shown) H
theorem call_reprA (sm : ∃ mm, X.base.Ns sysModules mm) (gu : X.A.guards = some []) (hu : X.A.units + 200 < cLine) : CallR X (.builtin "repr") (rRepr X.K) := by
  intro pins s σ H xs us Q I r h
  obtain ⟨v, d, rfl, hd, hf, q⟩ := h
  obtain ⟨u, rfl, ru⟩ := vals1 r
  have up : d.shown.length ≤ sizeLine := Nat.le_trans (shown_up d hf.sh) (Nat.le_trans hf.up (by decide))
  obtain ⟨as, rd, hn⟩ := Da.reads sm I d v u hd ru
  have dp := hf.dp
  have big : wpAny (model X.prog X.w) X.A (call (.builtin "repr") [u]) (EP X pins σ Q) X.xe s := by
    cases rd with
    | none => exact PySem.P.repr_of_none ⟨.str _, H, I.tok _, ⟨_, rfl⟩, q⟩
    | bool b => exact PySem.P.repr_of_bool ⟨.str _, H, I.tok _, ⟨_, rfl⟩, q⟩
    | int i t => exact PySem.P.repr_of_int (by simpa [PyData.showable] using hf.sh) ⟨.str _, H, I.tok _, ⟨_, rfl⟩, q⟩
    | str x t => exact PySem.P.repr_of_str ⟨.str _, H, I.tok _, ⟨_, rfl⟩, q⟩ up
    | list h1 h2 h3 h4 =>
      exact repr_of_reads' (.list h1 h2 h3 h4) hf.sh (fun _ => hn) gu (by omega) (fun b o e => e) (fun h2 u2 tk k => ⟨.str _, H, I.kept k, ⟨_, rfl⟩, q⟩) up
    | tuple h1 h2 h3 h4 =>
      exact repr_of_reads' (.tuple h1 h2 h3 h4) hf.sh (fun _ => hn) gu (by omega) (fun b o e => e) (fun h2 u2 tk k => ⟨.str _, H, I.kept k, ⟨_, rfl⟩, q⟩) up
    | dict h1 h2 h3 h4 h5 =>
      exact repr_of_reads' (.dict h1 h2 h3 h4 h5) hf.sh (fun _ => hn) gu (by omega) (fun b o e => e) (fun h2 u2 tk k => ⟨.str _, H, I.kept k, ⟨_, rfl⟩, q⟩) up
  exact big
def rEqA (K : PySem.W.Frag) : R2 := fun x y H Q => ∃ d e, Da K H x d ∧ Da K H y e ∧ SeqAt.shaped d = true ∧ SeqAt.shaped e = true ∧ Q (.bl (PyData.eqv d e)) H
def rNeA (K : PySem.W.Frag) : R2 := fun x y H Q => ∃ d e, Da K H x d ∧ Da K H y e ∧ SeqAt.shaped d = true ∧ SeqAt.shaped e = true ∧ Q (.bl (!PyData.eqv d e)) H
theorem op_neA (sm : ∃ mm, X.base.Ns sysModules mm) (hu : X.A.units + 64 < cLine) : OpR X (compareOp .NotEq) (rNeA X.K) := by
  intro pins s σ H x y v u Q I rx ry h
  obtain ⟨d, e, hd, he, sd, se, q⟩ := h
  obtain ⟨as, r1, _⟩ := Da.reads sm I d x v hd rx
  obtain ⟨bs, r2, _⟩ := Da.reads sm I e y u he ry
  exact SeqAt.compareNe_shaped r1 r2 sd se hu ⟨.bl _, H, I, rfl, q⟩
end
end TD

set_option maxHeartbeats 4000000
namespace TD
open PySem PySem.Spec PyProof.Rows L2
open Evl (Ex)
abbrev Fg := PySem.W.Frag

structure Le (B H B' H' : Hp) : Prop where
  ex : Ex H H'
  ek : Ex B B'
  sub : Ex B' H'
  old : ∀ a, B a = none → H a ≠ none → B' a = none
theorem Le.rfl' {B H : Hp} (s : Ex B H) : Le B H B H := ⟨Ex.refl H, Ex.refl B, s, fun _ h _ => h⟩
theorem Le.tr {B H B1 H1 B2 H2 : Hp} (a : Le B H B1 H1) (b : Le B1 H1 B2 H2) : Le B H B2 H2 :=
  ⟨a.ex.trans b.ex, a.ek.trans b.ek, b.sub, fun x h1 h2 => b.old x (a.old x h1 h2) (fun z => by
    cases q : H x with
    | none => exact h2 q
    | some o =>
      rw [a.ex x o q] at z
      cases z)⟩
theorem Le.new {B H : Hp} {p : Addr} {o : HO} (s : Ex B H) (h : H p = none) : Le B H (upd B p o) (upd H p o) where
  ex := Ex.new h
  ek := Ex.new (Evl.fresh_back s h)
  sub := fun a u e => by
    by_cases q : a = p
    · subst q
      rw [upd_same] at e ⊢
      exact e
    · rw [upd_ne q] at e ⊢
      exact s a u e
  old := fun a h1 h2 => by
    have q : a ≠ p := fun z => h2 (z ▸ h)
    rw [upd_ne q]
    exact h1

abbrev En := List (Option PyData)
def SD (K : Fg) (B : Hp) (σ : L2.St) (ρ : En) : Prop := σ.length = ρ.length ∧ ∀ (i : Nat) (d : PyData), ρ[i]? = some (some d) → ∃ v, σ[i]? = some (some v) ∧ Da K B v d
theorem SD.up {K : Fg} {B B' : Hp} {σ : L2.St} {ρ : En} (e : Ex B B') (s : SD K B σ ρ) : SD K B' σ ρ := ⟨s.1, fun i d h => let ⟨v, a, b⟩ := s.2 i d h; ⟨v, a, b.ex e⟩⟩
theorem SD.put {K : Fg} {B : Hp} {σ : L2.St} {ρ : En} {v : V} {d : PyData} (s : SD K B σ ρ) (i : Nat) (h : Da K B v d) : SD K B (σ.set i (some v)) (ρ.set i (some d)) := by
  refine ⟨by rw [List.length_set, List.length_set]; exact s.1, fun j e hj => ?_⟩
  by_cases q : i = j
  · subst q
    by_cases l : i < ρ.length
    · rw [List.getElem?_set_self l] at hj
      cases hj
      exact ⟨v, List.getElem?_set_self (by rw [s.1]; exact l), h⟩
    · rw [List.getElem?_eq_none (by rw [List.length_set]; omega)] at hj
      cases hj
  · rw [List.getElem?_set_ne q] at hj
    obtain ⟨u, a, b⟩ := s.2 j e hj
    exact ⟨u, by rw [List.getElem?_set_ne q]; exact a, b⟩
def wipeD (ρ : En) : List Nat → En
  | [] => ρ
  | v :: vs => (wipeD ρ vs).set v none
theorem SD.drop {K : Fg} {B : Hp} {σ : L2.St} {ρ : En} (s : SD K B σ ρ) (i : Nat) (o : Option V) : SD K B (σ.set i o) (ρ.set i none) := by
  refine ⟨by rw [List.length_set, List.length_set]; exact s.1, fun j e hj => ?_⟩
  by_cases q : i = j
  · subst q
    by_cases l : i < ρ.length
    · rw [List.getElem?_set_self l] at hj
      cases hj
    · rw [List.getElem?_eq_none (by rw [List.length_set]; omega)] at hj
      cases hj
  · rw [List.getElem?_set_ne q] at hj
    obtain ⟨u, a, b⟩ := s.2 j e hj
    exact ⟨u, by rw [List.getElem?_set_ne q]; exact a, b⟩
theorem SD.wipe {K : Fg} {B : Hp} {σ : L2.St} {ρ : En} (s : SD K B σ ρ) : ∀ vs : List Nat, SD K B (L2.wipe σ vs) (wipeD ρ vs)
  | [] => s
  | v :: vs => (s.wipe vs).drop v none
theorem SD.less {K : Fg} {B : Hp} {σ : L2.St} {ρ ρ' : En} (s : SD K B σ ρ) (hl : ρ'.length = ρ.length) (h : ∀ (i : Nat) (d : PyData), ρ'[i]? = some (some d) → ρ[i]? = some (some d)) : SD K B σ ρ' :=
  ⟨s.1.trans hl.symm, fun i d e => s.2 i d (h i d e)⟩

section
variable (K : Fg)
def ED (te : TE) (ρ : En) (d : PyData) : Prop := ∀ σ B H, Ex B H → SD K B σ ρ → ∀ Q : VK, (∀ v B' H', Le B H B' H' → Da K B' v d → Q v H') → te σ H Q
def EA (ta : TA) (ρ : En) (ds : List PyData) : Prop := ∀ σ B H, Ex B H → SD K B σ ρ → ∀ Q : List V → Hp → Prop, (∀ vs B' H', Le B H B' H' → Das K B' vs ds → Q vs H') → ta σ H Q
def ET (tt : TT) (ρ : En) (b : Bool) : Prop := ∀ σ B H, Ex B H → SD K B σ ρ → ∀ Q : Bool → Hp → Prop, (∀ B' H', Le B H B' H' → Q b H') → tt σ H Q
def R2D (r : R2) (x y z : PyData) : Prop := ∀ v w B H, Ex B H → Da K B v x → Da K B w y → ∀ Q : VK, (∀ u B' H', Le B H B' H' → Da K B' u z → Q u H') → r v w H Q
def R1D (r : V → Hp → VK → Prop) (x z : PyData) : Prop := ∀ v B H, Ex B H → Da K B v x → ∀ Q : VK, (∀ u B' H', Le B H B' H' → Da K B' u z → Q u H') → r v H Q
def RcD (r : List V → Hp → VK → Prop) (xs : List PyData) (z : PyData) : Prop := ∀ vs B H, Ex B H → Das K B vs xs → ∀ Q : VK, (∀ u B' H', Le B H B' H' → Da K B' u z → Q u H') → r vs H Q
inductive Out where
  | nx (ρ : En) | ret (d : PyData) | br (ρ : En) | ct (ρ : En)
def Meet (D : Ends) (B H : Hp) : Out → Prop
  | .nx ρ => ∀ σ' B' H', Le B H B' H' → SD K B' σ' ρ → D.nx σ' H'
  | .ret d => ∀ v B' H', Le B H B' H' → Da K B' v d → D.rt v H'
  | .br ρ => ∀ σ' B' H', Le B H B' H' → SD K B' σ' ρ → D.bk σ' H'
  | .ct ρ => ∀ σ' B' H', Le B H B' H' → SD K B' σ' ρ → D.ct σ' H'
def XS (t : TS) (ρ : En) (o : Out) : Prop := ∀ σ B H (D : Ends), Ex B H → SD K B σ ρ → Meet K D B H o → t D σ H
def TG_ (g : TG) (d : PyData) (ρ ρ' : En) : Prop := ∀ σ v B H, Ex B H → SD K B σ ρ → Da K B v d → ∀ Q : L2.St → Hp → Prop, (∀ σ' , SD K B σ' ρ' → Q σ' H) → g v σ H Q
def SpR (R : List PyData → PyData → Prop) : Sp := fun vs H Q _ => ∃ B ds d, Ex B H ∧ Das K B vs ds ∧ R ds d ∧ ∀ v B' H', Le B H B' H' → Da K B' v d → Q v H'
end
section
variable {K : Fg} {ρ ρ' ρ1 : En} {ta tb tc te : TE} {tt tu : TT} {t u : TS} {x y z d : PyData} {r : R2} {a b c : Bool} {o : Out} {g : TG}
theorem ed_var {i : Nat} (h : ρ[i]? = some (some d)) : ED K (tVar i) ρ d := fun σ B H s sd Q q =>
  let ⟨v, e, hd⟩ := sd.2 i d h
  ⟨v, e, q v B H (Le.rfl' s) hd⟩
theorem ed_int {i : Int} : ED K (tC (.int i)) ρ (.int i) := fun σ B H s _ Q q => q _ B H (Le.rfl' s) (.int i)
theorem ed_non : ED K (tC .non) ρ .none := fun σ B H s _ Q q => q _ B H (Le.rfl' s) .non
theorem ed_bl {i : Bool} : ED K (tC (.bl i)) ρ (.bool i) := fun σ B H s _ Q q => q _ B H (Le.rfl' s) (.bl i)
theorem ed_str {i : Str} : ED K (tC (.str i)) ρ (.str i) := fun σ B H s _ Q q => q _ B H (Le.rfl' s) (.str i)
theorem ed_op (ha : ED K ta ρ x) (hb : ED K tb ρ y) (hr : R2D K r x y z) : ED K (tOp r ta tb) ρ z := fun σ B H s sd Q q =>
  ha σ B H s sd _ fun v B1 H1 l1 d1 => hb σ B1 H1 l1.sub (sd.up l1.ek) _ fun w B2 H2 l2 d2 => hr v w B2 H2 l2.sub (d1.ex l2.ek) d2 Q fun u B3 H3 l3 d3 => q u B3 H3 ((l1.tr l2).tr l3) d3
theorem ed_un {r : V → Hp → VK → Prop} (ha : ED K ta ρ x) (hr : R1D K r x z) : ED K (tUn r ta) ρ z := fun σ B H s sd Q q =>
  ha σ B H s sd _ fun v B1 H1 l1 d1 => hr v B1 H1 l1.sub d1 Q fun u B3 H3 l3 d3 => q u B3 H3 (l1.tr l3) d3
theorem ed_is (h : ED K te ρ x) (e : x = y) : ED K te ρ y := e ▸ h
theorem et_is (h : ET K tt ρ a) (e : a = b) : ET K tt ρ b := e ▸ h
theorem ed_and (ha : ED K ta ρ (.bool a)) (hb : a = true → ED K tb ρ (.bool b)) : ED K (tAndV ta tb) ρ (.bool (a && b)) := fun σ B H s sd Q q =>
  ha σ B H s sd _ fun v B1 H1 l1 d1 => by
    cases d1
    refine ⟨a, rfl, ?_⟩
    cases a with
    | true =>
      show tb σ H1 Q
      exact hb rfl σ B1 H1 l1.sub (sd.up l1.ek) Q fun u B2 H2 l2 d2 => q u B2 H2 (l1.tr l2) d2
    | false =>
      show Q (.bl false) H1
      exact q _ B1 H1 l1 (.bl false)
theorem ed_not (ha : ED K ta ρ (.bool a)) : ED K (tNotV ta) ρ (.bool (!a)) := fun σ B H s sd Q q =>
  ha σ B H s sd _ fun v B1 H1 l1 d1 => by
    cases d1
    exact ⟨a, rfl, q _ B1 H1 l1 (.bl _)⟩
theorem et_test (h : ED K te ρ (.bool b)) : ET K (tTest te) ρ b := fun σ B H s sd Q q => h σ B H s sd _ fun v B1 H1 l1 d1 => by
  cases d1
  exact ⟨b, rfl, q B1 H1 l1⟩
theorem et_B (h : ED K te ρ (.bool b)) : ET K (tB te) ρ b := fun σ B H s sd Q q => h σ B H s sd _ fun v B1 H1 l1 d1 => by
  cases d1
  exact ⟨b, rfl, q B1 H1 l1⟩
theorem et_or (h1 : ET K tt ρ a) (h2 : a = false → ET K tu ρ b) : ET K (tOr tt tu) ρ (a || b) := fun σ B H s sd Q q => h1 σ B H s sd _ fun B1 H1 l1 => by
  cases a with
  | false =>
    show tu σ H1 Q
    exact h2 rfl σ B1 H1 l1.sub (sd.up l1.ek) Q fun B2 H2 l2 => q B2 H2 (l1.tr l2)
  | true =>
    show Q true H1
    exact q B1 H1 l1
theorem et_not (h : ET K tt ρ a) : ET K (tNot tt) ρ (!a) := fun σ B H s sd Q q => h σ B H s sd _ fun B1 H1 l1 => q B1 H1 l1
theorem ea_nil : EA K tNil ρ [] := fun σ B H s sd Q q => q [] B H (Le.rfl' s) .nil
theorem ea_cons {tr : TA} {ds : List PyData} (h : ED K ta ρ x) (hr : EA K tr ρ ds) : EA K (tCons ta tr) ρ (x :: ds) := fun σ B H s sd Q q =>
  h σ B H s sd _ fun v B1 H1 l1 d1 => hr σ B1 H1 l1.sub (sd.up l1.ek) _ fun vs B2 H2 l2 d2 => q (v :: vs) B2 H2 (l1.tr l2) (.cons (d1.ex l2.ek) d2)
theorem das_big {B : Hp} {vs : List V} {ds : List PyData} (h : Das K B vs ds) (hl : ds.length ≤ 100000) : vs.length ≤ sizeLine := by
  rw [h.len]
  exact Evl.sz_of hl
theorem ed_tup {tl : TA} {ds : List PyData} (h : EA K tl ρ ds) (hl : ds.length ≤ 100000 := by first | decide | omega) : ED K (tTup tl) ρ (.tuple ds) := fun σ B H s sd Q q =>
  h σ B H s sd _ fun vs B1 H1 l1 d1 => ⟨das_big d1 hl, fun p hp => q _ _ _ (l1.tr (Le.new l1.sub hp)) (.tup upd_same (d1.ex (Le.new (o := .tup vs) l1.sub hp).ek))⟩
theorem ed_lst {tl : TA} {ds : List PyData} (h : EA K tl ρ ds) (hl : ds.length ≤ 100000 := by first | decide | omega) : ED K (tLst tl) ρ (.list ds) := fun σ B H s sd Q q =>
  h σ B H s sd _ fun vs B1 H1 l1 d1 => ⟨das_big d1 hl, fun p hp => q _ _ _ (l1.tr (Le.new l1.sub hp)) (.lst upd_same (d1.ex (Le.new (o := .lst vs) l1.sub hp).ek))⟩
theorem ed_cb {rc : List V → Hp → VK → Prop} {tl : TA} {ds : List PyData} (h : EA K tl ρ ds) (hr : RcD K rc ds z) : ED K (tCB rc tl) ρ z := fun σ B H s sd Q q =>
  h σ B H s sd _ fun vs B1 H1 l1 d1 => hr vs B1 H1 l1.sub d1 Q fun u B2 H2 l2 d2 => q u B2 H2 (l1.tr l2) d2
theorem ed_call {R : List PyData → PyData → Prop} {E : XK} {tl : TA} {ds : List PyData} (h : EA K tl ρ ds) (hR : R ds z) : ED K (tCall (SpR K R) [] E tl) ρ z := fun σ B H s sd Q q =>
  h σ B H s sd _ fun vs B1 H1 l1 d1 => by
    show SpR K R (vs ++ []) H1 Q E
    rw [List.append_nil]
    exact ⟨B1, ds, z, l1.sub, d1, hR, fun u B2 H2 l2 d2 => q u B2 H2 (l1.tr l2) d2⟩
theorem Meet.back {D : Ends} {B H B1 H1 : Hp} (l : Le B H B1 H1) : ∀ {o : Out}, Meet K D B H o → Meet K D B1 H1 o
  | .nx _, m => fun σ' B' H' l' s => m σ' B' H' (l.tr l') s
  | .ret _, m => fun v B' H' l' s => m v B' H' (l.tr l') s
  | .br _, m => fun σ' B' H' l' s => m σ' B' H' (l.tr l') s
  | .ct _, m => fun σ' B' H' l' s => m σ' B' H' (l.tr l') s
theorem xs_next : XS K tNext ρ (.nx ρ) := fun σ B H D s sd m => m σ B H (Le.rfl' s) sd
theorem xs_ret (h : ED K te ρ d) : XS K (tRet te) ρ (.ret d) := fun σ B H D s sd m => h σ B H s sd _ m
theorem xs_asgG (h : ED K te ρ d) (hg : TG_ K g d ρ ρ') : XS K (tAsg te g) ρ (.nx ρ') := fun σ B H D s sd m =>
  h σ B H s sd _ fun v B1 H1 l1 d1 => hg σ v B1 H1 l1.sub (sd.up l1.ek) d1 _ fun σ' s' => m σ' B1 H1 l1 s'
theorem tg_name {i : Nat} : TG_ K (gName i) d ρ (ρ.set i (some d)) := fun σ v B H s sd hd Q q => q _ (sd.put i hd)
theorem xs_asg {i : Nat} (h : ED K te ρ d) : XS K (tAsg te (gName i)) ρ (.nx (ρ.set i (some d))) := xs_asgG h tg_name
theorem xs_if (h : ET K tt ρ b) (h1 : b = true → XS K t ρ o) (h2 : b = false → XS K u ρ o) : XS K (tIfS tt t u) ρ o := fun σ B H D s sd m =>
  h σ B H s sd _ fun B1 H1 l1 => by
    cases b with
    | true =>
      show t D σ H1
      exact h1 rfl σ B1 H1 D l1.sub (sd.up l1.ek) (m.back l1)
    | false =>
      show u D σ H1
      exact h2 rfl σ B1 H1 D l1.sub (sd.up l1.ek) (m.back l1)
theorem xs_seq (h1 : XS K t ρ (.nx ρ1)) (h2 : XS K u ρ1 o) : XS K (tSeq t u) ρ o := fun σ B H D s sd m =>
  h1 σ B H _ s sd fun σ' B' H' l s' => h2 σ' B' H' D l.sub s' (m.back l)
def Out.leaves : Out → Prop
  | .nx _ => False
  | _ => True
theorem xs_leave (h1 : XS K t ρ o) (hl : o.leaves) : XS K (tSeq t u) ρ o := fun σ B H D s sd m => by
  refine h1 σ B H _ s sd ?_
  cases o with
  | nx _ => exact hl.elim
  | ret _ => exact m
  | br _ => exact m
  | ct _ => exact m
theorem xs_is {o' : Out} (h : XS K t ρ o) (e : o = o') : XS K t ρ o' := e ▸ h
inductive XF (K : Fg) (g : TG) (tb : TS) : List PyData → En → Out → Prop
  | nil {ρ : En} : XF K g tb [] ρ (.nx ρ)
  | go {d : PyData} {ds : List PyData} {ρ ρ0 ρ1 : En} {o : Out} : TG_ K g d ρ ρ0 → XS K tb ρ0 (.nx ρ1) → XF K g tb ds ρ1 o → XF K g tb (d :: ds) ρ o
  | goC {d : PyData} {ds : List PyData} {ρ ρ0 ρ1 : En} {o : Out} : TG_ K g d ρ ρ0 → XS K tb ρ0 (.ct ρ1) → XF K g tb ds ρ1 o → XF K g tb (d :: ds) ρ o
  | ret {d e : PyData} {ds : List PyData} {ρ ρ0 : En} : TG_ K g d ρ ρ0 → XS K tb ρ0 (.ret e) → XF K g tb (d :: ds) ρ (.ret e)
  | brk {d : PyData} {ds : List PyData} {ρ ρ0 ρ1 : En} : TG_ K g d ρ ρ0 → XS K tb ρ0 (.br ρ1) → XF K g tb (d :: ds) ρ (.nx ρ1)
theorem xf_turn {tb : TS} {D : Ends} {B H : Hp} (m : Meet K D B H o) {dx : PyData} {ds : List PyData} {ρ : En} (f : XF K g tb (dx :: ds) ρ o) {σ' : L2.St} {B' H' : Hp} {v : V} (l : Le B H B' H') (sd : SD K B' σ' ρ) (hd : Da K B' v dx)
    {N : L2.St → Hp → Prop} (hN : ∀ ρ1 σ1 B1 H1, XF K g tb ds ρ1 o → Le B H B1 H1 → SD K B1 σ1 ρ1 → N σ1 H1) :
    g v σ' H' fun σ2 H2 => tb { D with nx := N, ct := N, bk := D.nx } σ2 H2 := by
  cases f with
  | go hg hx hr => exact hg σ' v B' H' l.sub sd hd _ fun σ2 s2 => hx σ2 B' H' _ l.sub s2 fun σ3 B3 H3 l3 s3 => hN _ σ3 B3 H3 hr (l.tr l3) s3
  | goC hg hx hr => exact hg σ' v B' H' l.sub sd hd _ fun σ2 s2 => hx σ2 B' H' _ l.sub s2 fun σ3 B3 H3 l3 s3 => hN _ σ3 B3 H3 hr (l.tr l3) s3
  | ret hg hx => exact hg σ' v B' H' l.sub sd hd _ fun σ2 s2 => hx σ2 B' H' _ l.sub s2 fun v3 B3 H3 l3 d3 => m v3 B3 H3 (l.tr l3) d3
  | brk hg hx => exact hg σ' v B' H' l.sub sd hd _ fun σ2 s2 => hx σ2 B' H' _ l.sub s2 fun σ3 B3 H3 l3 s3 => m σ3 B3 H3 (l.tr l3) s3
theorem drop_cons {α : Type} {ds : List α} {i : Nat} {e : α} (h : ds[i]? = some e) : ds.drop i = e :: ds.drop (i + 1) := by
  obtain ⟨hi, e1⟩ := List.getElem?_eq_some_iff.mp h
  rw [List.drop_eq_getElem_cons hi, e1]
theorem drop_all {α : Type} {ds : List α} {i : Nat} (h : ds.length ≤ i) : ds.drop i = [] := List.drop_of_length_le h
theorem xs_forL {tl : TE} {tb : TS} {ds : List PyData} (h : ED K tl ρ (.list ds)) (f : XF K g tb ds ρ o) : XS K (tFor (iList K tl) g tb) ρ o := fun σ B H D s sd m =>
  h σ B H s sd _ fun v B1 H1 l1 d1 => by
    cases d1 with
    | @lst p xs _ hs ha =>
      have hs' : SqL K H1 p xs := Evl.sq_of (l1.sub _ _ hs)
      refine ⟨p, rfl, ⟨xs, hs'⟩, ?_⟩
      refine for_list (K := K) (a := p) (xs := xs) (fun i σ' H' => ∃ B' ρ', XF K g tb (ds.drop i) ρ' o ∧ Le B1 H1 B' H' ∧ SD K B' σ' ρ') ⟨B1, ρ, by rw [List.drop_zero]; exact f, Le.rfl' l1.sub, sd.up l1.ek⟩
        (fun i σ' H' _ ⟨B', _, _, l, _⟩ => Evl.ex_l l.ex hs') (fun i v σ' H' hi ⟨B', ρ', f', l, s'⟩ => ?_) (fun σ' H' ⟨B', ρ', f', l, s'⟩ => ?_)
      · obtain ⟨e, he, hv⟩ := ha.get hi
        rw [drop_cons he] at f'
        exact xf_turn (m.back l1) f' l s' (hv.ex l.ek) fun ρ2 σ2 B2 H2 f2 l2 s2 => ⟨B2, ρ2, f2, l2, s2⟩
      · rw [drop_all (by rw [ha.len]; omega)] at f'
        cases f' with
        | nil => exact m σ' B' H' (l1.tr l) s'
def rgD (lo : Int) (n : Nat) : List PyData := (List.range n).map fun (i : Nat) => PyData.int (lo + (i : Int))
theorem rgD_get {lo : Int} {n i : Nat} (h : i < n) : (rgD lo n)[i]? = some (.int (lo + (i : Int))) := by
  unfold rgD
  rw [List.getElem?_map, List.getElem?_range h]
  rfl
theorem rgD_len (lo : Int) (n : Nat) : (rgD lo n).length = n := by
  unfold rgD
  rw [List.length_map, List.length_range]
end
end TD

set_option maxHeartbeats 4000000
namespace TD
open PySem PySem.Spec PyProof.Rows L2
open Evl (Ex)
section
variable {K : Fg} {ρ ρ' : En} {ta tb tc te : TE} {tt : TT} {x y z d : PyData} {a b c : Bool} {i j k : Int}
theorem r_I0 {g : Int → Int → V} {gd : PyData} (h : ∀ B, Da K B (g i j) gd) : R2D K (rI0 g) (.int i) (.int j) gd := fun v w B H s h1 h2 Q q => by
  cases h1
  cases h2
  exact ⟨i, j, rfl, rfl, q _ B H (Le.rfl' s) (h B)⟩
theorem r_Ii {g : Int → Int → Int} : R2D K (rI0 fun i j => .int (g i j)) (.int i) (.int j) (.int (g i j)) := r_I0 fun _ => .int _
theorem r_Ib {g : Int → Int → Bool} : R2D K (rI0 fun i j => .bl (g i j)) (.int i) (.int j) (.bool (g i j)) := r_I0 fun _ => .bl _
theorem r_IC {C : Int → Int → Prop} {g : Int → Int → Int} (h : C i j) : R2D K (rI C fun i j => .int (g i j)) (.int i) (.int j) (.int (g i j)) := fun v w B H s h1 h2 Q q => by
  cases h1
  cases h2
  exact ⟨i, j, rfl, rfl, h, q _ B H (Le.rfl' s) (.int _)⟩
theorem r_eqI : R2D K rEq (.int i) (.int j) (.bool (decide (i = j))) := fun v w B H s h1 h2 Q q => by
  cases h1
  cases h2
  have e : decide (V.int i = V.int j) = decide (i = j) := by
    rw [dec_int]
    exact (Bool.beq_eq_decide_eq i j)
  exact ⟨rfl, by rw [e]; exact q _ B H (Le.rfl' s) (.bl _)⟩
theorem r_eqB : R2D K rEq (.bool a) (.bool b) (.bool (a == b)) := fun v w B H s h1 h2 Q q => by
  cases h1
  cases h2
  exact ⟨rfl, by rw [dec_bl]; exact q _ B H (Le.rfl' s) (.bl _)⟩
theorem r_eqS {u w' : Str} : R2D K rEq (.str u) (.str w') (.bool (decide (u = w'))) := fun v w B H s h1 h2 Q q => by
  cases h1
  cases h2
  have e : decide (V.str u = V.str w') = decide (u = w') := by
    by_cases h : u = w'
    · rw [h]
      simp
    · rw [decide_eq_false h, decide_eq_false (fun z => h (V.str.inj z))]
  exact ⟨rfl, by rw [e]; exact q _ B H (Le.rfl' s) (.bl _)⟩
theorem r_neA (h1 : SeqAt.shaped x = true) (h2 : SeqAt.shaped y = true) : R2D K (rNeA K) x y (.bool (!PyData.eqv x y)) := fun v w B H s dx dy Q q =>
  ⟨x, y, dx.ex s, dy.ex s, h1, h2, q _ B H (Le.rfl' s) (.bl _)⟩
theorem r1_neg : R1D K (rU fun i => .int (-i)) (.int i) (.int (-i)) := fun v B H s h Q q => by
  cases h
  exact ⟨i, rfl, q _ B H (Le.rfl' s) (.int _)⟩
theorem ed_neg1 : ED K (tUn (rU fun i => .int (-i)) (tC (.int 1))) ρ (.int (-1)) := ed_un ed_int r1_neg
theorem ed_chain {r r' : R2} (ha : ED K ta ρ x) (hb : ED K tb ρ y) (hr : R2D K r x y (.bool a)) (hc : a = true → ED K tc ρ z) (hr' : a = true → R2D K r' y z (.bool b)) : ED K (tChain r r' ta tb tc) ρ (.bool (a && b)) := fun σ B H s sd Q q =>
  ha σ B H s sd _ fun v B1 H1 l1 d1 => hb σ B1 H1 l1.sub (sd.up l1.ek) _ fun w B2 H2 l2 d2 => hr v w B2 H2 l2.sub (d1.ex l2.ek) d2 _ fun u B3 H3 l3 d3 => by
    cases d3
    refine ⟨a, rfl, ?_⟩
    cases a with
    | true =>
      show tc σ H3 _
      refine hc rfl σ B3 H3 l3.sub (sd.up ((l1.tr l2).tr l3).ek) _ fun u B4 H4 l4 d4 => ?_
      exact hr' rfl w u B4 H4 l4.sub (d2.ex (l3.tr l4).ek) d4 Q fun u B5 H5 l5 d5 => q u B5 H5 ((((l1.tr l2).tr l3).tr l4).tr l5) d5
    | false =>
      show Q (.bl false) H3
      exact q _ B3 H3 ((l1.tr l2).tr l3) (.bl false)
def isT (T : String) : PyData → Bool
  | .none => T == "NoneType"
  | .bool _ => T == "bool" || T == "int"
  | .int _ => T == "int"
  | .str _ => T == "str"
  | .list _ => T == "list"
  | .tuple _ => T == "tuple"
  | .dict _ => T == "dict"
def tyName : PyData → String
  | .none => "NoneType"
  | .bool _ => "bool"
  | .int _ => "int"
  | .str _ => "str"
  | .list _ => "list"
  | .tuple _ => "tuple"
  | .dict _ => "dict"
theorem da_ty {B : Hp} {v : V} (h : Da K B v d) : TyX K B v (.type (tyName d)) := by
  cases h with
  | non => exact .base .non
  | bl b => exact .base (.bl b)
  | int i => exact .base (.int i)
  | str x => exact .base (.str x)
  | lst h _ => exact .base (.lst h)
  | tup h _ => exact .base (.tup h)
  | dic h _ => exact .base (.dK h)
theorem kit_int : ∀ d : PyData, PySem.W.kitOne K (.type (tyName d)) (.type "int") = some (isT "int" d)
  | .none => (kit_ty (a := "NoneType") (b := "int") (r := false) (by decide +kernel))
  | .bool _ => (kit_ty (a := "bool") (b := "int") (r := true) (by decide +kernel))
  | .int _ => (kit_ty (a := "int") (b := "int") (r := true) (by decide +kernel))
  | .str _ => (kit_ty (a := "str") (b := "int") (r := false) (by decide +kernel))
  | .list _ => (kit_ty (a := "list") (b := "int") (r := false) (by decide +kernel))
  | .tuple _ => (kit_ty (a := "tuple") (b := "int") (r := false) (by decide +kernel))
  | .dict _ => (kit_ty (a := "dict") (b := "int") (r := false) (by decide +kernel))
theorem kit_bool : ∀ d : PyData, PySem.W.kitOne K (.type (tyName d)) (.type "bool") = some (isT "bool" d)
  | .none => (kit_ty (a := "NoneType") (b := "bool") (r := false) (by decide +kernel))
  | .bool _ => (kit_ty (a := "bool") (b := "bool") (r := true) (by decide +kernel))
  | .int _ => (kit_ty (a := "int") (b := "bool") (r := false) (by decide +kernel))
  | .str _ => (kit_ty (a := "str") (b := "bool") (r := false) (by decide +kernel))
  | .list _ => (kit_ty (a := "list") (b := "bool") (r := false) (by decide +kernel))
  | .tuple _ => (kit_ty (a := "tuple") (b := "bool") (r := false) (by decide +kernel))
  | .dict _ => (kit_ty (a := "dict") (b := "bool") (r := false) (by decide +kernel))
theorem kit_list : ∀ d : PyData, PySem.W.kitOne K (.type (tyName d)) (.type "list") = some (isT "list" d)
  | .none => (kit_ty (a := "NoneType") (b := "list") (r := false) (by decide +kernel))
  | .bool _ => (kit_ty (a := "bool") (b := "list") (r := false) (by decide +kernel))
  | .int _ => (kit_ty (a := "int") (b := "list") (r := false) (by decide +kernel))
  | .str _ => (kit_ty (a := "str") (b := "list") (r := false) (by decide +kernel))
  | .list _ => (kit_ty (a := "list") (b := "list") (r := true) (by decide +kernel))
  | .tuple _ => (kit_ty (a := "tuple") (b := "list") (r := false) (by decide +kernel))
  | .dict _ => (kit_ty (a := "dict") (b := "list") (r := false) (by decide +kernel))
theorem kit_tuple : ∀ d : PyData, PySem.W.kitOne K (.type (tyName d)) (.type "tuple") = some (isT "tuple" d)
  | .none => (kit_ty (a := "NoneType") (b := "tuple") (r := false) (by decide +kernel))
  | .bool _ => (kit_ty (a := "bool") (b := "tuple") (r := false) (by decide +kernel))
  | .int _ => (kit_ty (a := "int") (b := "tuple") (r := false) (by decide +kernel))
  | .str _ => (kit_ty (a := "str") (b := "tuple") (r := false) (by decide +kernel))
  | .list _ => (kit_ty (a := "list") (b := "tuple") (r := false) (by decide +kernel))
  | .tuple _ => (kit_ty (a := "tuple") (b := "tuple") (r := true) (by decide +kernel))
  | .dict _ => (kit_ty (a := "dict") (b := "tuple") (r := false) (by decide +kernel))
theorem kit_str : ∀ d : PyData, PySem.W.kitOne K (.type (tyName d)) (.type "str") = some (isT "str" d)
  | .none => (kit_ty (a := "NoneType") (b := "str") (r := false) (by decide +kernel))
  | .bool _ => (kit_ty (a := "bool") (b := "str") (r := false) (by decide +kernel))
  | .int _ => (kit_ty (a := "int") (b := "str") (r := false) (by decide +kernel))
  | .str _ => (kit_ty (a := "str") (b := "str") (r := true) (by decide +kernel))
  | .list _ => (kit_ty (a := "list") (b := "str") (r := false) (by decide +kernel))
  | .tuple _ => (kit_ty (a := "tuple") (b := "str") (r := false) (by decide +kernel))
  | .dict _ => (kit_ty (a := "dict") (b := "str") (r := false) (by decide +kernel))
theorem kitT {T : String} (hT : T = "int" ∨ T = "bool" ∨ T = "list" ∨ T = "tuple" ∨ T = "str") : PySem.W.kitOne K (.type (tyName d)) (.type T) = some (isT T d) := by
  rcases hT with rfl | rfl | rfl | rfl | rfl
  · exact kit_int d
  · exact kit_bool d
  · exact kit_list d
  · exact kit_tuple d
  · exact kit_str d
theorem ed_isi {T : String} (h : ED K te ρ d) (hT : T = "int" ∨ T = "bool" ∨ T = "list" ∨ T = "tuple" ∨ T = "str" := by simp) : ED K (tCB (rIsi K) (tCons te (tCons (tC (.ty T)) tNil))) ρ (.bool (isT T d)) := fun σ B H s sd Q q =>
  h σ B H s sd _ fun v B1 H1 l1 d1 => ⟨v, .ty T, _, _, isT T d, rfl, .ty T, da_ty (d1.ex l1.sub), kitT hT, q _ B1 H1 l1 (.bl _)⟩
def rLen (K : Fg) : List V → Hp → VK → Prop := fun xs H Q => ∃ p ys, xs = [.ref p] ∧ (SqL K H p ys ∨ SqT K H p ys) ∧ Q (.int ys.length) H
theorem rc_lenL {ds : List PyData} : RcD K (rLen K) [.list ds] (.int ds.length) := fun vs B H s h Q q => by
  cases h with
  | cons h1 h2 =>
    cases h2
    cases h1 with
    | lst ha hs => exact ⟨_, _, rfl, .inl (SqL.of (s _ _ ha)), by rw [hs.len]; exact q _ B H (Le.rfl' s) (.int _)⟩
theorem rc_lenT {ds : List PyData} : RcD K (rLen K) [.tuple ds] (.int ds.length) := fun vs B H s h Q q => by
  cases h with
  | cons h1 h2 =>
    cases h2
    cases h1 with
    | tup ha hs => exact ⟨_, _, rfl, .inr (SqT.of (s _ _ ha)), by rw [hs.len]; exact q _ B H (Le.rfl' s) (.int _)⟩
theorem r_ixL {ds : List PyData} {i : Nat} (h : ds[i]? = some z) : R2D K (rIxL K) (.list ds) (.int (i : Int)) z := fun v w B H s h1 h2 Q q => by
  cases h2
  cases h1 with
  | lst ha hs =>
    obtain ⟨u, hu, hd⟩ := hs.getD h
    exact ⟨_, _, _, u, rfl, rfl, SqL.of (s _ _ ha), atI_nat hu, q _ B H (Le.rfl' s) hd⟩
theorem r_ixT {ds : List PyData} {i : Nat} (h : ds[i]? = some z) : R2D K (rIxT K) (.tuple ds) (.int (i : Int)) z := fun v w B H s h1 h2 Q q => by
  cases h2
  cases h1 with
  | tup ha hs =>
    obtain ⟨u, hu, hd⟩ := hs.getD h
    exact ⟨_, _, _, u, rfl, rfl, SqT.of (s _ _ ha), atI_nat hu, q _ B H (Le.rfl' s) hd⟩
theorem r_cat {ds es : List PyData} (h : ds.length + es.length ≤ 100000) : R2D K rCat (.list ds) (.list es) (.list (ds ++ es)) := fun v w B H s h1 h2 Q q => by
  cases h1 with
  | @lst p1 xs1 _ ha hs =>
    cases h2 with
    | @lst p2 xs2 _ hb ht =>
      refine ⟨p1, p2, xs1, xs2, rfl, rfl, s _ _ ha, s _ _ hb, by rw [hs.len, ht.len]; exact Evl.sz_of h, fun p hp => ?_⟩
      have l := Le.new (o := .lst (xs1 ++ xs2)) s hp
      exact q _ _ _ l (.lst upd_same ((hs.app ht).ex l.ek))
theorem bools_of {B : Hp} : ∀ {vs : List V} {bs : List Bool}, Das K B vs (bs.map PyData.bool) → vs = bs.map V.bl
  | [], [], _ => rfl
  | v :: vs, b :: bs, .cons h t => by
    cases h
    rw [bools_of t]
    rfl
theorem rc_all {bs : List Bool} : RcD K (rAll K) [.list (bs.map PyData.bool)] (.bool (bs.all id)) := fun vs B H s h Q q => by
  cases h with
  | cons h1 h2 =>
    cases h2
    cases h1 with
    | lst ha hs =>
      rw [bools_of hs] at ha
      exact ⟨_, bs, rfl, SqL.of (s _ _ ha), q _ B H (Le.rfl' s) (.bl _)⟩
def flatD : PyData → Bool
  | .none => true
  | .bool _ => true
  | .int _ => true
  | .str _ => true
  | _ => false
theorem flat_of {B : Hp} {v : V} (h : Da K B v d) (hf : flatD d = true) : flatV v = true := by
  cases h <;> first | rfl | (cases hf)
theorem flats_of {B : Hp} : ∀ {vs : List V} {ds : List PyData}, Das K B vs ds → ds.all flatD = true → vs.all flatV = true
  | _, _, .nil, _ => rfl
  | _, _, .cons h t, e => by
    rw [List.all_cons, Bool.and_eq_true] at e ⊢
    exact ⟨flat_of h e.1, flats_of t e.2⟩
theorem eqV_of {B : Hp} {v w : V} (h : Da K B v x) (h' : Da K B w y) (hf : flatD x = true) (hf' : flatD y = true) : eqV v w = PyData.eqv x y := by
  cases h with
  | lst _ _ => cases hf
  | tup _ _ => cases hf
  | dic _ _ => cases hf
  | non => cases h' with
    | lst _ _ => cases hf'
    | tup _ _ => cases hf'
    | dic _ _ => cases hf'
    | _ => simp [eqV, PyData.eqv]
  | bl b => cases h' with
    | lst _ _ => cases hf'
    | tup _ _ => cases hf'
    | dic _ _ => cases hf'
    | _ => simp [eqV, PyData.eqv]
  | int b => cases h' with
    | lst _ _ => cases hf'
    | tup _ _ => cases hf'
    | dic _ _ => cases hf'
    | _ => simp [eqV, PyData.eqv]
  | str b => cases h' with
    | lst _ _ => cases hf'
    | tup _ _ => cases hf'
    | dic _ _ => cases hf'
    | _ => simp [eqV, PyData.eqv]
theorem inV_of {B : Hp} {v : V} (h : Da K B v x) (hf : flatD x = true) : ∀ {vs : List V} {ds : List PyData}, Das K B vs ds → ds.all flatD = true → inV v vs = ds.any fun e => PyData.eqv e x
  | _, _, .nil, _ => rfl
  | _, _, .cons a t, e => by
    rw [List.all_cons, Bool.and_eq_true] at e
    have ih := inV_of h hf t e.2
    unfold inV at ih ⊢
    rw [List.any_cons, List.any_cons, ih, eqV_of a h e.1 hf]
theorem r_ni {ds : List PyData} (hf : flatD x = true) (ha : ds.all flatD = true) : R2D K (rIn K true) x (.list ds) (.bool (!ds.any fun e => PyData.eqv e x)) := fun v w B H s h1 h2 Q q => by
  cases h2 with
  | lst hb hs =>
    refine ⟨_, _, rfl, .inl (SqL.of (s _ _ hb)), flat_of h1 hf, flats_of hs ha, ?_⟩
    show Q (.bl (!inV v _)) H
    rw [inV_of h1 hf hs ha]
    exact q _ B H (Le.rfl' s) (.bl _)
end
section
variable {K : Fg} {ρ : En} {te : TE} {tt : TT}
def picked (ds : List PyData) (f : PyData → Bool) (g : PyData → PyData) : List PyData := (ds.filter f).map g
theorem picked_len (ds : List PyData) (f : PyData → Bool) (g : PyData → PyData) : (picked ds f g).length ≤ ds.length := by
  unfold picked
  rw [List.length_map]
  exact List.length_filter_le f ds
theorem picked_more {ds : List PyData} {f : PyData → Bool} {g : PyData → PyData} {i : Nat} {e : PyData} (h : ds[i]? = some e) :
    picked (ds.take (i + 1)) f g = picked (ds.take i) f g ++ (if f e = true then [g e] else []) := by
  unfold picked
  rw [List.take_add_one, h]
  show List.map g (List.filter f (ds.take i ++ [e])) = _
  rw [List.filter_append, List.map_append]
  congr 1
  rw [List.filter_cons]
  split <;> rfl
def Cz (K : Fg) (B H : Hp) (D : Addr) (out : List PyData) (H' : Hp) : Prop := ∃ B' acc, Le B H B' H' ∧ B' D = none ∧ H' D = some (.lst acc) ∧ Das K B' acc out
theorem cz_start {B H : Hp} {D : Addr} (s : Ex B H) (hD : H D = none) : Cz K B H D [] (upd H D (.lst [])) :=
  ⟨B, [], ⟨Ex.new hD, Ex.refl B, s.trans (Ex.new hD), fun _ h _ => h⟩, Evl.fresh_back s hD, upd_same, .nil⟩
theorem cz_end {B H H' : Hp} {D : Addr} {out : List PyData} (hD : H D = none) (c : Cz K B H D out H') : ∃ B', Le B H B' H' ∧ Da K B' (.ref D) (.list out) := by
  obtain ⟨B', acc, l, n, e, h⟩ := c
  have k : Ex B' (upd B' D (.lst acc)) := fun a o q => by
    rw [upd_ne (ne_of_none q n)]
    exact q
  refine ⟨upd B' D (.lst acc), ⟨l.ex, l.ek.trans k, fun a o q => ?_, fun a h1 h2 => ?_⟩, .lst upd_same (h.ex k)⟩
  · by_cases z : a = D
    · subst z
      rw [upd_same] at q
      cases q
      exact e
    · rw [upd_ne z] at q
      exact l.sub a o q
  · rw [upd_ne (fun z => h2 (by rw [z]; exact hD))]
    exact l.old a h1 h2
theorem cz_turn {B H : Hp} {D : Addr} {out : List PyData} {H' : Hp} {σ' : L2.St} {ρ' : En} {b : Bool} {y : PyData} (hD : H D = none) (c : Cz K B H D out H') (sd : SD K B σ' ρ') (hl : out.length ≤ 50000) (ht : ET K tt ρ' b) (he : b = true → ED K te ρ' y) {P : Hp → Prop}
    (h1 : b = true → ∀ H2, Cz K B H D (out ++ [y]) H2 → P H2) (h0 : b = false → ∀ H2, Cz K B H D out H2 → P H2) :
    tt σ' H' fun b2 H3 => if b2 = true then te σ' H3 fun v H4 => ∃ acc, H4 D = some (.lst acc) ∧ acc.length < sizeLine ∧ P (upd H4 D (.lst (acc ++ [v]))) else P H3 := by
  obtain ⟨B', acc, l, n, e, h⟩ := c
  refine ht σ' B' H' l.sub (sd.up l.ek) _ fun B3 H3 l3 => ?_
  have n3 : B3 D = none := l3.old D n (fun z => by rw [e] at z; cases z)
  cases b with
  | false => exact h0 rfl H3 ⟨B3, acc, l.tr l3, n3, l3.ex D _ e, h.ex l3.ek⟩
  | true =>
    show te σ' H3 _
    refine he rfl σ' B3 H3 l3.sub (sd.up (l.tr l3).ek) _ fun v B4 H4 l4 d4 => ?_
    have e3 := l3.ex D _ e
    have n4 : B4 D = none := l4.old D n3 (fun z => by rw [e3] at z; cases z)
    refine ⟨acc, l4.ex D _ e3, Evl.sz_lt (by rw [h.len]; omega), h1 rfl _ ⟨B4, acc ++ [v], ⟨fun a o q => ?_, (l.tr (l3.tr l4)).ek, fun a o q => ?_, (l.tr (l3.tr l4)).old⟩, n4, upd_same, (h.ex (l3.tr l4).ek).app (.cons d4 .nil)⟩⟩
    · by_cases z : a = D
      · subst z
        rw [hD] at q
        cases q
      · rw [upd_ne z]
        exact (l.tr (l3.tr l4)).ex a o q
    · rw [upd_ne (ne_of_none q n4)]
      exact l4.sub a o q
theorem wipe_set {α : Type} : ∀ (vs : List Nat) (l : List (Option α)) (j : Nat) (o : Option α) (w : List (Option α) → List Nat → List (Option α)) (hw0 : ∀ l, w l [] = l) (hw1 : ∀ l v vs, w l (v :: vs) = (w l vs).set v none), j ∈ vs → w ((w l vs).set j o) vs = w (w l vs) vs
  | v :: vs, l, j, o, w, h0, h1, hj => by
    rw [h1, h1 ((w l (v :: vs)))]
    by_cases e : j ∈ vs
    · have ih := fun l' => wipe_set vs l' j o w h0 h1 e
      have c : ∀ (l' : List (Option α)) (i : Nat) (q : Option α) (us : List Nat), (i ∉ us) → w (l'.set i q) us = (w l' us).set i q := by
        intro l' i q us
        induction us with
        | nil =>
          intro _
          rw [h0, h0]
        | cons u us ihu =>
          intro hn
          rw [List.mem_cons, not_or] at hn
          rw [h1, h1, ihu hn.2, List.set_comm _ _ hn.1]
      by_cases e2 : v ∈ vs
      · have d : ∀ (l' : List (Option α)) (q : Option α) (us : List Nat), v ∈ us → w (l'.set v q) us = w l' us := by
          intro l' q us
          induction us with
          | nil => exact fun z => nomatch z
          | cons u us ihu =>
            intro hn
            rw [h1, h1]
            by_cases e3 : v ∈ us
            · rw [ihu e3]
            · rcases List.mem_cons.mp hn with z | z
              · subst z
                rw [c _ _ _ _ e3, List.set_set]
              · exact (e3 z).elim
        have d' : ∀ (l' : List (Option α)) (q : Option α) (us : List Nat), j ∈ us → w (l'.set j q) us = w l' us := by
          intro l' q us
          induction us with
          | nil => exact fun z => nomatch z
          | cons u us ihu =>
            intro hn
            rw [h1, h1]
            by_cases e3 : j ∈ us
            · rw [ihu e3]
            · rcases List.mem_cons.mp hn with z | z
              · subst z
                rw [c _ _ _ _ e3, List.set_set]
              · exact (e3 z).elim
        rw [d' _ _ _ e]
      · have d' : ∀ (l' : List (Option α)) (q : Option α) (us : List Nat), j ∈ us → w (l'.set j q) us = w l' us := by
          intro l' q us
          induction us with
          | nil => exact fun z => nomatch z
          | cons u us ihu =>
            intro hn
            rw [h1, h1]
            by_cases e3 : j ∈ us
            · rw [ihu e3]
            · rcases List.mem_cons.mp hn with z | z
              · subst z
                rw [c _ _ _ _ e3, List.set_set]
              · exact (e3 z).elim
        rw [d' _ _ _ e]
    · have ev : j = v := (List.mem_cons.mp hj).resolve_right e
      subst ev
      have c : ∀ (l' : List (Option α)) (i : Nat) (q : Option α) (us : List Nat), (i ∉ us) → w (l'.set i q) us = (w l' us).set i q := by
        intro l' i q us
        induction us with
        | nil =>
          intro _
          rw [h0, h0]
        | cons u us ihu =>
          intro hn
          rw [List.mem_cons, not_or] at hn
          rw [h1, h1, ihu hn.2, List.set_comm _ _ hn.1]
      rw [c _ _ _ _ e, List.set_set]
theorem wipe_none {σ : L2.St} : ∀ vs : List Nat, L2.wipe (L2.wipe σ vs) vs = L2.wipe σ vs := by
  have c : ∀ (us : List Nat) (l : L2.St) (i : Nat), L2.wipe (l.set i none) us = (L2.wipe l us).set i none := by
    intro us
    induction us with
    | nil => exact fun _ _ => rfl
    | cons u us ih =>
      intro l i
      show (L2.wipe (l.set i none) us).set u none = ((L2.wipe l us).set u none).set i none
      rw [ih]
      by_cases e : i = u
      · rw [e]
      · rw [List.set_comm _ _ e]
  intro vs
  induction vs with
  | nil => rfl
  | cons v vs ih =>
    show (L2.wipe ((L2.wipe σ vs).set v none) vs).set v none = (L2.wipe σ vs).set v none
    rw [c, ih, List.set_set]
theorem ed_lcL {tl : TE} {j : Nat} {vs : List Nat} {ds : List PyData} (f : PyData → Bool) (g : PyData → PyData) (h : ED K tl ρ (.list ds)) (hj : j ∈ vs) (hz : ds.length ≤ 40000)
    (ht : ∀ d, d ∈ ds → ET K tt ((wipeD ρ vs).set j (some d)) (f d)) (he : ∀ d, d ∈ ds → f d = true → ED K te ((wipeD ρ vs).set j (some d)) (g d)) :
    ED K (tLc (iList K tl) (gName j) tt te vs) ρ (.list (picked ds f g)) := fun σ B H s sd Q q =>
  h σ B H s sd _ fun v B1 H1 l1 d1 => by
    cases d1 with
    | @lst p xs _ ha hs =>
      have hx : SqL K H1 p xs := SqL.of (l1.sub _ _ ha)
      refine ⟨p, rfl, ⟨xs, hx⟩, fun D hD => ?_⟩
      refine lc_list (K := K) (a := p) (xs := xs) (fun i H' => Cz K B1 H1 D (picked (ds.take i) f g) H') (cz_start l1.sub hD) (fun i H' _ ⟨B', acc, l, _⟩ => SqL.of (l.ex _ _ (l1.sub _ _ ha))) (fun i x H' hi c => ?_) (fun H' c => ?_)
      · obtain ⟨e, he1, hd⟩ := hs.get hi
        have me : e ∈ ds := List.mem_of_getElem? he1
        refine ⟨?_, ?_⟩
        · exact wipe_set vs σ j (some x) L2.wipe (fun _ => rfl) (fun _ _ _ => rfl) hj |>.trans (wipe_none vs)
        · refine cz_turn hD c ((((sd.up l1.ek).wipe vs)).put j hd) ?_ (ht e me) (he e me) (fun hf H2 c2 => ?_) (fun hf H2 c2 => ?_)
          · have z1 := picked_len (ds.take i) f g
            have z2 : (ds.take i).length ≤ ds.length := by
              rw [List.length_take]
              omega
            omega
          · show Cz K B1 H1 D (picked (ds.take (i + 1)) f g) H2
            rw [picked_more he1, if_pos hf]
            exact c2
          · show Cz K B1 H1 D (picked (ds.take (i + 1)) f g) H2
            rw [picked_more he1, if_neg (by rw [hf]; exact Bool.false_ne_true), List.append_nil]
            exact c2
      · have e : ds.take xs.length = ds := by
          rw [hs.len]
          exact List.take_length
        rw [e] at c
        obtain ⟨B', l, hd⟩ := cz_end hD c
        exact q _ _ _ (l1.tr l) hd
theorem et_yes {ρ : En} : ET K tYes ρ true := fun σ B H s sd Q q => q B H (Le.rfl' s)
end
end TD

set_option maxHeartbeats 4000000
namespace TD
open PySem PySem.Spec PyProof.Rows L2
open Evl (Ex)
section
variable (P : Program) (w : World) (K : Fg) (mg : Str → Option Value) (base : Heap)
def Fc (x : Str) (ps : List Str) (k : Nat) (sp : Sp) : Prop :=
  ∃ (f : Addr) (fd : FuncData), mg x = some (.ref f) ∧ PySem.W.keepIn K (.ref f) = true ∧ Binds K fd ps [] ∧ FnG P w K mg base CX0 k f fd ps sp
def At (x : Str) (st : Stmt) : Prop := ∃ (f : Addr) (fd : FuncData), Fun K x x st f fd ∧ mg x = some (.ref f)
end
section
variable {P : Program} {w : World} {K : Fg} {mg : Str → Option Value} {base : Heap} {x : Str} {ps N : List Str} {k : Nat} {st : Stmt}
def XR (K : Fg) (t : TS) (ρ : En) (d : PyData) : Prop := XS K t ρ (.ret d) ∨ (d = .none ∧ ∃ ρ', XS K t ρ (.nx ρ'))
theorem xr_ret {t : TS} {ρ : En} {d : PyData} (h : XS K t ρ (.ret d)) : XR K t ρ d := .inl h
def enOf (N : List Str) (ds : List PyData) : En := ds.map some ++ List.replicate (N.length - ds.length) none
theorem sd_start {B : Hp} {N : List Str} {vs : List V} {ds : List PyData} (h : Das K B vs ds) : SD K B (L2.start N vs) (enOf N ds) := by
  have hl := h.len
  refine ⟨by unfold L2.start enOf; simp [hl], fun i d e => ?_⟩
  unfold enOf at e
  by_cases hi : i < ds.length
  · rw [List.getElem?_append_left (by rw [List.length_map]; exact hi), List.getElem?_map] at e
    obtain ⟨d2, e1, e2⟩ := Option.map_eq_some_iff.mp e
    cases e2
    obtain ⟨v, hv, hd⟩ := h.getD e1
    refine ⟨v, ?_, hd⟩
    unfold L2.start
    rw [List.getElem?_append_left (by rw [List.length_map, hl]; exact hi), List.getElem?_map, hv]
    rfl
  · rw [List.getElem?_append_right (by rw [List.length_map]; omega), List.getElem?_replicate] at e
    split at e <;> cases e
theorem sp_len {R : List PyData → PyData → Prop} (hl : ∀ ds d, R ds d → ds.length = ps.length) : ∀ vs H Q E, SpR K R vs H Q E → vs.length = ps.length := fun vs H Q E ⟨B, ds, d, _, h, r, _⟩ => h.len.trans (hl ds d r)
theorem fc_mk {R : List PyData → PyData → Prop} (a : At K mg x st) (S : FnScope N ps (defScope st))
    (hb : ∀ (kV doc pm : Value) (an : Option Addr) (cdv ct : Value) (us : List Value), us.length = ps.length → bindArgs (PySem.W.fnOf x x (defArgs st) (defBody st) (defScope st) .none kV doc pm an cdv ct) ⟨us, []⟩ = pure (ps.zip us))
    (hl : ∀ ds d, R ds d → ds.length = ps.length)
    (body : ∀ (f : Addr) (cdv : Value) (A : Around) (outer : List Env) (s : Shared) (H : Hp) (E : XK), A.guards = some [] → Room k (A.deeper (envOfC x (defScope st) s.heap.objs.size f cdv)) →
      ∃ t, PSs (cxOf CX0 P w K mg base N x (defScope st) f cdv A outer s H E).nox (defBody st) t ∧ ∀ ds d, R ds d → XR K t (enOf N ds) d) : Fc P w K mg base x ps (k + 1) (SpR K R) := by
  obtain ⟨f, fd, F, hm⟩ := a
  refine ⟨f, fd, hm, F.kp, F.binds hb, fnG F S (sp_len hl) ?_⟩
  intro cdv A outer s H vs Q E gu hr ⟨B, ds, d, sx, hd, r, q⟩
  obtain ⟨t, ht, hx⟩ := body f cdv A outer s H E gu hr
  refine ⟨t, ht.nox, ?_⟩
  have sd := sd_start (N := N) hd
  rcases hx ds d r with h | ⟨rfl, ρ', h⟩
  · exact h _ B H _ sx sd q
  · exact h _ B H _ sx sd fun σ' B' H' l _ => q _ B' H' l .non
end
section
variable {X : Cx} {x : Str} {ps ks : List Str} {k : Nat} {sp : Sp} {E : XK} {p pos : Pos} {e : Expr} {es : List Expr} {t tk : TA} {kws : List Keyword}
theorem pe_f (c : Fc X.prog X.w X.K X.mg X.base x ps k sp) (gu : X.A.guards = some []) (hr : Room k X.A) (hg : Gl X x) (ha : PA X (e :: es) t)
    (d1 : (x == ("__debug__" : Str)) = false := by decide)
    (d2 : starEach (e :: es) X.env = (false, eval e X.env) :: starEach es X.env := by rfl)
    (d3 : (backTo pos (starEach es X.env)).any (·.1) = false := by rfl) :
    PE X (.Call (.Name x p) (e :: es) [] pos) (tCall sp [] E0 t) := by
  obtain ⟨f, fd, hm, kp, hb, F⟩ := c
  exact pe_g F gu hr hg hm kp hb pass0 ha d1 d2 d3
theorem pe_f0 (c : Fc X.prog X.w X.K X.mg X.base x [] k sp) (gu : X.A.guards = some []) (hr : Room k X.A) (hg : Gl X x) (d1 : (x == ("__debug__" : Str)) = false := by decide) :
    PE X (.Call (.Name x p) [] [] pos) (tCall sp [] E0 tNil) := by
  obtain ⟨f, fd, hm, kp, hb, F⟩ := c
  exact pe_g0 F gu hr hg hm kp hb pass0 d1
end
end TD

set_option maxHeartbeats 4000000
namespace TD
open PySem PySem.Spec PyProof.Rows L2
open Evl (Ex)
section
variable {K : Fg} {ρ ρ' : En} {te : TE} {x y z d : PyData}
theorem Das.inv1 {B : Hp} {vs : List V} {ds : List PyData} (h : Das K B vs (x :: ds)) : ∃ v r, vs = v :: r ∧ Da K B v x ∧ Das K B r ds := by
  cases h with
  | cons a t => exact ⟨_, _, rfl, a, t⟩
def TGs_ (K : Fg) (g : TGs) (ds : List PyData) (ρ ρ' : En) : Prop := ∀ σ vs B H, Ex B H → SD K B σ ρ → Das K B vs ds → ∀ Q : L2.St → Hp → Prop, (∀ σ', SD K B σ' ρ' → Q σ' H) → g vs σ H Q
theorem tgs_nil : TGs_ K gNil [] ρ ρ := fun σ vs B H s sd h Q q => by
  cases h
  exact ⟨rfl, q σ sd⟩
theorem tgs_cons {g : TG} {gs : TGs} {ds : List PyData} {ρ1 : En} (h1 : TG_ K g d ρ ρ1) (h2 : TGs_ K gs ds ρ1 ρ') : TGs_ K (gCons g gs) (d :: ds) ρ ρ' := fun σ vs B H s sd h Q q => by
  obtain ⟨v, r, rfl, a, t⟩ := h.inv1
  exact ⟨v, r, rfl, h1 σ v B H s sd a _ fun σ' s' => h2 σ' r B H s s' t Q q⟩
theorem tg_tup {gs : TGs} {ds : List PyData} {n : Nat} (h : TGs_ K gs ds ρ ρ') (hn : ds.length = n := by rfl) : TG_ K (gTup K n gs) (.tuple ds) ρ ρ' := fun σ v B H s sd hd Q q => by
  cases hd with
  | tup ha hs => exact ⟨_, _, rfl, SqT.of (s _ _ ha), hs.len.trans hn, h σ _ B H s sd hs Q q⟩
theorem picked_all (ds : List PyData) (g : PyData → PyData) : picked ds (fun _ => true) g = ds.map g := by
  unfold picked
  rw [List.filter_eq_self.mpr (fun _ _ => rfl)]
theorem ed_allL {tl : TE} {j : Nat} {vs : List Nat} {ds : List PyData} (p : PyData → Bool) (h : ED K tl ρ (.list ds)) (hj : j ∈ vs) (hz : ds.length ≤ 40000)
    (he : ∀ d, d ∈ ds → ED K te ((wipeD ρ vs).set j (some d)) (.bool (p d))) :
    ED K (tCB (rAll K) (tCons (tLc (iList K tl) (gName j) tYes te vs) tNil)) ρ (.bool (ds.all p)) := by
  have h1 := ed_lcL (te := te) (tt := tYes) (fun _ => true) (fun d => .bool (p d)) h hj hz (fun _ _ => et_yes) (fun d m _ => he d m)
  rw [picked_all] at h1
  have e : (ds.map fun d => PyData.bool (p d)) = (ds.map p).map PyData.bool := by rw [List.map_map]; rfl
  have e2 : ds.all p = (ds.map p).all id := by rw [List.all_map]; rfl
  rw [e] at h1
  rw [e2]
  exact ed_cb (ea_cons h1 ea_nil) rc_all
end
end TD

set_option maxHeartbeats 4000000
namespace TD
open PySem PySem.Spec PyProof.Rows L2
open Evl (Ex)
def GenAt (g : Addr) (n : Nat) (H : Hp) : Prop := ∃ a b c : Int, H g = some (.lst [.int a, .int b, .int c]) ∧ 0 ≤ a ∧ (0 ≤ b ∧ b < 2147483647) ∧ 0 ≤ c ∧ c + (n : Int) ≤ 1000000000
theorem GenAt.less {g : Addr} {n m : Nat} {H : Hp} (h : GenAt g n H) (e : m ≤ n) : GenAt g m H := by
  obtain ⟨a, b, c, h1, h2, h3, h4, h5⟩ := h
  exact ⟨a, b, c, h1, h2, h3, h4, by omega⟩
theorem GenAt.ex {g : Addr} {n : Nat} {H H' : Hp} (h : GenAt g n H) (e : Ex H H') : GenAt g n H' := by
  obtain ⟨a, b, c, h1, r⟩ := h
  exact ⟨a, b, c, e g _ h1, r⟩
theorem GenAt.some {g : Addr} {n : Nat} {H : Hp} (h : GenAt g n H) : H g ≠ none := by
  obtain ⟨a, b, c, h1, r⟩ := h
  rw [h1]
  exact fun z => nomatch z
structure LeG (g : Addr) (B H B' H' : Hp) : Prop where
  ex : ∀ a o, a ≠ g → H a = some o → H' a = some o
  ek : Ex B B'
  sub : Ex B' H'
  old : ∀ a, B a = none → H a ≠ none → B' a = none
theorem LeG.of {g : Addr} {B H B' H' : Hp} (l : Le B H B' H') : LeG g B H B' H' := ⟨fun a o _ => l.ex a o, l.ek, l.sub, l.old⟩
theorem LeG.tr {g : Addr} {B H B1 H1 B2 H2 : Hp} (a : LeG g B H B1 H1) (b : LeG g B1 H1 B2 H2) (s : H1 g ≠ none) : LeG g B H B2 H2 :=
  ⟨fun x o n h => b.ex x o n (a.ex x o n h), a.ek.trans b.ek, b.sub, fun x h1 h2 => b.old x (a.old x h1 h2) (fun z => by
    by_cases q : x = g
    · subst q
      exact s z
    · cases q2 : H x with
      | none => exact h2 q2
      | some o =>
        rw [a.ex x o q q2] at z
        cases z)⟩
section
variable (K : Fg)
def SpG (c : Nat) (Pre : List PyData → Prop) (R : List PyData → PyData → Prop) : Sp := fun vs H Q _ => ∃ g ws B ds n, vs = .ref g :: ws ∧ Ex B H ∧ B g = none ∧ GenAt g (n + c) H ∧ Das K B ws ds ∧ Pre ds ∧
  ∀ v d B' H', LeG g B H B' H' → GenAt g n H' → Da K B' v d → R ds d → Q v H'
end
section
variable {K : Fg} {j : Nat} {ρ ρ' : En} {ta tb te : TE} {tt : TT} {n m k : Nat} {P P1 P2 P3 : PyData → Prop}
theorem LeG.g {g : Addr} {B H B' H' : Hp} (l : LeG g B H B' H') (h : B g = none) (s : H g ≠ none) : B' g = none := l.old g h s
end
end TD

set_option maxHeartbeats 4000000
namespace TD
open PySem PySem.Spec PyProof.Rows L2
def isWhole (d : PyData) : Bool := isT "int" d && !isT "bool" d
def isCount : PyData → Bool
  | .int i => decide (0 ≤ i)
  | _ => false
def isTup (n : Int) : PyData → Bool
  | .tuple ds => decide ((ds.length : Int) = n)
  | _ => false
def fitsRoom (r : Int) : PyData → Bool
  | .int i => decide (0 ≤ i) && decide (i < r)
  | _ => false
def asc (r : Int) : Int → List PyData → Bool
  | _, [] => true
  | a, .int i :: ds => (decide (0 ≤ i) && decide (i < r)) && (decide (a < i) && asc r i ds)
  | _, _ :: _ => false
def fitsLights (r : Int) : PyData → Bool
  | .list ds => asc r (-1) ds
  | _ => false
def fitsPresses (r : Int) : PyData → Bool
  | .list ds => ds.all (fitsLights r)
  | _ => false
def isShift : PyData → Bool
  | .int i => decide (-1 ≤ i) && decide (i ≤ 1)
  | _ => false
def fitsDoor (r : Int) : PyData → Bool
  | .tuple [n, m, s] => fitsLights r n && (fitsRoom r m && isShift s)
  | _ => false
def fitsLevel2 : PyData → PyData → Bool
  | .int r, .list ds => decide (1 ≤ r) && ds.all (fitsDoor r)
  | _, _ => false
def fitsLevel : PyData → Bool
  | .tuple [a, b] => fitsLevel2 a b
  | _ => false
theorem whole_int {d : PyData} (h : isWhole d = true) : ∃ i, d = .int i := by
  cases d <;> first | exact ⟨_, rfl⟩ | (revert h; decide) | (revert h; unfold isWhole isT; simp)
def Sm (d : PyData) : Prop := ∀ ds, (d = .list ds ∨ d = .tuple ds) → ds.length ≤ 30000
end TD

set_option maxHeartbeats 4000000
namespace TD
open PySem PySem.Spec PyProof.Rows L2
open PySem.W (alike alikeAll dataLt lt_data ge_data)
section
variable {X : Cx}
theorem ix_listK {K : Fg} (hK : X.K = K) : IxR X (rIxL K) := hK ▸ ix_list
theorem ix_tupK {K : Fg} (hK : X.K = K) : IxR X (rIxT K) := hK ▸ ix_tup
end
section
variable {K : Fg} {ρ : En} {te : TE} {x y : PyData}
end
end TD

set_option maxHeartbeats 4000000
namespace TD
open PySem PySem.Spec PyProof.Rows L2
open Evl (Ex)
def tNo : TS := fun _ _ _ => False
theorem ps_no {X : Cx} {st : Stmt} : PS X st tNo := ⟨fun _ _ _ _ _ _ h => h.elim⟩
section
variable (P : Program) (w : World) (K : Fg) (mg : Str → Option Value) (base : Heap)
end
section
variable {P : Program} {w : World} {K : Fg} {mg : Str → Option Value} {base : Heap} {x : Str} {ps ks N : List Str} {k : Nat} {st : Stmt}
end
section
variable {X : Cx} {x : Str} {ps ks : List Str} {k : Nat} {sp : Sp} {p pos : Pos} {tk : TA} {kws : List Keyword} {g : List Value → List Value} {gV : List V → List V}
end
end TD

set_option maxHeartbeats 4000000
namespace TD
open PySem PySem.Spec PyProof.Rows L2
open Evl (Ex)
section
variable {P : Program} {w : World} {A : Around} {E : Value → Shared → Prop} {s : Shared}
end
end TD

set_option maxHeartbeats 4000000
namespace TD
open PySem PySem.Spec PyProof.Rows L2
open Evl (Ex)
section
section
variable {K : Fg} {ds : List PyData}
def put (i : Int) : List Int → List Int
  | [] => [i]
  | j :: l => if i < j then i :: j :: l else if i = j then j :: l else j :: put i l
end
end
end TD

set_option maxHeartbeats 4000000
namespace TD
open PySem PySem.Spec PyProof.Rows L2
open Evl (Ex)
open PySem.W (alike alikeAll dataLt)
mutual
def szOk : PyData → Bool
  | .list ds => decide (ds.length ≤ 50) && szAll ds
  | .tuple ds => decide (ds.length ≤ 50) && szAll ds
  | _ => true
def szAll : List PyData → Bool
  | [] => true
  | d :: ds => szOk d && szAll ds
end
end TD

set_option maxHeartbeats 4000000
namespace TD
open PySem PySem.Spec PyProof.Rows L2
open Evl (Ex)
section
variable {P : Program} {w : World} {K : Fg} {mg : Str → Option Value} {base : Heap} {x : Str} {ps N : List Str} {k c : Nat} {st : Stmt}
end
end TD

set_option maxHeartbeats 4000000
namespace TD
open PySem PySem.Spec PyProof.Rows L2
open Evl (Ex)
section
variable {K : Fg} {j : Nat} {ρ : En} {te : TE} {t : TS} {n m o : Nat} {P P1 : PyData → Prop}
end
end TD

set_option maxHeartbeats 4000000
namespace TD
open PySem PySem.Spec PyProof.Rows L2
open Evl (Ex)
open PySem.W (AllAlike Sortable EachIs dataLe sorted_data)
section
variable {K : Fg} {ρ : En} {te : TE} {ds : List PyData}
end
end TD

set_option maxHeartbeats 4000000
namespace TD
open PySem PySem.Spec PyProof.Rows L2
open Evl (Ex)
structure Gd (k w : Nat) (d : PyData) : Prop where
  sz : szOk d = true
  sh : d.showable = true
  dp : d.depth ≤ k
  up : TD.sz d ≤ w
theorem Gd.up' {k k' w w' : Nat} {d : PyData} (h : Gd k w d) (hk : k ≤ k') (hw : w ≤ w') : Gd k' w' d := ⟨h.sz, h.sh, Nat.le_trans h.dp hk, Nat.le_trans h.up hw⟩
theorem Gd.fine {k w : Nat} {d : PyData} (h : Gd k w d) (hk : k ≤ 100) (hw : w ≤ 16000000) : Fine d := ⟨h.sh, Nat.le_trans h.dp hk, Nat.le_trans h.up hw⟩
def gdB (k w : Nat) (d : PyData) : Bool := szOk d && d.showable && decide (d.depth ≤ k) && decide (TD.sz d ≤ w)
theorem gd_of {k w : Nat} {d : PyData} (h : gdB k w d = true) : Gd k w d := by
  unfold gdB at h
  simp only [Bool.and_eq_true, decide_eq_true_eq] at h
  exact ⟨h.1.1.1, h.1.1.2, h.1.2, h.2⟩
theorem gd_all {k w : Nat} : ∀ {ds : List PyData}, (∀ d ∈ ds, Gd k w d) → szAll ds = true ∧ PyData.showableAll ds = true ∧ PyData.depthAll ds ≤ k ∧ szs ds ≤ ds.length * (w + 2)
  | [], _ => ⟨by simp [szAll], by simp [PyData.showableAll], by simp [PyData.depthAll], by simp [szs]⟩
  | d :: ds, h => by
    obtain ⟨h1, h2, h3, h4⟩ := gd_all fun e he => h e (List.mem_cons_of_mem _ he)
    have hd := h d (List.mem_cons_self ..)
    refine ⟨?_, ?_, ?_, ?_⟩
    · rw [szAll, hd.sz, h1]
      rfl
    · rw [PyData.showableAll, hd.sh, h2]
      rfl
    · rw [PyData.depthAll]
      exact Nat.max_le.mpr ⟨hd.dp, h3⟩
    · rw [szs, List.length_cons, Nat.add_mul]
      have := hd.up
      omega
theorem gd_list {k w n : Nat} {ds : List PyData} (h : ∀ d ∈ ds, Gd k w d) (hl : ds.length ≤ n) (hn : n ≤ 50) : Gd (k + 1) (n * (w + 2) + 5) (.list ds) := by
  obtain ⟨h1, h2, h3, h4⟩ := gd_all h
  refine ⟨?_, ?_, ?_, ?_⟩
  · rw [szOk, h1, decide_eq_true (by omega)]
    rfl
  · rw [PyData.showable]
    exact h2
  · rw [PyData.depth]
    omega
  · show szs ds + 5 ≤ _
    have := Nat.mul_le_mul_right (w + 2) hl
    omega
theorem gd_tup {k w n : Nat} {ds : List PyData} (h : ∀ d ∈ ds, Gd k w d) (hl : ds.length ≤ n) (hn : n ≤ 50) : Gd (k + 1) (n * (w + 2) + 5) (.tuple ds) := by
  obtain ⟨h1, h2, h3, h4⟩ := gd_all h
  refine ⟨?_, ?_, ?_, ?_⟩
  · rw [szOk, h1, decide_eq_true (by omega)]
    rfl
  · rw [PyData.showable]
    exact h2
  · rw [PyData.depth]
    omega
  · show szs ds + 5 ≤ _
    have := Nat.mul_le_mul_right (w + 2) hl
    omega
section
variable {K : Fg} {j : Nat} {ρ : En} {te : TE} {tr : TA} {n m k l : Nat} {G : PyData → Prop}
end
end TD

set_option maxHeartbeats 4000000
namespace TD
open PySem PySem.Spec PyProof.Rows L2
open Evl (Ex)
def cutD (ds : List PyData) (lo hi : Option Int) : List PyData := (ds.drop (HT.sIx ds.length 0 lo)).take (HT.sIx ds.length ds.length hi - HT.sIx ds.length 0 lo)
section
variable {K : Fg} {ρ : En} {te : TE} {ds : List PyData}
theorem Das.cut {B : Hp} {vs : List V} (h : Das K B vs ds) (lo hi : Option Int) : Das K B (cutV vs lo hi) (cutD ds lo hi) := by
  unfold cutV cutD
  rw [h.len]
  exact (h.drop _).take _
end
end TD

set_option maxHeartbeats 4000000
namespace TD
open PySem PySem.Spec PyProof.Rows L2
open Evl (Ex)
section
variable {K : Fg} {j : Nat} {ρ ρ1 ρ2 : En} {te : TE} {tt : TT} {t u : TS} {d x y : PyData}
theorem wipeD_len : ∀ (cs : List Nat) (ρ : En), (wipeD ρ cs).length = ρ.length
  | [], _ => rfl
  | c :: cs, ρ => by
    show ((wipeD ρ cs).set c none).length = _
    rw [List.length_set, wipeD_len cs ρ]
theorem wipeD_sub : ∀ (cs : List Nat) {ρ : En} {i : Nat} {d : PyData}, (wipeD ρ cs)[i]? = some (some d) → ρ[i]? = some (some d)
  | [], _, _, _, h => h
  | c :: cs, ρ, i, d, h => by
    have h' : ((wipeD ρ cs).set c none)[i]? = some (some d) := h
    by_cases w : c = i
    · subst w
      by_cases l : c < (wipeD ρ cs).length
      · rw [List.getElem?_set_self l] at h'
        cases h'
      · rw [List.getElem?_eq_none (by rw [List.length_set]; omega)] at h'
        cases h'
    · rw [List.getElem?_set_ne w] at h'
      exact wipeD_sub cs h'
end
theorem rc_repr {K : Fg} {d : PyData} (hf : Fine d) : RcD K (rRepr K) [d] (.str d.shown) := fun vs B H s h Q q => by
  obtain ⟨v, r, rfl, a, t⟩ := h.inv1
  cases t
  exact ⟨v, d, rfl, a.ex s, hf, q _ B H (Le.rfl' s) (.str _)⟩
end TD

set_option maxHeartbeats 4000000
namespace TD
open PySem PySem.Spec PyProof.Rows L2
open Evl (Ex)
def CPc (P : Program) (w : World) (K : Fg) (mg : Str → Option Value) (base : Heap) (k : Nat) : Addr → Sp → Prop := fun f sp => ∃ x ps, Fc P w K mg base x ps k sp ∧ mg x = some (.ref f)
def tCallN (CP : Addr → Sp → Prop) (i : Nat) (t : TA) : TE := fun σ H Q => ∃ f sp, σ[i]? = some (some (.ref f)) ∧ CP f sp ∧ t σ H fun vs H2 => sp vs H2 Q E0
section
variable {X : Cx} {e : Expr} {es : List Expr} {pos : Pos} {t : TA} {k : Nat}
theorem pe_callNc {a : Str} {p : Pos} {i : Nat} {CP : Addr → Sp → Prop} (hcp : ∀ f sp, CP f sp → CPc X.prog X.w X.K X.mg X.base k f sp) (gu : X.A.guards = some []) (hr : Room k X.A) (hN : X.N[i]? = some a) (hv : Vis X.env.scope a) (ha : PA X (e :: es) t)
    (z1 : (a == ("__debug__" : Str)) = false := by decide) (z2 : (a == ("__classdict__" : Str)) = false := by decide)
    (d2 : starEach (e :: es) X.env = (false, eval e X.env) :: starEach es X.env := by rfl)
    (d3 : (backTo pos (starEach es X.env)).any (·.1) = false := by rfl) :
    PE X (.Call (.Name a p) (e :: es) [] pos) (tCallN CP i t) := by
  refine ⟨fun pins s σ H Q I ⟨f, sp, hs, hcp1, q⟩ => ?_⟩
  obtain ⟨x, ps, ⟨f', fd, hm', kp, hb, F⟩, hm⟩ := hcp f sp hcp1
  rw [hm] at hm'
  cases hm'
  refine wpAny_Call_Name_kw (thn ((pe_var (pos := p) (i := i) hN hv z1 z2).run pins s σ H (fun v H1 => v = .ref f ∧ H1 = H) I ⟨.ref f, hs, rfl, rfl⟩) fun u s1 ⟨v, H1, I1, r1, ev, eh⟩ => ?_)
  subst ev
  subst eh
  cases (show u = Value.ref f from r1)
  refine PySem.W.callWith_K (h₀ := X.base) I1.ok.mod.kin kp (thn (ha.run pos pins s1 σ H1 _ I1 q) ?_) d2 d3
  intro us s2 ⟨vs, H2, I2, r, q2⟩
  have b := hb s2 us I2.kIn (by rw [List.append_nil, ← r.length]; exact F.ln _ _ _ _ q2)
  rw [List.append_nil] at b
  exact ⟨I2.kIn, runG F gu hr b pass0 I2 r q2⟩
end
section
variable {P : Program} {w : World} {K : Fg} {mg : Str → Option Value} {base : Heap} {x : Str} {ps N : List Str} {k : Nat} {st : Stmt} {sp : Sp}
theorem fcg_mk (a : At K mg x st) (S : FnScope N ps (defScope st))
    (hb : ∀ (kV doc pm : Value) (an : Option Addr) (cdv ct : Value) (us : List Value), us.length = ps.length → bindArgs (PySem.W.fnOf x x (defArgs st) (defBody st) (defScope st) .none kV doc pm an cdv ct) ⟨us, []⟩ = pure (ps.zip us))
    (hl : ∀ vs H Q E, sp vs H Q E → vs.length = ps.length)
    (body : ∀ (f : Addr) (cdv : Value) (A : Around) (outer : List Env) (s : Shared) (H : Hp) (vs : List V) (Q : VK) (E : XK), A.guards = some [] → Room k (A.deeper (envOfC x (defScope st) s.heap.objs.size f cdv)) → sp vs H Q E →
      ∃ t, PSs (cxOf CX0 P w K mg base N x (defScope st) f cdv A outer s H E).nox (defBody st) t ∧ t { nx := fun _ H' => Q .non H', rt := Q } (L2.start N vs) H) : Fc P w K mg base x ps (k + 1) sp := by
  obtain ⟨f, fd, F, hm⟩ := a
  refine ⟨f, fd, hm, F.kp, F.binds hb, fnG F S hl ?_⟩
  intro cdv A outer s H vs Q E gu hr h
  obtain ⟨t, ht, hx⟩ := body f cdv A outer s H vs Q E gu hr h
  exact ⟨t, ht.nox, hx⟩
end
section
variable {K : Fg} {ρ ρ' : En} {te : TE} {J : L2.St → Prop} {d : PyData}
def EDs (K : Fg) (J : L2.St → Prop) (te : TE) (ρ : En) (d : PyData) : Prop := ∀ σ, J σ → ∀ B H, Ex B H → SD K B σ ρ → ∀ Q : VK, (∀ v B' H', Le B H B' H' → Da K B' v d → Q v H') → te σ H Q
theorem eds_callN {CP : Addr → Sp → Prop} {f : Addr} {R : List PyData → PyData → Prop} {i : Nat} {ta : TA} {ds : List PyData} (c : CP f (SpR K R)) (ha : EA K ta ρ ds) (hR : R ds d) : EDs K (fun σ => σ[i]? = some (some (.ref f))) (tCallN CP i ta) ρ d := fun σ hs B H s sd Q q =>
  ⟨f, _, hs, c, ha σ B H s sd _ fun vs B1 H1 l1 d1 => ⟨B1, ds, d, l1.sub, d1, hR, fun u B2 H2 l2 d2 => q u B2 H2 (l1.tr l2) d2⟩⟩
theorem czs_turn {B H : Hp} {D : Addr} {out : List PyData} {H' : Hp} {σ' : L2.St} {y : PyData} (hD : H D = none) (c : Cz K B H D out H') (sd : SD K B σ' ρ') (js : J σ') (hl : out.length ≤ 50000) (he : EDs K J te ρ' y) {P : Hp → Prop}
    (h1 : ∀ H2, Cz K B H D (out ++ [y]) H2 → P H2) :
    tYes σ' H' fun b2 H3 => if b2 = true then te σ' H3 fun v H4 => ∃ acc, H4 D = some (.lst acc) ∧ acc.length < sizeLine ∧ P (upd H4 D (.lst (acc ++ [v]))) else P H3 := by
  obtain ⟨B', acc, l, n, e, h⟩ := c
  show te σ' H' _
  refine he σ' js B' H' l.sub (sd.up l.ek) _ fun v B4 H4 l4 d4 => ?_
  have n4 : B4 D = none := l4.old D n (fun z => by rw [e] at z; cases z)
  refine ⟨acc, l4.ex D _ e, Evl.sz_lt (by rw [h.len]; omega), h1 _ ⟨B4, acc ++ [v], ⟨fun a o q => ?_, (l.tr l4).ek, fun a o q => ?_, (l.tr l4).old⟩, n4, upd_same, (h.ex l4.ek).app (.cons d4 .nil)⟩⟩
  · by_cases z : a = D
    · subst z
      rw [hD] at q
      cases q
    · rw [upd_ne z]
      exact (l.tr l4).ex a o q
  · rw [upd_ne (ne_of_none q n4)]
    exact l4.sub a o q
theorem eds_lcL {tl : TE} {j : Nat} {vs : List Nat} {ds : List PyData} (g : PyData → PyData) (h : ED K tl ρ (.list ds)) (hj : j ∈ vs) (hz : ds.length ≤ 40000) (hJ : ∀ σ x, J σ → J ((L2.wipe σ vs).set j (some x)))
    (he : ∀ d, d ∈ ds → EDs K J te ((wipeD ρ vs).set j (some d)) (g d)) : EDs K J (tLc (iList K tl) (gName j) tYes te vs) ρ (.list (ds.map g)) := fun σ js B H s sd Q q =>
  h σ B H s sd _ fun v B1 H1 l1 d1 => by
    cases d1 with
    | @lst p xs _ ha hs =>
      have hx : SqL K H1 p xs := SqL.of (l1.sub _ _ ha)
      refine ⟨p, rfl, ⟨xs, hx⟩, fun D hD => ?_⟩
      refine lc_list (K := K) (a := p) (xs := xs) (fun i H' => Cz K B1 H1 D ((ds.take i).map g) H') (cz_start l1.sub hD) (fun i H' _ ⟨B', acc, l, _⟩ => SqL.of (l.ex _ _ (l1.sub _ _ ha))) (fun i x H' hi c => ?_) (fun H' c => ?_)
      · obtain ⟨e, he1, hd⟩ := hs.get hi
        have me : e ∈ ds := List.mem_of_getElem? he1
        refine ⟨?_, ?_⟩
        · exact wipe_set vs σ j (some x) L2.wipe (fun _ => rfl) (fun _ _ _ => rfl) hj |>.trans (wipe_none vs)
        · refine czs_turn hD c ((((sd.up l1.ek).wipe vs)).put j hd) (hJ σ x js) ?_ (he e me) (fun H2 c2 => ?_)
          · have z2 : ((ds.take i).map g).length ≤ ds.length := by
              rw [List.length_map, List.length_take]
              omega
            omega
          · show Cz K B1 H1 D ((ds.take (i + 1)).map g) H2
            have e : (ds.take (i + 1)).map g = (ds.take i).map g ++ [g e] := by
              rw [List.take_add_one, he1, List.map_append]
              rfl
            rw [e]
            exact c2
      · have e : ds.take xs.length = ds := by
          rw [hs.len]
          exact List.take_length
        rw [e] at c
        obtain ⟨B', l, hd⟩ := cz_end hD c
        exact q _ _ _ (l1.tr l) hd
theorem eds_allL {tl : TE} {j : Nat} {vs : List Nat} {ds : List PyData} (p : PyData → Bool) (h : ED K tl ρ (.list ds)) (hj : j ∈ vs) (hz : ds.length ≤ 40000) (hJ : ∀ σ x, J σ → J ((L2.wipe σ vs).set j (some x)))
    (he : ∀ d, d ∈ ds → EDs K J te ((wipeD ρ vs).set j (some d)) (.bool (p d))) :
    EDs K J (tCB (rAll K) (tCons (tLc (iList K tl) (gName j) tYes te vs) tNil)) ρ (.bool (ds.all p)) := fun σ js B H s sd Q q => by
  have e2 : ds.all p = (ds.map p).all id := by rw [List.all_map]; rfl
  rw [e2] at q
  have h1 := eds_lcL (te := te) (J := J) (fun d => .bool (p d)) h hj hz hJ he
  have e : (ds.map fun d => PyData.bool (p d)) = (ds.map p).map PyData.bool := by rw [List.map_map]; rfl
  rw [e] at h1
  exact h1 σ js B H s sd _ fun v B1 H1 l1 d1 => rc_all _ B1 H1 l1.sub (.cons d1 .nil) Q fun u B3 H3 l3 d3 => q u B3 H3 (l1.tr l3) d3
def XSs (K : Fg) (J : L2.St → Prop) (t : TS) (ρ : En) (o : Out) : Prop := ∀ σ, J σ → ∀ B H (D : Ends), Ex B H → SD K B σ ρ → Meet K D B H o → t D σ H
theorem xss_of {t : TS} {o : Out} (h : XS K t ρ o) : XSs K J t ρ o := fun σ _ B H D s sd m => h σ B H D s sd m
theorem xss_ret (h : EDs K J te ρ d) : XSs K J (tRet te) ρ (.ret d) := fun σ js B H D s sd m => h σ js B H s sd _ m
def KeepsS (J : L2.St → Prop) (t : TS) (ρ ρ' : En) (K : Fg) : Prop := ∀ σ, J σ → ∀ B H (D : Ends), Ex B H → SD K B σ ρ → (∀ σ' B' H', J σ' → Le B H B' H' → SD K B' σ' ρ' → D.nx σ' H') → t D σ H
theorem xss_seq {t u : TS} {ρ1 : En} {o : Out} (h1 : KeepsS J t ρ ρ1 K) (h2 : XSs K J u ρ1 o) : XSs K J (tSeq t u) ρ o := fun σ js B H D s sd m =>
  h1 σ js B H _ s sd fun σ' B' H' js' l s' => h2 σ' js' B' H' D l.sub s' (m.back l)
theorem ks_skip {tt : TT} {t : TS} (h : ET K tt ρ false) : KeepsS J (tIfS tt t tNext) ρ ρ K := fun σ js B H D s sd m =>
  h σ B H s sd _ fun B1 H1 l1 => by
    show tNext D σ H1
    exact m σ B1 H1 js l1 (sd.up l1.ek)
theorem ks_asg2 {i j : Nat} {x y : PyData} (h : ED K te ρ (.tuple [x, y])) (hJ : ∀ σ a b, J σ → J ((σ.set i (some a)).set j (some b))) : KeepsS J (tAsg te (gTup K 2 (gCons (gName i) (gCons (gName j) gNil)))) ρ ((ρ.set i (some x)).set j (some y)) K := fun σ js B H D s sd m =>
  h σ B H s sd _ fun v B1 H1 l1 d1 => by
    cases d1 with
    | tup ha hs =>
      obtain ⟨v1, r1, rfl, a1, hs⟩ := hs.inv1
      obtain ⟨v2, r2, rfl, a2, hs⟩ := hs.inv1
      cases hs
      exact ⟨_, _, rfl, SqT.of (l1.sub _ _ ha), rfl, v1, _, rfl, v2, _, rfl, rfl, m _ B1 H1 (hJ σ v1 v2 js) l1 (((sd.up l1.ek).put i a1).put j a2)⟩
end
end TD

set_option maxHeartbeats 4000000
namespace TDX
open PySem PySem.W PySem.Calls PySem.HandSPX
section
variable {prog : Program} {w : World} {A : Around} {E : Value → Shared → Prop} {R : Result → Shared → Prop} {h : Heap} {g : Array GenState} {d : Drawn} {t : Nat} {os : OsState}
variable {nm q : Str} {C N : Addr} {bs bm bmB : List Value} {hdct : Bool} {sn : List Str} {sub : List Value} {ab : Bool} {col : Option Bool} {dd : Option Addr} {k0 k1 k2 k3 k5 : Option Value} {B newId initId : String}
variable {rest : List Value} {kw : List (Str × Value)}
end
end TDX

set_option maxHeartbeats 4000000
namespace TD
open PySem PySem.Spec PyProof.Rows L2
open Evl (Ex)
def ExV (H : Hp) (a C : Addr) (v : V) : Prop := ∃ d, H a = some (exo a C (some d)) ∧ H d = some (exd d [(("value" : Str), v)])
theorem ExV.ex {H H' : Hp} {a C : Addr} {v : V} (e : Ex H H') (h : ExV H a C v) : ExV H' a C v := let ⟨d, h1, h2⟩ := h; ⟨d, e _ _ h1, e _ _ h2⟩
structure Exc (K : Fg) (C fI : Addr) : Prop where
  o : OexC K C
  no : PySem.W.findIn K (.ref C) "value" = some none
  ini : PySem.W.findIn K (.ref C) "__init__" = some (some (.ref fI))
  tI : PySem.W.typeIn K (.ref fI) = some (.type "function")
  x : ExcC K C
def spIni (K : Fg) : Sp := fun vs H Q _ => ∃ a C v, vs = [.ref a, v] ∧ OexC K C ∧ PySem.W.findIn K (.ref C) "value" = some none ∧ H a = some (exo a C none) ∧ ∀ dx, H dx = none → dx ≠ a → Q .non (upd (upd H dx (exd dx [(("value" : Str), v)])) a (exo a C (some dx)))
section
variable {X : Cx} {pins : List (Addr × Obj)} {σ : L2.St} {H : Hp} {s : Shared} {C fI : Addr} {fd : FuncData} {Q : VK}
end
structure Bd (K : Fg) (fd : FuncData) : Prop where
  b1 : ∀ (s : Shared) (z u : Value), K.In s.heap → BindsTo s fd ⟨[z, u], []⟩ ([("self" : Str), "value"].zip [z, u])
  b0 : ∀ (s : Shared) (z : Value), K.In s.heap → BindsTo s fd ⟨[z], []⟩ ([("self" : Str), "value"].zip [z, .none])
  bk : ∀ (s : Shared) (z u : Value), K.In s.heap → BindsTo s fd ⟨[z], [(("value" : Str), u)]⟩ ([("self" : Str), "value"].zip [z, u])
def Mke (P : Program) (w : World) (K : Fg) (mg : Str → Option Value) (base : Heap) (x : Str) (C : Addr) : Prop :=
  ∃ (fI : Addr) (fd : FuncData), mg x = some (.ref C) ∧ Exc K C fI ∧ FnOk P w K mg base CX0 1 fI fd ["self", "value"] (spIni K) ∧ Bd K fd
section
variable {X : Cx} {C : Addr} {x : Str} {p pos kpos : Pos} {e : Expr} {ta : TA}
end
def Mkn (K : Fg) (mg : Str → Option Value) (x : Str) (C : Addr) : Prop := ∃ bmB, ExcBaseFacts "ValueError" "ValueError.__new__" "ValueError.__init__" bmB ∧ PySem.W.excIn K C bmB "ValueError.__new__" = true ∧ mg x = some (.ref C) ∧ PySem.W.keepIn K (.ref C) = true ∧ ExcC K C
section
variable {X : Cx} {pins : List (Addr × Obj)} {σ : L2.St} {H : Hp} {s : Shared} {C : Addr} {x : Str} {p pos : Pos} {e : Expr} {es : List Expr} {ta : TA} {Q : VK}
end
def IsX (H : Hp) (a C : Addr) : Prop := H a = some (exo a C none) ∨ ∃ d fs, H a = some (exo a C (some d)) ∧ H d = some (exd d fs)
theorem IsX.of {H : Hp} {a C : Addr} {v : V} (h : ExV H a C v) : IsX H a C := let ⟨d, h1, h2⟩ := h; .inr ⟨d, _, h1, h2⟩
theorem IsX.ex {H H' : Hp} {a C : Addr} (e : Ex H H') (h : IsX H a C) : IsX H' a C := by
  rcases h with h | ⟨d, fs, h1, h2⟩
  · exact .inl (e _ _ h)
  · exact .inr ⟨d, fs, e _ _ h1, e _ _ h2⟩
section
variable {X : Cx} {pins : List (Addr × Obj)} {σ : L2.St} {H : Hp} {s : Shared}
theorem cls_some {K : Fg} {C : Addr} (h : PySem.W.hasDictIn K C = true) : (PySem.W.clsIn K C).isSome = true := by
  cases e : PySem.W.clsIn K C with
  | some _ => rfl
  | none =>
    unfold PySem.W.hasDictIn at h
    rw [e] at h
    cases h
end
end TD

set_option maxHeartbeats 4000000
namespace TD
open PySem PySem.Spec PyProof.Rows L2
open Evl (Ex Ev EvA EvL EvT RV)
def AllE (H : Hp) (v : V) : List Addr → List Addr → Prop := Paired fun a C => ExV H a C v
theorem AllE.ex {H H' : Hp} {v : V} (e : Ex H H') : ∀ {as Cs : List Addr}, AllE H v as Cs → AllE H' v as Cs
  | _, _, .nil => .nil
  | _, _, .cons h t => .cons (h.ex e) (AllE.ex e t)
theorem AllE.app {H : Hp} {v : V} : ∀ {as Cs bs Ds : List Addr}, AllE H v as Cs → AllE H v bs Ds → AllE H v (as ++ bs) (Cs ++ Ds)
  | _, _, _, _, .nil, k => k
  | _, _, _, _, .cons h t, k => .cons h (AllE.app t k)
theorem AllE.len {H : Hp} {v : V} : ∀ {as Cs : List Addr}, AllE H v as Cs → as.length = Cs.length
  | _, _, .nil => rfl
  | _, _, .cons h t => congrArg Nat.succ (AllE.len t)
theorem AllE.get {H : Hp} {v : V} : ∀ {as Cs : List Addr} {i : Nat} {a : Addr}, AllE H v as Cs → as[i]? = some a → ∃ C, Cs[i]? = some C ∧ ExV H a C v
  | _, _, _, _, .nil, h => by simp at h
  | _, _, 0, _, .cons h t, e => by
    simp at e
    subst e
    exact ⟨_, rfl, h⟩
  | _, _, i + 1, _, .cons h t, e => AllE.get (i := i) t e
section
variable {K : Fg} {σ : L2.St} {H : Hp} {ta tr : TA} {C : Addr} {Cs Ds : List Addr} {v : V}
def KdL (K : Fg) (C : Addr) : List Addr → List Bool → Prop := Paired fun D b => PySem.W.kitOne K (.ref C) (.ref D) = some b
theorem KdL.len {C : Addr} : ∀ {Ds : List Addr} {bs : List Bool}, KdL K C Ds bs → bs.length = Ds.length
  | _, _, .nil => rfl
  | _, _, .cons h t => congrArg Nat.succ (KdL.len t)
end
def rEqW (K : Fg) : R2 := fun x y H Q => rEqA K x y H Q ∨ rEqV K x y H Q
section
variable {X : Cx}
end
end TD

set_option maxHeartbeats 4000000
namespace TD
open PySem PySem.Spec PyProof.Rows L2
open Evl (Ex Ev EvA EvL EvT RV)
def iA (a1 a2 : Pos) (e : Expr) : Arguments := { posonlyargs := [], args := [{ arg := "self", annotation := none, pos := a1 }, { arg := "value", annotation := none, pos := a2 }], vararg := none, kwonlyargs := [], kw_defaults := [], kwarg := none, defaults := [e] }
def iB (q1 q2 q3 q4 : Pos) : List Stmt := [.Assign [.Attribute (.Name "self" q1) "value" q2] (.Name "value" q3) q4]
def iS : Scope := { kind := .function, names := [(PySem.Str.ofString "self", .local), (PySem.Str.ofString "value", .local)], isGenerator := false, isCoroutine := false, more := [] }
def clsM : Stmt → Stmt
  | .ClassDef _ _ _ b _ _ _ _ _ _ _ => b.getD 0 (.Pass ⟨0, 0, 0, 0⟩)
  | s => s
abbrev bmV (r : List Value) : List Value := r ++ [.type "ValueError", .type "Exception", .type "BaseException", .type "object"]
structure Std (K : Fg) (mg : Str → Option Value) (x : Str) (C : Addr) (r : List Value) : Prop where
  gC : mg x = some (.ref C)
  kC : PySem.W.keepIn K (.ref C) = true
  tyC : PySem.W.typeIn K (.ref C) = some (.type "type")
  cls : ∃ nm q N bs sn sub ab col dd k0 k1 k2 k3 k5, K.lookup C = some (excClassObj nm q C N bs (bmV r) true sn sub ab col dd k0 k1 k2 k3 k5 "ValueError.__new__")
  hg : PySem.W.findIn K (.ref C) "__getattribute__" = some (some (.builtin "BaseException.__getattribute__"))
  hk : PySem.W.findIn K (.ref C) "__getattr__" = some none
  ha : PySem.W.findIn K (.ref C) "__class__" = some (some (.builtin "object.__class__"))
  hn : PySem.W.specialIn K (.builtin "object.__class__") "__get__" = some (some (.builtin "getset_descriptor.__get__"))
  ht : PySem.W.takesIn K (.builtin "object.__class__") = some true
section
variable {P : Program} {w : World} {K : Fg} {mg : Str → Option Value} {base : Heap} {x : Str} {C D fI : Addr} {r : List Value}
theorem Std.mro (h : Std K mg x C r) (v : Value) : PySem.W.mroIn K C v = some ((Value.ref C :: bmV r).contains v) := by
  obtain ⟨nm, q, N, bs, sn, sub, ab, col, dd, k0, k1, k2, k3, k5, e⟩ := h.cls
  unfold PySem.W.mroIn PySem.W.clsIn
  rw [e]
  rfl
theorem Std.has (h : Std K mg x C r) : PySem.W.hasDictIn K C = true := by
  obtain ⟨nm, q, N, bs, sn, sub, ab, col, dd, k0, k1, k2, k3, k5, e⟩ := h.cls
  unfold PySem.W.hasDictIn PySem.W.clsIn
  rw [e]
  rfl
theorem Std.isCls (h : Std K mg x C r) : (PySem.W.clsIn K C).isSome = true := by
  obtain ⟨nm, q, N, bs, sn, sub, ab, col, dd, k0, k1, k2, k3, k5, e⟩ := h.cls
  unfold PySem.W.clsIn
  rw [e]
  rfl
theorem bm_has {v : Value} (h : v ∈ bmV r) : (Value.ref C :: bmV r).contains v = true := List.contains_iff_mem.mpr (List.mem_cons_of_mem _ h)
theorem Std.sub (h : Std K mg x C r) {v : Value} (hv : v ∈ bmV r) : PySem.W.subIn K (.ref C) v = some true := by
  show PySem.W.mroIn K C v = some true
  rw [h.mro, bm_has hv]
theorem Std.exc (h : Std K mg x C r) : ExcC K C where
  hg := h.hg
  hk := h.hk
  hs := h.sub (List.mem_append_right _ (by decide))
  hd := h.has
  ha := h.ha
  hn := h.hn
  ht := h.ht
  hm := h.sub (List.mem_append_right _ (by decide))
theorem Std.kitT (h : Std K mg x C r) {T : String} (hT : Value.type T ∈ bmV r) (m : PySem.W.kitMeta T = true) : PySem.W.kitOne K (.ref C) (.type T) = some true := by
  unfold PySem.W.kitOne
  rw [if_neg (by simp)]
  show (if PySem.W.kitMeta T = true then PySem.W.subIn K (.ref C) (.type T) else none) = some true
  rw [if_pos m, h.sub hT]
theorem Std.kit {y : Str} {r' : List Value} (h : Std K mg x C r) (k : Std K mg y D r') (hr : Value.ref D ∉ bmV r) : PySem.W.kitOne K (.ref C) (.ref D) = some (decide (C = D)) := by
  unfold PySem.W.kitOne
  by_cases e : C = D
  · subst e
    rw [if_pos (by simp), decide_eq_true rfl]
  · rw [if_neg (by simpa using e), decide_eq_false e]
    show (if ((PySem.W.clsIn K D).isSome && PySem.W.typeIn K (.ref D) == some (.type "type")) = true then PySem.W.subIn K (.ref C) (.ref D) else none) = some false
    rw [if_pos (by rw [k.isCls, k.tyC]; rfl)]
    show PySem.W.mroIn K C (.ref D) = some false
    rw [h.mro]
    congr 1
    rw [Bool.eq_false_iff]
    intro z
    rcases List.mem_cons.mp (List.contains_iff_mem.mp z) with z | z
    · injection z with z
      exact e z.symm
    · exact hr z
theorem ini_ok {qual : Str} {a1 a2 q1 q2 q3 q4 : Pos} {e : Expr} {dvs : List V} {fd : FuncData} (F : FunD K "__init__" qual (iA a1 a2 e) (iB q1 q2 q3 q4) iS dvs [] fI fd) : FnOk P w K mg base CX0 1 fI fd ["self", "value"] (spIni K) := by
  have S : FnScope ["self", "value"] ["self", "value"] iS := ⟨rfl, rfl, rfl, by decide +kernel, rfl, by decide +kernel, by decide +kernel⟩
  refine F.ok S (fun vs H Q E h => ?_) (fun cdv A outer s H vs Q E hr h => ⟨_, pss_one (ps_ost (pv 0) (pv 1)), ?_⟩)
  · obtain ⟨a, C, v, rfl, _⟩ := h
    rfl
  · obtain ⟨a, C, v, rfl, T, hno, ha, q⟩ := h
    exact ⟨v, rfl, .ref a, rfl, a, C, rfl, T, hno, .inl ⟨ha, fun dx hn ne => q dx hn ne⟩⟩
theorem ini_bd {qual : Str} {a1 a2 q1 q2 q3 q4 : Pos} {e : Expr} {fd : FuncData} (F : FunD K "__init__" qual (iA a1 a2 e) (iB q1 q2 q3 q4) iS [.non] [] fI fd) : Bd K fd := by
  refine ⟨fun s z u hK => ?_, fun s z hK => ?_, fun s z u hK => ?_⟩
  · obtain ⟨ds, r, b⟩ := F.binds1 (ps := ["self", "value"]) 2 1 (by decide) rfl fun T kV doc pm an cdv ct us its h1 h2 => by
      match us, its, h1, h2 with
      | [_, _], [_], _, _ => exact ⟨_, rfl, rfl⟩
    cases r
    exact b s [z, u] hK rfl
  · obtain ⟨ds, r, b⟩ := F.binds1 (ps := ["self", "value"]) 1 0 (by decide) rfl fun T kV doc pm an cdv ct us its h1 h2 => by
      match us, its, h1, h2 with
      | [_], [_], _, _ => exact ⟨_, rfl, rfl⟩
    obtain ⟨u, rfl, ru⟩ := vals1 (show Vals [V.non] ds from r)
    cases (show u = Value.none from ru)
    exact b s [z] hK rfl
  · obtain ⟨oc, od, dV, kV, doc, pm, an, cdv, ct, osl, rfl, lk, hcd, hD, hW⟩ := F.ex
    rcases hD with ⟨h0, _⟩ | ⟨_, T, o, its, m, rfl, lT, oT, rT⟩
    · cases h0
    · obtain ⟨u2, rfl, ru⟩ := vals1 rT
      refine BindsTo.of_looks fun M => ?_
      have e : ∃ k, bindArgs (PySem.W.fnOf "__init__" qual (iA a1 a2 e) (iB q1 q2 q3 q4) iS (.ref T) kV doc pm an cdv ct) ⟨[z], [(("value" : Str), u)]⟩ = seqItems? (.ref T) >>= k ∧ k (some [u2].toArray) = pure ((["self", "value"] : List Str).zip [z, u]) := ⟨_, rfl, rfl⟩
      obtain ⟨k, e1, e2⟩ := e
      rw [e1]
      exact looks_items hK lT oT (.of_pure e2)
theorem mke_of {qual : Str} {st : Stmt} {fT : Addr} {oc kV doc pm cdv ct : Value} {od an : Option Addr} {osl : Array (Option Value)} {ot : Obj} {n : Nat} (h : Std K mg x C r) (hv : PySem.HandSPX.refsVE (bmV r) = true)
    (sa : PySem.W.findIn K (.ref C) "__setattr__" = some (some (.builtin "object.__setattr__"))) (no : PySem.W.findIn K (.ref C) "value" = some none) (ini : PySem.W.findIn K (.ref C) "__init__" = some (some (.ref fI))) (tI : PySem.W.typeIn K (.ref fI) = some (.type "function"))
    (l1 : K.lookup fI = some ⟨oc, od, .func (PySem.W.fnOf "__init__" qual (defArgs st) (defBody st) (defScope st) (.ref fT) kV doc pm an cdv ct), osl⟩) (c1 : PySem.W.codeIn K cdv qual = true) (k1 : PySem.W.keepIn K (.ref fI) = true)
    (lT : K.lookup fT = some ot) (dT : ot.data = .seq [Value.none].toArray n)
    (hs : ∃ a1 a2 e q1 q2 q3 q4, defArgs st = iA a1 a2 e ∧ defBody st = iB q1 q2 q3 q4 ∧ defScope st = iS) : Mke P w K mg base x C := by
  obtain ⟨a1, a2, e, q1, q2, q3, q4, e1, e2, e3⟩ := hs
  rw [e1, e2, e3] at l1
  have F : FunD K "__init__" qual (iA a1 a2 e) (iB q1 q2 q3 q4) iS [.non] [] fI (PySem.W.fnOf "__init__" qual (iA a1 a2 e) (iB q1 q2 q3 q4) iS (.ref fT) kV doc pm an cdv ct) :=
    ⟨⟨oc, od, .ref fT, kV, doc, pm, an, cdv, ct, osl, rfl, l1, c1, .inr ⟨by decide, fT, ot, [.none], n, rfl, lT, dT, .cons rfl .nil⟩, .inl rfl⟩, k1⟩
  have O : OexC K C := by
    obtain ⟨nm, q, N, bs, sn, sub, ab, col, dd, k0, k1, k2, k3, k5, e⟩ := h.cls
    exact ⟨⟨nm, q, N, bs, _, sn, sub, ab, col, dd, k0, k1, k2, k3, k5, e, hv⟩, sa, h.sub (List.mem_append_right _ (by decide)), h.tyC, h.kC⟩
  exact ⟨fI, _, h.gC, ⟨O, no, ini, tI, h.exc⟩, ini_ok F, ini_bd F⟩
end
theorem nd_map {α : Type} [DecidableEq α] : ∀ {l : List α} {i : Nat} {c : α} (k : Nat), l.Nodup → l[i]? = some c → l.map (fun d => decide (c = d)) = (List.range' k l.length).map fun j => decide (j = k + i)
  | [], _, _, _, _, h => by simp at h
  | a :: l, 0, c, k, nd, h => by
    simp at h
    subst h
    rw [List.nodup_cons] at nd
    rw [List.map_cons, List.length_cons, List.range'_succ, List.map_cons]
    congr 1
    · rw [decide_eq_true rfl, decide_eq_true (Nat.add_zero k).symm]
    · have e1 : l.map (fun d => decide (a = d)) = l.map (fun _ => false) := List.map_congr_left fun d hd => decide_eq_false fun z => nd.1 (z ▸ hd)
      have e2 : (List.range' (k + 1) l.length).map (fun j => decide (j = k + 0)) = (List.range' (k + 1) l.length).map (fun _ => false) := List.map_congr_left fun j hj => decide_eq_false (by
        have := (List.mem_range'_1.mp hj).1
        omega)
      rw [e1, e2, List.map_const', List.map_const', List.length_range']
  | a :: l, i + 1, c, k, nd, h => by
    rw [List.nodup_cons] at nd
    have hc : l[i]? = some c := by simpa using h
    have ih := nd_map (k + 1) nd.2 hc
    rw [List.map_cons, List.length_cons, List.range'_succ, List.map_cons, ih]
    congr 1
    · have m := List.mem_of_getElem? hc
      rw [decide_eq_false (fun z => nd.1 (by rw [← z]; exact m)), decide_eq_false (by omega)]
    · refine List.map_congr_left fun j _ => ?_
      congr 1
      rw [eq_iff_iff]
      constructor <;> intro z <;> omega
end TD

set_option maxHeartbeats 4000000
namespace TD
open PySem PySem.Spec PyProof.Rows L2
open Evl (Ex Ev EvA EvL EvT RV)
structure Ad where
  InvalidNumber : Addr
  InvalidRoom : Addr
  InvalidLights : Addr
  InvalidLevel : Addr
  InvalidPresses : Addr
  InvalidHistory : Addr
  InvalidRuns : Addr
  InvalidTable : Addr
  InvalidLetters : Addr
  InvalidHouse : Addr
  InvalidWalk : Addr
  InvalidWalks : Addr
  InvalidLayers : Addr
  InvalidText : Addr
  InvalidDeed : Addr
  Unlike : Addr
  TooMany : Addr
  NothingToUndo : Addr
  NothingToRedo : Addr
  DoorError : Addr
def Ad.l19 (A : Ad) : List Addr := [A.InvalidNumber, A.InvalidRoom, A.InvalidLights, A.InvalidLevel, A.InvalidPresses, A.InvalidHistory, A.InvalidRuns, A.InvalidTable, A.InvalidLetters, A.InvalidHouse, A.InvalidWalk, A.InvalidWalks, A.InvalidLayers, A.InvalidText, A.InvalidDeed, A.Unlike, A.TooMany, A.NothingToUndo, A.NothingToRedo]
structure Ck (P : Program) (w : World) (K : Fg) (mg : Str → Option Value) (base : Heap) (A : Ad) : Prop where
  InvalidNumber : Mke P w K mg base "InvalidNumber" A.InvalidNumber
  InvalidRoom : Mke P w K mg base "InvalidRoom" A.InvalidRoom
  InvalidLights : Mke P w K mg base "InvalidLights" A.InvalidLights
  InvalidLevel : Mke P w K mg base "InvalidLevel" A.InvalidLevel
  InvalidPresses : Mke P w K mg base "InvalidPresses" A.InvalidPresses
  InvalidHistory : Mke P w K mg base "InvalidHistory" A.InvalidHistory
  InvalidRuns : Mke P w K mg base "InvalidRuns" A.InvalidRuns
  InvalidTable : Mke P w K mg base "InvalidTable" A.InvalidTable
  InvalidLetters : Mke P w K mg base "InvalidLetters" A.InvalidLetters
  InvalidHouse : Mke P w K mg base "InvalidHouse" A.InvalidHouse
  InvalidWalk : Mke P w K mg base "InvalidWalk" A.InvalidWalk
  InvalidWalks : Mke P w K mg base "InvalidWalks" A.InvalidWalks
  InvalidLayers : Mke P w K mg base "InvalidLayers" A.InvalidLayers
  InvalidText : Mke P w K mg base "InvalidText" A.InvalidText
  InvalidDeed : Mke P w K mg base "InvalidDeed" A.InvalidDeed
  Unlike : Mke P w K mg base "Unlike" A.Unlike
  TooMany : Mke P w K mg base "TooMany" A.TooMany
  NothingToUndo : Mkn K mg "NothingToUndo" A.NothingToUndo
  NothingToRedo : Mkn K mg "NothingToRedo" A.NothingToRedo
  DoorError : Mkn K mg "DoorError" A.DoorError
  s_InvalidNumber : Std K mg "InvalidNumber" A.InvalidNumber [.ref A.DoorError]
  s_InvalidRoom : Std K mg "InvalidRoom" A.InvalidRoom [.ref A.DoorError]
  s_InvalidLights : Std K mg "InvalidLights" A.InvalidLights [.ref A.DoorError]
  s_InvalidLevel : Std K mg "InvalidLevel" A.InvalidLevel [.ref A.DoorError]
  s_InvalidPresses : Std K mg "InvalidPresses" A.InvalidPresses [.ref A.DoorError]
  s_InvalidHistory : Std K mg "InvalidHistory" A.InvalidHistory [.ref A.DoorError]
  s_InvalidRuns : Std K mg "InvalidRuns" A.InvalidRuns [.ref A.DoorError]
  s_InvalidTable : Std K mg "InvalidTable" A.InvalidTable [.ref A.DoorError]
  s_InvalidLetters : Std K mg "InvalidLetters" A.InvalidLetters [.ref A.DoorError]
  s_InvalidHouse : Std K mg "InvalidHouse" A.InvalidHouse [.ref A.DoorError]
  s_InvalidWalk : Std K mg "InvalidWalk" A.InvalidWalk [.ref A.DoorError]
  s_InvalidWalks : Std K mg "InvalidWalks" A.InvalidWalks [.ref A.DoorError]
  s_InvalidLayers : Std K mg "InvalidLayers" A.InvalidLayers [.ref A.DoorError]
  s_InvalidText : Std K mg "InvalidText" A.InvalidText [.ref A.DoorError]
  s_InvalidDeed : Std K mg "InvalidDeed" A.InvalidDeed [.ref A.DoorError]
  s_Unlike : Std K mg "Unlike" A.Unlike [.ref A.DoorError]
  s_TooMany : Std K mg "TooMany" A.TooMany [.ref A.DoorError]
  s_NothingToUndo : Std K mg "NothingToUndo" A.NothingToUndo [.ref A.DoorError]
  s_NothingToRedo : Std K mg "NothingToRedo" A.NothingToRedo [.ref A.DoorError]
  s_DoorError : Std K mg "DoorError" A.DoorError []
  nd : (A.DoorError :: A.l19).Nodup
section
variable {P : Program} {w : World} {K : Fg} {mg : Str → Option Value} {base : Heap} {A : Ad}
theorem Ck.std (M : Ck P w K mg base A) : ∀ C ∈ A.l19, ∃ x, Std K mg x C [.ref A.DoorError] := List.forall_mem_cons.mpr ⟨⟨_, M.s_InvalidNumber⟩, List.forall_mem_cons.mpr ⟨⟨_, M.s_InvalidRoom⟩, List.forall_mem_cons.mpr ⟨⟨_, M.s_InvalidLights⟩, List.forall_mem_cons.mpr ⟨⟨_, M.s_InvalidLevel⟩, List.forall_mem_cons.mpr ⟨⟨_, M.s_InvalidPresses⟩, List.forall_mem_cons.mpr ⟨⟨_, M.s_InvalidHistory⟩, List.forall_mem_cons.mpr ⟨⟨_, M.s_InvalidRuns⟩, List.forall_mem_cons.mpr ⟨⟨_, M.s_InvalidTable⟩, List.forall_mem_cons.mpr ⟨⟨_, M.s_InvalidLetters⟩, List.forall_mem_cons.mpr ⟨⟨_, M.s_InvalidHouse⟩, List.forall_mem_cons.mpr ⟨⟨_, M.s_InvalidWalk⟩, List.forall_mem_cons.mpr ⟨⟨_, M.s_InvalidWalks⟩, List.forall_mem_cons.mpr ⟨⟨_, M.s_InvalidLayers⟩, List.forall_mem_cons.mpr ⟨⟨_, M.s_InvalidText⟩, List.forall_mem_cons.mpr ⟨⟨_, M.s_InvalidDeed⟩, List.forall_mem_cons.mpr ⟨⟨_, M.s_Unlike⟩, List.forall_mem_cons.mpr ⟨⟨_, M.s_TooMany⟩, List.forall_mem_cons.mpr ⟨⟨_, M.s_NothingToUndo⟩, List.forall_mem_cons.mpr ⟨⟨_, M.s_NothingToRedo⟩, fun _ h => nomatch h⟩⟩⟩⟩⟩⟩⟩⟩⟩⟩⟩⟩⟩⟩⟩⟩⟩⟩⟩
theorem Ck.ne (M : Ck P w K mg base A) : ∀ C ∈ A.l19, C ≠ A.DoorError := fun C h e => (List.nodup_cons.mp M.nd).1 (e ▸ h)
theorem kd_all {x : Str} {C D : Addr} {r : List Value} (h : Std K mg x C r) (hr : ∀ d, d ≠ D → Value.ref d ∉ bmV r) : ∀ Ds : List Addr, (∀ d ∈ Ds, ∃ y, Std K mg y d [.ref D]) → (∀ d ∈ Ds, d ≠ D) → KdL K C Ds (Ds.map fun d => decide (C = d))
  | [], _, _ => .nil
  | d :: Ds, h1, h2 => by
    obtain ⟨y, hd⟩ := h1 d (List.mem_cons_self ..)
    exact .cons (h.kit hd (hr d (h2 d (List.mem_cons_self ..)))) (kd_all h hr Ds (fun e he => h1 e (List.mem_cons_of_mem _ he)) (fun e he => h2 e (List.mem_cons_of_mem _ he)))
theorem not_bm {d : Addr} {r : List Value} (h : Value.ref d ∉ r) : Value.ref d ∉ bmV r := fun z => by
  rcases List.mem_append.mp z with z | z
  · exact h z
  · simp at z
theorem Ck.kinds (M : Ck P w K mg base A) {i : Nat} {C : Addr} (h : A.l19[i]? = some C) : KdL K C A.l19 ((List.range 19).map fun j => decide (j = i)) := by
  obtain ⟨x, hx⟩ := M.std C (List.mem_of_getElem? h)
  have k := kd_all hx (D := A.DoorError) (fun d hd => not_bm (by simpa using hd)) A.l19 M.std M.ne
  have e := nd_map 0 (List.nodup_cons.mp M.nd).2 h
  have e2 : (List.range 19).map (fun j => decide (j = i)) = (List.range' 0 A.l19.length).map (fun j => decide (j = 0 + i)) := by
    rw [Nat.zero_add, List.range_eq_range']
    rfl
  rw [e2, ← e]
  exact k
theorem Ck.isV (M : Ck P w K mg base A) {C : Addr} (h : C ∈ A.l19) : PySem.W.kitOne K (.ref C) (.type "ValueError") = some true := by
  obtain ⟨x, hx⟩ := M.std C h
  exact hx.kitT (List.mem_append_right _ (by decide)) (by decide +kernel)
theorem Ck.dV (M : Ck P w K mg base A) : PySem.W.kitOne K (.ref A.DoorError) (.type "ValueError") = some true := M.s_DoorError.kitT (List.mem_append_right _ (by decide)) (by decide +kernel)
theorem Ck.exc (M : Ck P w K mg base A) {C : Addr} (h : C ∈ A.l19) : ExcC K C := let ⟨_, hx⟩ := M.std C h; hx.exc
end
theorem g_pair {K : PySem.W.Frag} {i j : Nat} {T : Addr} {x y : V} {σ : L2.St} {H : Hp} {Q : L2.St → Hp → Prop} (h : H T = some (.tup [x, y])) (q : Q ((σ.set i (some x)).set j (some y)) H) : gTup K 2 (gCons (gName i) (gCons (gName j) gNil)) (.ref T) σ H Q :=
  ⟨T, _, rfl, Evl.st_of h, rfl, _, _, rfl, _, _, rfl, rfl, q⟩
def Vok (K : Fg) (H : Hp) (v : V) : Prop := (∃ d, Da K H v d ∧ Fine d) ∧ ∀ H', Ex H H' → ∀ Q : VK, Q (.bl true) H' → rEqW K v v H' Q
theorem Vok.ex {K : Fg} {H H' : Hp} {v : V} (e : Ex H H') (h : Vok K H v) : Vok K H' v := by
  obtain ⟨⟨d, h1, h2⟩, h3⟩ := h
  exact ⟨⟨d, h1.ex e, h2⟩, fun H2 e2 => h3 H2 (e.trans e2)⟩
section
variable {σ : L2.St} {H : Hp} {te : TE} {tz : TS} {D : Ends} {i : Nat} {Cs : List Addr} {v : V}
end
end TD

set_option maxHeartbeats 4000000
namespace TD
open PySem PySem.Spec PyProof.Rows L2
open Evl (Ex)
def exk (a C d : Addr) : HO := .ext fun h => ∃ (ob : Obj) (fl : Array Value), h.get? a = some ob ∧ ob.cls = .ref C ∧ ob.dict = some d ∧ ob.data = .fields fl
theorem exk_ok {P : Program} {w : World} {H : Hp} {h : Heap} {a C d : Addr} {ob : Obj} {fl : Array Value} (e : h.get? a = some ob) (z : Zc (.ref C) (some d) ob) (k : ob.data = .fields fl) : ObjOk P w H h a (exk a C d) :=
  ⟨⟨ob, fl, e, z.1, z.2, k⟩, ⟨ob, e⟩, fun _ _ ⟨o, v, q, r⟩ st => ⟨o, v, st o q, r⟩⟩
theorem exk_at {P : Program} {w : World} {H : Hp} {h : Heap} {a C d : Addr} (ok : HOk P w H h) (e : H a = some (exk a C d)) : ∃ (ob : Obj) (fl : Array Value), h.get? a = some ob ∧ ob.cls = .ref C ∧ ob.dict = some d ∧ ob.data = .fields fl := by
  have z : ObjOk P w H h a (.ext fun h => ∃ (ob : Obj) (fl : Array Value), h.get? a = some ob ∧ ob.cls = .ref C ∧ ob.dict = some d ∧ ob.data = .fields fl) := ok a _ e
  exact z.1
section
variable {X : Cx} {pins : List (Addr × Obj)} {σ : L2.St} {H : Hp} {s : Shared} {a : Addr} {o : HO}
theorem Inv.adopt (I : Inv X pins σ H s) (n0 : X.s_0.heap.get? a = none) (nH : H a = none) (nL : a ≠ X.env.locals) (nC : ∀ x c, X.env.cells.lookup x = some c → c ≠ a) (nP : ∀ p ∈ X.pn ++ pins, p.1 ≠ a)
    (ok : ObjOk X.prog X.w (upd H a o) s.heap a o) : Inv X pins σ (upd H a o) s := by
  have other : ∀ {b : Addr}, b ≠ a → upd H a o b = H b := fun hb => upd_ne hb
  have had : ∀ {b : Addr} {u : HO}, H b = some u → b ≠ a := fun e z => by
    subst z
    rw [nH] at e
    cases e
  refine { ok := I.ok, os := I.os, bare := I.bare, base := ?_, loc := I.loc, cell := I.cell, free := ?_, freeC := ?_, pin := ?_, hok := I.hok.laidN (fun _ _ e => e) nH ok, len := I.len }
  · refine { keep := I.base.keep, slot := I.base.slot, free := ?_, there := I.base.there, tups := ?_, frzs := ?_, tbls := ?_ }
    · intro b u e n hx
      rw [other (fun z => by subst z; rw [n0] at e; cases e)]
      exact I.base.free b u e n hx
    · intro b xs e
      have q := I.base.tups b xs e
      rwa [other (had q)]
    · intro b u v e
      have q := I.base.frzs b u v e
      rwa [other (had q)]
    · intro b ps e
      obtain ⟨m, q⟩ := I.base.tbls b ps e
      exact ⟨m, by rwa [other (had q)]⟩
  · rw [other (Ne.symm nL)]
    exact I.free
  · intro x c e
    rw [other (nC x c e)]
    exact I.freeC x c e
  · intro p hp
    obtain ⟨e1, e2, e3⟩ := I.pin p hp
    exact ⟨e1, by rw [other (nP p hp)]; exact e2, e3⟩
end
def wKeep (K : Fg) (c : Value) (i : Nat) (ts : TS) (D : Ends) : WX := fun cls d σ H => ∃ C x, cls = .ref C ∧ d = some x ∧ PySem.W.exmOne K cls c = some true ∧
  ∀ a, H a = none → ts { nx := fun σ2 H2 => D.nx (σ2.set i none) (upd H2 a (exk a C x)), rt := fun _ _ => False, bk := fun _ _ => False, ct := fun _ _ => False } (σ.set i (some (.ref a))) H
section
variable {X : Cx} {x n : Str} {c : Value} {i : Nat} {body rest : List Stmt} {b0 : Stmt} {p1 p2 p3 : Pos} {tb : WX → TS} {ts : TS}
theorem ps_keep (hs : X.stack = X.env :: X.outer) (hf : X.env.frame = some X.env.locals) (hex : X.ex = []) (hN : X.N.Nodup) (hi : X.N[i]? = some n) (hln : X.env.kindOf n = some .local) (hc : Names X x c)
    (hb : ∀ (W : WX) (pn : List (Addr × Obj)) (xe : Value → Shared → Prop), Takes (X.tr pn xe) W → PassesOwn (model X.prog X.w) X.A X.env xe → PSs (X.tr pn xe) body (tb W))
    (hsu : ∀ (a : Addr) (oe : Obj) (cls : Value) (d : Option Addr) (pn : List (Addr × Obj)), Zc cls d oe → (∃ vs, oe.data = .fields vs) → PSs (X.suite a ((a, oe) :: pn)) (b0 :: rest) ts) :
    PS X (.Try body [.ExceptHandler (some (.Name x p1)) (some n) (b0 :: rest) p2] [] [] p3) (fun D σ H => tb (wKeep X.K c i ts D) D σ H) := by
  refine ⟨fun pins s σ H D I h => ?_⟩
  have Iok := I.ok
  have frm : X.A.frames = some (X.env :: X.outer) := by
    rw [Iok.frames, hs]
  refine wpAny_Try_except ?_
  let cont : Value → Shared → Prop := fun e z => wpAny (model X.prog X.w) X.A (noteFrame e X.env) (fun _ z2 => wpAny (model X.prog X.w) X.A (setFlight e none) (fun _ z3 =>
    wpAny (model X.prog X.w) X.A (handleBy e X.env [.ExceptHandler (some (.Name x p1)) (some n) (b0 :: rest) p2]) (SP X pins D) X.xe z3) X.xe z2) X.xe z
  have caught : Takes (X.tr (X.pn ++ pins) cont) (wKeep X.K c i ts D) := by
    rintro _ z ⟨a, B, zI, pins2, σ2, H2, cls, d, rfl, J0, nb, up, sky, na, eo, bare, C, xd, rfl, rfl, yes, go⟩
    have J : Inv X pins σ2 H2 zI := J0.ofTry Iok
    rw [show (X.tr (X.pn ++ pins) cont).stack = X.env :: X.outer from hs] at sky
    show wpAny (model X.prog X.w) X.A (noteFrame (.ref a) X.env) _ _ _
    refine Sky.land Zc.steady frm hf sky fun hA flA upA => ?_
    have JA : Inv X pins σ2 H2 { z with heap := hA } := J.landed nb flA.1 (up.trans upA) eo bare
    obtain ⟨oA, vA, eA, zA, dA⟩ := flA.there
    have nfr : a ∉ frs (X.env :: X.outer) := fun hm => by
      obtain ⟨_, o2, e2, nf⟩ := flA.2.2.1.mem hm
      rw [eA] at e2
      cases e2
      exact nf _ dA
    have nL : a ≠ X.env.locals := fun q => nfr (List.mem_filterMap.mpr ⟨X.env, List.mem_cons_self, by rw [hf, q]⟩)
    have nF : a ∉ X.fs := fun hm => by
      obtain ⟨e, he, q⟩ := List.mem_filterMap.mp hm
      exact nfr (List.mem_filterMap.mpr ⟨e, List.mem_cons_of_mem _ he, q⟩)
    have SA := JA.suite eA dA na nL nF
    have nI : zI.heap.get? a = none := by
      cases q : zI.heap.get? a with
      | none => rfl
      | some u =>
        have r := nb a u q (by rw [show (X.tr (X.pn ++ pins) cont).stack = X.env :: X.outer from hs]; exact nfr)
        rw [flA.2.1] at r
        cases r
    have n0 : X.s_0.heap.get? a = none := by
      cases q : X.s_0.heap.get? a with
      | none => rfl
      | some u =>
        obtain ⟨u2, r⟩ := J.base.there a u q (by rw [hex]; exact fun w => nomatch w)
        rw [nI] at r
        cases r
    have nC : ∀ y cc, X.env.cells.lookup y = some cc → cc ≠ a := fun y cc e q => by
      obtain ⟨v, o, ho, _⟩ := J.cell y cc e
      rw [q, nI] at ho
      cases ho
    have nP : ∀ p ∈ X.pn ++ pins, p.1 ≠ a := fun p hp q => by
      have r := (J.pin p hp).1
      rw [q, nI] at r
      cases r
    refine wpAny_handleBy_cons (codeAny_handlers_test ?_) (fun q => nomatch q)
    have ty : PySem.W.Looks (model X.prog X.w) hA (typeOf (.ref a)) (.ref C) := fun _ _ _ _ k q => wpAny_typeOf_ref (k _ _ eA) (by
      rw [zA.1]
      exact q)
    have LK := PySem.W.exm_one (M := model X.prog X.w) (JA.kIn) ty yes
    have name : ∀ {Q : Value → Shared → Prop} {E : Value → Shared → Prop}, Q c { z with heap := hA } → wpAny (model X.prog X.w) (X.A.mark (some (.ref a))) (eval (.Name x p1) X.env) Q E { z with heap := hA } := fun q => by
      obtain ⟨hg, hd, hm | ⟨hm, hv, hn⟩⟩ := hc
      · exact ld_glob (X := X.suite a ((a, oA) :: (X.pn ++ pins))) SA hg hm q hd
      · exact ld_blt (X := X.suite a ((a, oA) :: (X.pn ++ pins))) SA hg hm hv q hn hd
    refine name (LK.here (codeAny_handlers_suite_as ?_))
    refine HandSPX.lands_againZ flA fun hB flB upB => ?_
    have JB : Inv X pins σ2 H2 { z with heap := hB } := J.landed nb flB.1 ((up.trans upA).trans upB) eo bare
    obtain ⟨oB, vB, eB, zB, dB⟩ := flB.there
    refine store_ok (X := X.suite a ((a, oB) :: (X.pn ++ pins))) (v := .ref a) (JB.suite eB dB na nL nF) hN hi (.inl hln) rfl (fun z5 S5 => ?_) (.inr hln)
    refine wpAny_mono ((hsu a oB (.ref C) (some xd) (X.pn ++ pins) zB ⟨_, dB⟩).run [] z5 _ H2 _ S5 (go a na)) (fun f z6 sp => ?_) (fun _ _ q => q.elim)
    cases f with
    | next =>
      obtain ⟨σ6, H6, S6, q6⟩ := sp
      obtain ⟨e6, m6, _⟩ := S6.pin (a, oB) (List.mem_append_left _ List.mem_cons_self)
      have J6 : Inv X pins σ6 (upd H6 a (exk a C xd)) z6 := Inv.adopt (S6.unsuite Iok) n0 m6 nL nC nP (exk_ok e6 zB dB)
      exact gone_ok J6 hN hi hln fun z7 J7 => ⟨_, _, J7, q6⟩
    | brk => exact (let ⟨_, _, _, q⟩ := sp; False.elim q)
    | cont => exact (let ⟨_, _, _, q⟩ := sp; False.elim q)
    | ret u => exact (let ⟨_, _, _, _, _, q⟩ := sp; False.elim q)
  refine wpAny_mono ((hb _ (X.pn ++ pins) cont caught PassesOwn.looking).run [] s σ H D (I.toTry _) h) (fun f z sp => ?_) (fun _ _ q => q)
  cases f with
  | next => exact (let ⟨σ2, H2, J, q⟩ := sp; wpAny_execs_nil ⟨σ2, H2, J.ofTry Iok, q⟩)
  | brk => exact (let ⟨σ2, H2, J, q⟩ := sp; ⟨σ2, H2, J.ofTry Iok, q⟩)
  | cont => exact (let ⟨σ2, H2, J, q⟩ := sp; ⟨σ2, H2, J.ofTry Iok, q⟩)
  | ret u => exact (let ⟨v, σ2, H2, J, r, q⟩ := sp; ⟨v, σ2, H2, J.ofTry Iok, r, q⟩)
end
end TD

set_option maxHeartbeats 4000000
namespace TD
open PySem PySem.Spec PyProof.Rows L2
open Evl (Ex)
abbrev xdV (v : V) : HO := .xd [(("value" : Str), v)]
def SpX (K : Fg) (R : List PyData → PyData → Prop) (RX : List PyData → Addr → Nat → Prop) : Sp := fun vs H Q E => ∃ B ds, Ex B H ∧ Das K B vs ds ∧
  ((∃ d, R ds d ∧ ∀ v B' H', Le B H B' H' → Da K B' v d → Q v H') ∨
   (∃ C i v, RX ds C i ∧ vs[i]? = some v ∧ ∀ x B' H', Le B H B' H' → H' x = some (xdV v) → E (.ref C) (some x) H'))
section
variable (P : Program) (w : World) (K : Fg) (mg : Str → Option Value) (base : Heap)
def Fx (x : Str) (ps : List Str) (k : Nat) (sp : Sp) : Prop :=
  ∃ (f : Addr) (fd : FuncData), mg x = some (.ref f) ∧ PySem.W.keepIn K (.ref f) = true ∧ Binds K fd ps [] ∧ FnG P w K mg base (L2.CX P w) k f fd ps sp
end
def XZ (K : Fg) (E : XK) (t : TS) (ρ : En) (C : Addr) (i : Nat) : Prop := ∀ σ B H D, Ex B H → SD K B σ ρ → ∀ v, σ[i]? = some (some v) →
  (∀ x B' H', Le B H B' H' → H' x = some (xdV v) → E (.ref C) (some x) H') → t D σ H
def EAi (K : Fg) (ta : TA) (ρ : En) (ds : List PyData) (j i : Nat) : Prop := ∀ σ B H, Ex B H → SD K B σ ρ → ∀ v, σ[i]? = some (some v) →
  ∀ Q : List V → Hp → Prop, (∀ vs B' H', Le B H B' H' → Das K B' vs ds → vs[j]? = some v → Q vs H') → ta σ H Q
def tRz (C : Addr) (ta : TA) (W : WX) : TS := fun _ σ H => ta σ H fun vs H1 => ∃ v, vs = [v] ∧ ∀ d, H1 d = none → W (.ref C) (some d) σ (upd H1 d (xdV v))
section
variable {K : Fg} {E : XK} {t u : TS} {ρ ρ1 : En} {C : Addr} {i j k : Nat} {ta : TA} {te : TE} {tt : TT} {d e : PyData} {ds : List PyData} {o : Out}
theorem eai_here {tr : TA} (hd : ρ[i]? = some (some d)) (h : EA K tr ρ ds) : EAi K (tCons (tVar i) tr) ρ (d :: ds) 0 i := fun σ B H s sd v hv Q q => by
  obtain ⟨v', e, hv'⟩ := sd.2 i d hd
  rw [hv] at e
  cases e
  exact ⟨v, hv, h σ B H s sd _ fun vs B' H' l dd => q (v :: vs) B' H' l (.cons (hv'.ex l.ek) dd) rfl⟩
theorem eai_next {tr : TA} (h : ED K te ρ d) (hr : EAi K tr ρ ds j i) : EAi K (tCons te tr) ρ (d :: ds) (j + 1) i := fun σ B H s sd v hv Q q =>
  h σ B H s sd _ fun x B1 H1 l1 d1 => hr σ B1 H1 l1.sub (sd.up l1.ek) v hv _ fun vs B2 H2 l2 d2 e => q (x :: vs) B2 H2 (l1.tr l2) (.cons (d1.ex l2.ek) d2) (by simpa using e)
theorem xz_if1 (h : ET K tt ρ true) (h1 : XZ K E t ρ C i) : XZ K E (tIfS tt t u) ρ C i := fun σ B H D s sd v hv q =>
  h σ B H s sd _ fun B1 H1 l1 => by
    show t D σ H1
    exact h1 σ B1 H1 D l1.sub (sd.up l1.ek) v hv fun x B2 H2 l2 => q x B2 H2 (l1.tr l2)
theorem xz_here (h : XZ K E t ρ C i) : XZ K E (tSeq t u) ρ C i := fun σ B H D s sd v hv q => h σ B H _ s sd v hv q
def XSi (K : Fg) (i : Nat) (t : TS) (ρ ρ1 : En) : Prop := ∀ σ B H (D : Ends), Ex B H → SD K B σ ρ → (∀ σ' B' H', Le B H B' H' → SD K B' σ' ρ1 → σ'[i]? = σ[i]? → D.nx σ' H') → t D σ H
theorem xz_then (h : XSi K i t ρ ρ1) (h1 : XZ K E u ρ1 C i) : XZ K E (tSeq t u) ρ C i := fun σ B H D s sd v hv q =>
  h σ B H _ s sd fun σ' B1 H1 l1 s1 e => h1 σ' B1 H1 D l1.sub s1 v (e.trans hv) fun x B2 H2 l2 => q x B2 H2 (l1.tr l2)
theorem xi_skip (h : ET K tt ρ false) : XSi K i (tIfS tt t tNext) ρ ρ := fun σ B H D s sd q => h σ B H s sd _ fun B1 H1 l1 => q σ B1 H1 l1 (sd.up l1.ek) rfl
theorem xz_ret {R : List PyData → PyData → Prop} {RX : List PyData → Addr → Nat → Prop} (h : EAi K ta ρ ds j i) (hR : RX ds C j) : XZ K E (tRet (tCallS (SpX K R RX) (WE fun c d _ H => E c d H) ta)) ρ C i := fun σ B H D s sd v hv q =>
  h σ B H s sd v hv _ fun vs B1 H1 l1 d1 e => ⟨B1, ds, l1.sub, d1, .inr ⟨C, j, v, hR, e, fun x B2 H2 l2 => q x B2 H2 (l1.tr l2)⟩⟩
theorem ed_callS {R : List PyData → PyData → Prop} {RX : List PyData → Addr → Nat → Prop} {Ew : L2.St → XK} (h : EA K ta ρ ds) (hR : R ds d) : ED K (tCallS (SpX K R RX) Ew ta) ρ d := fun σ B H s sd Q q =>
  h σ B H s sd _ fun vs B1 H1 l1 d1 => ⟨B1, ds, l1.sub, d1, .inl ⟨d, hR, fun v B2 H2 l2 d2 => q v B2 H2 (l1.tr l2) d2⟩⟩
end
section
variable {P : Program} {w : World} {K : Fg} {mg : Str → Option Value} {base : Heap} {x : Str} {ps N : List Str} {k : Nat} {st : Stmt}
theorem fx_mk {R : List PyData → PyData → Prop} {RX : List PyData → Addr → Nat → Prop} (a : At K mg x st) (S : FnScope N ps (defScope st))
    (hb : ∀ (kV doc pm : Value) (an : Option Addr) (cdv ct : Value) (us : List Value), us.length = ps.length → bindArgs (PySem.W.fnOf x x (defArgs st) (defBody st) (defScope st) .none kV doc pm an cdv ct) ⟨us, []⟩ = pure (ps.zip us))
    (hl : ∀ ds d, R ds d → ds.length = ps.length) (hl2 : ∀ ds C i, RX ds C i → ds.length = ps.length)
    (body : ∀ (f : Addr) (cdv : Value) (A : Around) (outer : List Env) (s : Shared) (H : Hp) (E : XK), A.guards = some [] → Room k (A.deeper (envOfC x (defScope st) s.heap.objs.size f cdv)) →
      Takes (cxOf (L2.CX P w) P w K mg base N x (defScope st) f cdv A outer s H E) (fun c d _ H => E c d H) →
      ∃ t, PSs (cxOf (L2.CX P w) P w K mg base N x (defScope st) f cdv A outer s H E) (defBody st) t ∧ (∀ ds d, R ds d → XR K t (enOf N ds) d) ∧ ∀ ds C i, RX ds C i → XZ K E t (enOf N ds) C i) : Fx P w K mg base x ps (k + 1) (SpX K R RX) := by
  obtain ⟨f, fd, F, hm⟩ := a
  refine ⟨f, fd, hm, F.kp, F.binds hb, fnG F S ?_ ?_⟩
  · rintro vs H Q E ⟨B, ds, _, h, r⟩
    rcases r with ⟨d, r, _⟩ | ⟨C, i, v, r, _⟩
    · exact h.len.trans (hl ds d r)
    · exact h.len.trans (hl2 ds C i r)
  intro cdv A outer s H vs Q E gu hr ⟨B, ds, sx, hd, r⟩
  obtain ⟨t, ht, h1, h2⟩ := body f cdv A outer s H E gu hr (takes_of rfl rfl rfl rfl)
  refine ⟨t, ht, ?_⟩
  have sd := sd_start (N := N) hd
  rcases r with ⟨d, r, q⟩ | ⟨C, i, v, r, hv, q⟩
  · rcases h1 ds d r with h | ⟨rfl, ρ', h⟩
    · exact h _ B H _ sx sd q
    · exact h _ B H _ sx sd fun σ' B' H' l _ => q _ B' H' l .non
  · have hi : i < vs.length := (List.getElem?_eq_some_iff.mp hv).1
    refine h2 ds C i r _ B H _ sx sd v ?_ q
    unfold L2.start
    rw [List.getElem?_append_left (by rw [List.length_map]; exact hi), List.getElem?_map, hv]
    rfl
end
section
variable {X : Cx} {CX : CXT} {k : Nat} {f : Addr} {fd : FuncData} {ps : List Str} {sp : Sp} {x : Str} {p pos pos2 : Pos} {e : Expr} {es : List Expr} {t ta : TA} {E : L2.St → XK} {C : Addr} {W : WX}
theorem runGS {pins : List (Addr × Obj)} {σ : L2.St} {H : Hp} {s : Shared} {Q : VK} {us : List Value} {vs : List V} {Ex' : XK}
    (F : FnG X.prog X.w X.K X.mg X.base CX k f fd ps sp) (hg : X.A.guards = some []) (hr : Room k X.A)
    (hb : Binds X.K fd ps []) (hx : PassesAt CX X σ Ex') (I : Inv X pins σ H s) (r : Vals vs us) (h : sp vs H Q Ex') :
    wpAny (model X.prog X.w) X.A (call (.ref f) us) (EP X pins σ Q) X.xe s := by
  have b := hb s us I.kIn (by rw [List.append_nil, ← r.length]; exact F.ln _ _ _ _ h)
  rw [List.append_nil] at b
  refine wpAny_call (codeAny_mono (F.go X.A X.stack s H _ us vs Q Ex' hg hr I.env0 b r h) ?_)
  intro rs s2 hq
  match rs, hq with
  | .error e, hq => exact hx pins H s e s2 I hq
  | .ok (.ret u), hq => exact I.after hq
  | .ok .next, hq => exact hq.elim
  | .ok .brk, hq => exact hq.elim
  | .ok .cont, hq => exact hq.elim
theorem pe_fx (c : Fx X.prog X.w X.K X.mg X.base x ps k sp) (gu : X.A.guards = some []) (hr : Room k X.A) (hg : Gl X x) (hx : ∀ σ, PassesAt (L2.CX X.prog X.w) X σ (E σ)) (ha : PA X (e :: es) t)
    (d1 : (x == ("__debug__" : Str)) = false := by decide)
    (d2 : starEach (e :: es) X.env = (false, eval e X.env) :: starEach es X.env := by rfl)
    (d3 : (backTo pos (starEach es X.env)).any (·.1) = false := by rfl) :
    PE X (.Call (.Name x p) (e :: es) [] pos) (tCallS sp E t) := by
  obtain ⟨f, fd, hm, kp, hb, F⟩ := c
  refine ⟨fun pins s σ H Q I h => wpAny_Call_Name_kw (ld_glob I hg hm ?_ d1)⟩
  refine PySem.W.callWith_K (h₀ := X.base) I.ok.mod.kin kp (thn (ha.run pos pins s σ H _ I h) ?_) d2 d3
  intro us s1 ⟨vs, H1, I1, r, q⟩
  exact ⟨I1.kIn, runGS F gu hr hb (hx σ) I1 r q⟩
theorem pa_mono (h : PA X es t) : PA X es (fun σ H Q => ∃ P, t σ H P ∧ ∀ vs H', P vs H' → Q vs H') :=
  ⟨fun ps pins s σ H Q I ⟨P, h1, h2⟩ => wpAny_mono (h.run ps pins s σ H P I h1) (fun us s1 ⟨vs, H1, I1, r, q⟩ => ⟨vs, H1, I1, r, h2 _ _ q⟩) fun _ _ z => z⟩
theorem xd_upd {H1 : Hp} {a d : Addr} {v : V} {o o2 o3 : HO} (ha : H1 a = none) (hd : d ≠ a) : upd (L2.del (upd (upd (upd H1 a o) d o2) a o3) a) d (xdV v) = upd H1 d (xdV v) := by
  funext b
  by_cases e : b = d
  · rw [e, upd_same, upd_same]
  · rw [upd_ne e, upd_ne e]
    by_cases e2 : b = a
    · rw [e2, L2.del_same, ha]
    · rw [L2.del_ne e2, upd_ne e2, upd_ne e, upd_ne e2]
theorem ps_rz (c : Mke X.prog X.w X.K X.mg X.base x C) (hc : X.calm = true) (tk : Takes X W) (hr : Room 2 X.A) (hg : Gl X x) (ha : PA X [e] ta)
    (d1 : (x == ("__debug__" : Str)) = false := by decide) (d2 : starEach [e] X.env = (false, eval e X.env) :: starEach [] X.env := by rfl) (d3 : (backTo pos (starEach [] X.env)).any (·.1) = false := by rfl) :
    PS X (.Raise (some (.Call (.Name x p) [e] [] pos)) none pos2) (tRz C ta W) := by
  obtain ⟨fI, fd, hm, T, F, b⟩ := c
  have hb : Binds X.K fd ["self", "value"] [] := fun s us hK hl => by
    rw [List.append_nil] at hl
    match us, hl with
    | [z, u], _ => exact b.b1 s z u hK
  have m := pmk_oex (p := p) (ds := []) (dvs := []) T.o T.ini T.tI F hr hb .nil pass0 hg hm (pa_mono ha) d1 d2 d3
  refine ⟨fun pins s σ H D I h => (ps_raise (W := W) (pos := pos2) hc tk m).run pins s σ H D I ?_⟩
  refine ⟨_, h, fun vs H1 ⟨v, ev, q⟩ => ⟨by subst ev; exact (by decide : 1 ≤ 1000), fun a hn => ?_⟩⟩
  subst ev
  refine ⟨a, C, v, rfl, T.o, T.no, upd_same, fun dx hdx ne => ?_⟩
  rw [upd_ne ne] at hdx
  have z := q dx hdx
  rw [← xd_upd (o := exo a C none) (o2 := exd dx [(("value" : Str), v)]) (o3 := exo a C (some dx)) hn ne] at z
  refine ⟨rfl, dx, [(("value" : Str), v)], upd_same, ?_, hdx, z⟩
  rw [upd_ne ne, upd_same]
end
end TD

set_option maxHeartbeats 4000000
namespace TD
open PySem PySem.Spec PyProof.Rows L2
open Evl (Ex)
def Callee (X : Cx) (f : Addr) (sp : Sp) : Prop := ∃ (fd : FuncData) (ps : List Str) (k : Nat), PySem.W.keepIn X.K (.ref f) = true ∧ Binds X.K fd ps [] ∧ Room k X.A ∧ FnG X.prog X.w X.K X.mg X.base (L2.CX X.prog X.w) k f fd ps sp
def tCallF (CP : Addr → Sp → Prop) (tf : TE) (E : L2.St → XK) (t : TA) : TE := fun σ H Q => tf σ H fun v H1 => ∃ f sp, v = .ref f ∧ CP f sp ∧ t σ H1 fun vs H2 => sp vs H2 Q (E σ)
section
variable {X : Cx} {fn e : Expr} {es : List Expr} {pos : Pos} {tf : TE} {t : TA} {E : L2.St → XK}
theorem pe_callF (gu : X.A.guards = some []) (hx : ∀ σ, PassesAt (L2.CX X.prog X.w) X σ (E σ)) (hf : PE X fn tf) (ha : PA X (e :: es) t)
    (d0 : eval (.Call fn (e :: es) [] pos) X.env = (do
      let f ← eval fn X.env
      callWith pos f [] (backTo pos (starEach (e :: es) X.env)) (backToKw pos (keywordEach [] X.env))) := by rfl)
    (d2 : starEach (e :: es) X.env = (false, eval e X.env) :: starEach es X.env := by rfl)
    (d3 : (backTo pos (starEach es X.env)).any (·.1) = false := by rfl) :
    PE X (.Call fn (e :: es) [] pos) (tCallF (Callee X) tf E t) := by
  refine ⟨fun pins s σ H Q I h => ?_⟩
  rw [d0]
  refine wpAny_bind (thn (hf.run pins s σ H _ I h) fun u s1 ⟨v, H1, I1, r1, f, sp, ev, ⟨fd, ps, k, kp, hb, hr, F⟩, q⟩ => ?_)
  subst ev
  cases (show u = Value.ref f from r1)
  refine PySem.W.callWith_K (h₀ := X.base) I1.ok.mod.kin kp (thn (ha.run pos pins s1 σ H1 _ I1 q) ?_) d2 d3
  intro us s2 ⟨vs, H2, I2, r, q2⟩
  exact ⟨I2.kIn, runGS F gu hr hb (hx σ) I2 r q2⟩
end
def EF (K : Fg) (te : TE) (ρ : En) (f : Addr) : Prop := ∀ σ B H, Ex B H → SD K B σ ρ → ∀ Q : VK, (∀ B' H', Le B H B' H' → Q (.ref f) H') → te σ H Q
def EVs (ta : TA) (vs : List V) : Prop := ∀ σ H (Q : List V → Hp → Prop), Q vs H → ta σ H Q
theorem evs_nil : EVs tNil [] := fun _ _ _ q => q
theorem evs_cons {v : V} {tr : TA} {vs : List V} (h : EVs tr vs) : EVs (tCons (tC v) tr) (v :: vs) := fun σ H Q q => h σ H _ q
section
variable {K : Fg} {ρ : En} {ta tb : TA} {te tf : TE} {E : XK} {i : Nat} {fs : List Addr} {f : Addr}
theorem ef_ix (ha : EVs ta (fs.map V.ref)) (hi : ED K te ρ (.int (i : Int))) (hf : fs[i]? = some f) (hz : fs.length ≤ 1000) : EF K (tOp (rIxL K) (tLst ta) te) ρ f := fun σ B H s sd Q q =>
  ha σ H _ ⟨by rw [List.length_map]; exact Evl.sz_of (by omega), fun p hp => by
    have l : Le B H B (upd H p (.lst (fs.map V.ref))) := ⟨Ex.new hp, Ex.refl B, s.trans (Ex.new hp), fun _ h _ => h⟩
    refine hi σ B _ l.sub sd _ fun v B1 H1 l1 d1 => ?_
    cases d1
    refine ⟨p, fs.map V.ref, (i : Int), .ref f, rfl, rfl, SqL.of (l1.ex _ _ upd_same), atI_nat (j := i) (by rw [List.getElem?_map, hf]; rfl), q B1 H1 (l.tr l1)⟩⟩
end
end TD

set_option maxHeartbeats 4000000
namespace TD
open PySem PySem.Spec PyProof.Rows L2
open Evl (Ex)
section
variable {K : Fg} {E : XK} {t u : TS} {ρ : En} {C f : Addr} {j i n : Nat} {as : List PyData} {tt : TT} {tf : TE} {ta : TA} {CP : Addr → Sp → Prop} {R : List PyData → PyData → Prop} {RX : List PyData → Addr → Nat → Prop}
theorem Fx.callee {X : Cx} {x : Str} {ps : List Str} {k : Nat} {sp : Sp} {a : Addr} (c : Fx X.prog X.w X.K X.mg X.base x ps k sp) (hr : Room k X.A) (hm : X.mg x = some (.ref a)) : Callee X a sp := by
  obtain ⟨f, fd, hm', kp, hb, F⟩ := c
  rw [hm] at hm'
  cases hm'
  exact ⟨fd, ps, k, kp, hb, hr, F⟩
theorem Fx.up {P : Program} {w : World} {K : Fg} {mg : Str → Option Value} {base : Heap} {x : Str} {ps : List Str} {k m : Nat} {sp : Sp} (c : Fx P w K mg base x ps k sp) (h : k ≤ m) : Fx P w K mg base x ps m sp := by
  obtain ⟨f, fd, hm, kp, hb, F⟩ := c
  exact ⟨f, fd, hm, kp, hb, F.up h⟩
theorem Fx.at {P : Program} {w : World} {mg : Str → Option Value} {base : Heap} {x : Str} {ps : List Str} {k : Nat} {sp : Sp} (c : Fx P w K mg base x ps k sp) : ∃ a, mg x = some (.ref a) := let ⟨f, _, hm, _⟩ := c; ⟨f, hm⟩
end
end TD

set_option maxHeartbeats 4000000
namespace TD
open PySem PySem.Spec PyProof.Rows L2
open Evl (Ex)
def Cau (H : Hp) (a C : Addr) (v : V) : Prop := ∃ x, H a = some (exk a C x) ∧ H x = some (xdV v)
theorem Cau.ex {H H' : Hp} {a C : Addr} {v : V} (e : Ex H H') (h : Cau H a C v) : Cau H' a C v := let ⟨x, h1, h2⟩ := h; ⟨x, e _ _ h1, e _ _ h2⟩
def rIsK (K : Fg) : List V → Hp → VK → Prop := fun xs H Q => ∃ (a C : Addr) (v c : V) (cv : Value) (b : Bool), xs = [.ref a, c] ∧ Cau H a C v ∧ ExcC K C ∧ ClsV c cv ∧ PySem.W.kitOne K (.ref C) cv = some b ∧ Q (.bl b) H
def tValK (K : Fg) (te : TE) : TE := fun σ H Q => te σ H fun x H1 => ∃ a C v, x = .ref a ∧ Cau H1 a C v ∧ ExcC K C ∧ PySem.W.findIn K (.ref C) "value" = some none ∧ Q v H1
section
variable {X : Cx} {pins : List (Addr × Obj)} {σ : L2.St} {H : Hp} {s : Shared}
theorem cau_at (I : Inv X pins σ H s) {a C : Addr} {v : V} (h : Cau H a C v) : ∃ ox od z, PySem.W.InstAt s.heap a ox C (some od) ∧ PySem.W.lookIn ("value" : Str) od = some (some z) ∧ RelV v z := by
  obtain ⟨x, h1, h2⟩ := h
  obtain ⟨ob, fl, e1, e2, e3, e4⟩ := exk_at I.hok h1
  have q : ObjOk X.prog X.w H s.heap x (xdV v) := I.hok x _ h2
  obtain ⟨mA, hn, hr⟩ := q
  obtain ⟨od, ho, hl⟩ := lookIn_ns hn
  have l : List.lookup ("value" : Str) [(("value" : Str), v)] = some v := by simp [List.lookup]
  obtain ⟨z, hz, rz⟩ := RelO.some_of (v := v) (o := mA "value") (by rw [← l]; exact hr "value")
  exact ⟨ob, od, z, ⟨e1, e2, by unfold PySem.W.notCls; rw [e4] <;> rfl, by rw [e3]; exact ho⟩, by rw [hl, hz], rz⟩
theorem call_isK : CallR X (.builtin "isinstance") (rIsK X.K) := by
  intro pins s σ H xs us Q I r h
  obtain ⟨a, C, v, c, cv, b, rfl, hx, T, k, e, q⟩ := h
  obtain ⟨u1, u2, rfl, r1, r2⟩ := vals2 r
  have e2 := k.eq r2
  subst e2
  cases (show u1 = Value.ref a from r1)
  obtain ⟨ox, od, _, J, _⟩ := cau_at I hx
  exact PySem.W.kia_one (PySem.W.kitx_exc (ox := ox) (od := some od) (cls_some T.hd) T.hg T.hk T.hs T.ha T.hn T.ht T.hm) I.kIn J e (fun z => nomatch z) fun tk => ⟨.bl b, H, I.tok tk, rfl, q⟩
theorem pe_valueK {e : Expr} {te : TE} {pos : Pos} (he : PE X e te) (hb : attributeBase e "value" X.env (eval e X.env) = eval e X.env := by rfl) : PE X (.Attribute e "value" pos) (tValK X.K te) := by
  refine ⟨fun pins s σ H Q I h => attr_of hb (thn (he.run pins s σ H _ I h) ?_)⟩
  intro u s1 ⟨x, H1, I1, rx, a, C, v, ex, hc, T, no, q⟩
  subst ex
  cases (show u = Value.ref a from rx)
  obtain ⟨ox, od, z, J, hz, rz⟩ := cau_at I1 hc
  exact HandSPX.exc_get I1.kIn J T.hg T.hk T.hs (PySem.W.findObj_own T.hd no rfl hz) (handed_of rz) ⟨v, H1, I1.tok _, rz, q⟩
end
structure Stab (J : L2.St → Hp → Prop) : Prop where
  ex : ∀ σ H H', Ex H H' → J σ H → J σ H'
def EDJ (K : Fg) (J : L2.St → Hp → Prop) (te : TE) (ρ : En) (d : PyData) : Prop := ∀ σ B H, Ex B H → SD K B σ ρ → J σ H → ∀ Q : VK, (∀ v B' H', Le B H B' H' → Da K B' v d → Q v H') → te σ H Q
def EAJ (K : Fg) (J : L2.St → Hp → Prop) (ta : TA) (ρ : En) (ds : List PyData) : Prop := ∀ σ B H, Ex B H → SD K B σ ρ → J σ H → ∀ Q : List V → Hp → Prop, (∀ vs B' H', Le B H B' H' → Das K B' vs ds → Q vs H') → ta σ H Q
def ETJ (K : Fg) (J : L2.St → Hp → Prop) (tt : TT) (ρ : En) (b : Bool) : Prop := ∀ σ B H, Ex B H → SD K B σ ρ → J σ H → ∀ Q : Bool → Hp → Prop, (∀ B' H', Le B H B' H' → Q b H') → tt σ H Q
section
variable {K : Fg} {J : L2.St → Hp → Prop} {ta tr : TA} {te ta1 tb1 : TE} {tt tu : TT} {ρ : En} {d x y z : PyData} {ds : List PyData} {a b : Bool} {r : R2}
theorem edj_of (h : ED K te ρ d) : EDJ K J te ρ d := fun σ B H s sd _ => h σ B H s sd
theorem etj_of (h : ET K tt ρ b) : ETJ K J tt ρ b := fun σ B H s sd _ => h σ B H s sd
theorem eaj_nil : EAJ K J tNil ρ [] := fun σ B H s sd _ => ea_nil σ B H s sd
theorem eaj_cons (S : Stab J) (h : EDJ K J te ρ x) (hr : EAJ K J tr ρ ds) : EAJ K J (tCons te tr) ρ (x :: ds) := fun σ B H s sd j Q q =>
  h σ B H s sd j _ fun v B1 H1 l1 d1 => hr σ B1 H1 l1.sub (sd.up l1.ek) (S.ex _ _ _ l1.ex j) _ fun vs B2 H2 l2 d2 => q (v :: vs) B2 H2 (l1.tr l2) (.cons (d1.ex l2.ek) d2)
theorem edj_lst (h : EAJ K J ta ρ ds) (hl : ds.length ≤ 100000 := by first | exact Nat.le_of_ble_eq_true rfl | omega) : EDJ K J (tLst ta) ρ (.list ds) := fun σ B H s sd j Q q =>
  h σ B H s sd j _ fun vs B1 H1 l1 d1 => ⟨das_big d1 hl, fun p hp => q _ _ _ (l1.tr (Le.new l1.sub hp)) (.lst upd_same (d1.ex (Le.new (o := .lst vs) l1.sub hp).ek))⟩
theorem edj_op (S : Stab J) (h1 : EDJ K J ta1 ρ x) (h2 : EDJ K J tb1 ρ y) (hr : R2D K r x y z) : EDJ K J (tOp r ta1 tb1) ρ z := fun σ B H s sd j Q q =>
  h1 σ B H s sd j _ fun v B1 H1 l1 d1 => h2 σ B1 H1 l1.sub (sd.up l1.ek) (S.ex _ _ _ l1.ex j) _ fun u B2 H2 l2 d2 => hr v u B2 H2 l2.sub (d1.ex l2.ek) d2 Q fun t B3 H3 l3 d3 => q t B3 H3 ((l1.tr l2).tr l3) d3
end
def JC (i : Nat) (a C : Addr) (v : V) : L2.St → Hp → Prop := fun σ H => σ[i]? = some (some (.ref a)) ∧ Cau H a C v
theorem jc_stab {i : Nat} {a C : Addr} {v : V} : Stab (JC i a C v) := ⟨fun _ _ _ e h => ⟨h.1, h.2.ex e⟩⟩
section
variable {K : Fg} {ρ : En} {i : Nat} {a C : Addr} {v : V} {d : PyData} {b : Bool} {c : V} {cv : Value}
theorem edj_isK (T : ExcC K C) (hc : ClsV c cv) (e : PySem.W.kitOne K (.ref C) cv = some b) : EDJ K (JC i a C v) (tCB (rIsK K) (tCons (tVar i) (tCons (tC c) tNil))) ρ (.bool b) := fun σ B H s sd j Q q =>
  ⟨.ref a, j.1, a, C, v, c, cv, b, rfl, j.2, T, hc, e, q _ B H (Le.rfl' s) (.bl b)⟩
end
section
variable {D : Ends} {σ : L2.St} {H : Hp} {t t1 t2 u : TS} {te : TE} {ta : TA} {tt : TT} {i j l : Nat}
theorem q_any (h : t { D with nx := t2 D } σ H) : tSeq t t2 D σ H := h
theorem q_par (h : ta σ H fun vs H1 => ∃ u v, vs = [u, v] ∧ t2 D ((σ.set i (some u)).set j (some v)) H1) : tSeq (tPar i j ta) t2 D σ H := h
theorem q_asg (h : te σ H fun v H1 => t2 D (σ.set i (some v)) H1) : tSeq (tAsg te (gName i)) t2 D σ H := h
theorem q_drop (h : te σ H fun _ H1 => t2 D σ H1) : tSeq (tDrop te) t2 D σ H := h
theorem q_if (h : tt σ H fun b H1 => if b = true then t { D with nx := t2 D } σ H1 else u { D with nx := t2 D } σ H1) : tSeq (tIfS tt t u) t2 D σ H := h
theorem q_ifS (h : tt σ H fun b H1 => if b = true then t D σ H1 else u D σ H1) : tIfS tt t u D σ H := h
end
section
variable {K : Fg} {s i0 i1 : Nat} {ta : TA} {tb : TS} {ds es : List PyData}
end
end TD

set_option maxHeartbeats 4000000
namespace TD
open PySem PySem.Spec PyProof.Rows L2
open Evl (Ex)
def DueAt (i n : Nat) (σ : L2.St) (B H : Hp) : Prop := ∃ p acc, σ[i]? = some (some (.ref p)) ∧ H p = some (.lst acc) ∧ B p = none ∧ acc.length ≤ n ∧ ∀ v ∈ acc, v = V.bl true
theorem DueAt.le {i n : Nat} {σ : L2.St} {B H B' H' : Hp} (h : DueAt i n σ B H) (l : Le B H B' H') : DueAt i n σ B' H' := by
  obtain ⟨p, acc, h1, h2, h3, h4⟩ := h
  exact ⟨p, acc, h1, l.ex _ _ h2, l.old p h3 (fun z => by rw [h2] at z; cases z), h4⟩
theorem DueAt.slot {i j n : Nat} {σ : L2.St} {B H : Hp} (h : DueAt i n σ B H) (hj : j ≠ i) (o : Option V) : DueAt i n (σ.set j o) B H := by
  obtain ⟨p, acc, h1, h2⟩ := h
  exact ⟨p, acc, by rw [List.getElem?_set_ne hj]; exact h1, h2⟩
def allT (ds : List PyData) : Prop := ∀ d ∈ ds, d = PyData.bool true
section
variable {K : Fg} {i j n m k : Nat} {t u : TS} {te tl : TE} {ρ ρ' ρ1 : En} {d : PyData} {ds : List PyData}
end
end TD

set_option maxHeartbeats 4000000
namespace TD
open PySem PySem.Spec PyProof.Rows L2
open Evl (Ex)
section
variable {K : Fg} {ρ ρ' : En} {te ta tb : TE} {tu : TS} {g : TG} {o : Out} {s s2 : Str} {x y z d : PyData}
end
end TD

set_option maxHeartbeats 4000000
namespace TD
open PySem PySem.Spec PyProof.Rows L2
open Evl (Ex)
open LamX (CodeO Tabs TabB ExtN LamS lamCx)
section
variable {X : Cx} {pins : List (Addr × Obj)} {σ : L2.St} {H : Hp} {s : Shared}
abbrev lamO (X : Cx) (par : Arguments) (bd : Expr) (sco : Scope) (pm : Value) (cc : Addr) (tv : Value) : Obj := PySem.W.kla_obj "<lambda>" (X.env.qual ++ "<lambda>") par bd sco (cloFrom X.env.cells sco.names []) pm cc tv
theorem pe_thunk {Ng : List Str} {qg a : Str} {sg sco : Scope} {g f cc : Addr} {cdg pm tv : Value} {par : Arguments} {bd : Expr} {k i : Nat} {pn : List (Addr × Obj)} {xe : Value → Shared → Prop} {W : WX} {E : XK} {tb : TE} {p1 p2 : Pos}
    (I : Inv X pins σ H s) (L : LamS X.env.scope sco) (ho : s.heap.get? f = some (lamO X par bd sco pm cc tv)) (hn : H f = none) (hs : f ∉ frs X.stack)
    (hbi : bindArgs (PySem.W.kla_fn "<lambda>" (X.env.qual ++ "<lambda>") par bd sco (cloFrom X.env.cells sco.names []) pm (.ref cc) tv) ⟨[], []⟩ = pure [])
    (tk : Takes ((cxOf CX0 X.prog X.w X.K X.mg X.base Ng qg sg g cdg X.A X.stack s H E0).tr pn xe) W) (rm : Room (k + 1) (X.A.deeper (envOfC qg sg s.heap.objs.size g cdg))) (gu : X.A.guards = some [])
    (hb : ∀ (A : Around) (outer : List Env) (s2 : Shared) (H2 : Hp), A.guards = some [] → Room k (A.deeper (LamX.lamEnv X sco s2.heap.objs.size f cc)) → PE (lamCx X A outer s2 H2 E sco f cc) bd tb)
    (hN : Ng[i]? = some a) (hv : Vis sg a) (z1 : (a == ("__debug__" : Str)) = false := by decide) (z2 : (a == ("__classdict__" : Str)) = false := by decide) :
    PE ((cxOf CX0 X.prog X.w X.K X.mg X.base Ng qg sg g cdg X.A X.stack s H E0).tr pn xe) (.Call (.Name a p1) [] [] p2)
      (fun τ J Q => τ[i]? = some (some (.ref f)) ∧ J cc = some (CodeO cc (X.env.qual ++ "<lambda>")) ∧ (∀ c d J', E c d J' → W c d τ J') ∧ tb σ J Q) := by
  constructor
  rintro qs t τ J Q IT ⟨w1, w2, hW, w3⟩
  have name := (pe_var (pos := p1) (i := i) hN hv z1 z2).run qs t τ J (fun v J1 => v = .ref f ∧ J1 = J) IT ⟨.ref f, w1, rfl, rfl⟩
  refine wpAny_Call_Name_kw (wpAny_mono name ?_ fun _ _ z => z)
  rintro u t1 ⟨v, J1, I1, r1, rfl, rfl⟩
  cases r1
  have of1 := I1.base.keep f _ ho hn hs (List.not_mem_nil)
  refine PySem.W.callWith_F0 ⟨_, _, _, _, of1⟩ (wpAny_call ?_)
  have ch : Un (frs X.stack) [] H J1 s.heap t1.heap := I1.base
  have hco := (I1.hok cc _ w2).1
  obtain ⟨oc, vs, tk1, c1, c2, c3⟩ := hco
  refine codeAny_mono (PySem.W.kla_callFunE (R := CR (L2.CX X.prog X.w) (envOfC qg sg s.heap.objs.size g cdg :: X.stack) X.prog X.w J1 t1 Q E) rm.depth of1 rfl L.co L.gen rfl ⟨cc, oc, vs, tk1, rfl, c1, c2, c3⟩ ?_) ?_
  · rw [List.append_nil, hbi]
    refine wpAny_pure (wpAny_newFunctionEnv (fun y hy => (L.own y hy).2) (fun y hy => nomatch hy) (fun h1 ns sb => ⟨I1.nolimit.fresh _ sb, ?_⟩) L.kind)
    have kp : ∀ b o, t1.heap.get? b = some o → h1.get? b = some o := fun b o e => sb.extBut b o (Nat.ne_of_lt (Heap.lt_size e)) (Heap.get?_push_of_some _ e)
    have JI := LamX.lam_start2 (A := X.A.deeper (envOfC qg sg s.heap.objs.size g cdg)) (outer := envOfC qg sg s.heap.objs.size g cdg :: X.stack) (E := E) (f := f) (c' := cc) (tk := t1.toks + ([] : List (Str × Value)).length) I L I1.env0 rm.hd ch ns kp
    have go := (hb (X.A.deeper (envOfC qg sg s.heap.objs.size g cdg)) (envOfC qg sg s.heap.objs.size g cdg :: X.stack) t1 J1 gu (rm.deeper _)).run [] _ σ J1 Q JI w3
    refine PySem.W.kla_codeExpr (wpAny_mono go ?_ fun _ _ z => z)
    rintro v t2 ⟨x, J2, I2, r2, q2⟩
    exact ⟨x, J2, I2.os, I2.bare, I2.base, I2.hok, r2, q2⟩
  · rintro r t2 q2
    match r, q2 with
    | .error e, q2 => exact tk e t2 (XE.of_call I1 (fun c d J' h => hW c d J' h) q2)
    | .ok (.ret u), q2 => exact I1.after q2
    | .ok .next, q2 => exact q2.elim
    | .ok .brk, q2 => exact q2.elim
    | .ok .cont, q2 => exact q2.elim
def Gives (X : Cx) (Ng : List Str) (x : Str) (st : Stmt) (k : Nat) (a : Str) (TT : (XK → Hp → VK → Prop) → List V → Hp → VK → Prop) : Prop :=
  ∀ (g : Addr) (cdg : Value) (f cc : Addr) (s : Shared) (H : Hp) (Q : VK) (tl : XK → Hp → VK → Prop) (vs : List V), X.A.guards = some [] → Room k (X.A.deeper (envOfC x (defScope st) s.heap.objs.size g cdg)) →
    (∀ (W : WX) (pn : List (Addr × Obj)) (xe : Value → Shared → Prop) (E : XK) (p1 p2 : Pos), Takes ((cxOf CX0 X.prog X.w X.K X.mg X.base Ng x (defScope st) g cdg X.A X.stack s H E0).nox.tr pn xe) W →
      PE ((cxOf CX0 X.prog X.w X.K X.mg X.base Ng x (defScope st) g cdg X.A X.stack s H E0).nox.tr pn xe) (.Call (.Name a p1) [] [] p2) (fun τ J Q => τ[0]? = some (some (.ref f)) ∧ J cc = some (CodeO cc (X.env.qual ++ "<lambda>")) ∧ (∀ c d J', E c d J' → W c d τ J') ∧ tl E J Q)) →
    H cc = some (CodeO cc (X.env.qual ++ "<lambda>")) → TT tl vs H Q →
    ∃ t, PSs (cxOf CX0 X.prog X.w X.K X.mg X.base Ng x (defScope st) g cdg X.A X.stack s H E0).nox (defBody st) t ∧ t { nx := fun _ H' => Q .non H', rt := Q } (L2.start Ng (.ref f :: vs)) H
def tLam3 (T : List (Addr × Str)) (q : Str) (TT : (XK → Hp → VK → Prop) → List V → Hp → VK → Prop) (ta : TA) (tb : XK → TE) : TE := fun σ H Q => Tabs T H ∧
  ∀ (cc : Addr) (H1 : Hp), ExtN H H1 → Tabs T H1 → H1 cc = some (CodeO cc q) → ta σ H1 fun vs H2 => vs.length = 2 ∧ H2 cc = some (CodeO cc q) ∧ TT (fun E H' Q' => tb E σ H' Q') vs H2 Q
theorem pe_lam3 {T : List (Addr × Str)} {TT : (XK → Hp → VK → Prop) → List V → Hp → VK → Prop} {x a b c : Str} {st : Stmt} {P cd : Addr} {k : Nat} {Ng : List Str} {par : Arguments} {bd e2 e3 : Expr} {sco : Scope} {ta : TA} {tb : XK → TE} {p lp pos : Pos}
    (at_ : At X.K X.mg x st) (S : FnScope Ng [a, b, c] (defScope st)) (hN : Ng[0]? = some a)
    (hbi : ∀ (kV doc pm : Value) (an : Option Addr) (cdv ct : Value) (us : List Value), us.length = [a, b, c].length → bindArgs (PySem.W.fnOf x x (defArgs st) (defBody st) (defScope st) .none kV doc pm an cdv ct) ⟨us, []⟩ = pure ([a, b, c].zip us))
    (hG : Gives X Ng x st (k + 1) a TT) (hg : Gl X x) (gu : X.A.guards = some []) (rm : Room (k + 2) X.A) (hst : X.stack = X.env :: X.outer) (hfr : X.env.frame = some X.env.locals)
    (TB : TabB X.base X.mg cd P) (hcd : X.env.code = .ref cd) (hT1 : (P, X.env.qual ++ "<lambda>") ∈ T) (hT2 : ∀ p ∈ T, p.1 = P → p.2 = X.env.qual ++ "<lambda>") (L : LamS X.env.scope sco) (hdf : defaultsOf par X.env = ([], []))
    (hbl : ∀ (q : Str) (cl : List (Str × Addr)) (pm cv tv : Value), bindArgs (PySem.W.kla_fn "<lambda>" q par bd sco cl pm cv tv) ⟨[], []⟩ = pure [])
    (hb : ∀ (A : Around) (outer : List Env) (s2 : Shared) (H2 : Hp) (E : XK) (f cc : Addr), A.guards = some [] → Room k (A.deeper (LamX.lamEnv X sco s2.heap.objs.size f cc)) → PE (lamCx X A outer s2 H2 E sco f cc) bd (tb E))
    (ha : PA X [e2, e3] ta) (z : (x == ("__debug__" : Str)) = false := by decide) (z1 : (a == ("__debug__" : Str)) = false := by decide) (z2 : (a == ("__classdict__" : Str)) = false := by decide)
    (d2 : starEach (.Lambda par bd sco lp :: [e2, e3]) X.env = (false, eval (.Lambda par bd sco lp) X.env) :: starEach [e2, e3] X.env := by rfl)
    (d3 : (backTo pos (starEach [e2, e3] X.env)).any (·.1) = false := by rfl) :
    PE X (.Call (.Name x p) (.Lambda par bd sco lp :: [e2, e3]) [] pos) (tLam3 T (X.env.qual ++ "<lambda>") TT ta tb) := by
  obtain ⟨g, fd, F, hm⟩ := at_
  have kp := F.kp
  have bn := F.binds hbi
  obtain ⟨oc, od, kV, doc, pm, an, cdv, ct, osl, rfl, lk, hcg⟩ := F.ex
  constructor
  rintro pins s σ H Q I ⟨hT, h⟩
  refine wpAny_Call_Name_kw (ld_glob I hg hm ?_ z)
  refine PySem.W.callWith_K (h₀ := X.base) I.ok.mod.kin kp ?_ d2 d3
  refine Calls.spliced_cons (LamX.lam_make2 I TB hcd hT1 hT2 hT hdf (L.has I.ok) ?_)
  intro f cc pm2 tv H1 s1 I1 eN T1 hf hfn hfs hco
  have nL : f ≠ X.env.locals := fun e => hfs (by rw [hst]; exact List.mem_filterMap.mpr ⟨X.env, List.mem_cons_self, by rw [hfr, e]⟩)
  have nF : f ∉ X.fs := fun hm2 => by
    obtain ⟨e, he, q⟩ := List.mem_filterMap.mp hm2
    exact hfs (by rw [hst]; exact List.mem_filterMap.mpr ⟨e, List.mem_cons_of_mem _ he, q⟩)
  have pinA : ∀ p ∈ X.pn ++ (f, lamO X par bd sco pm2 cc tv) :: pins, s1.heap.get? p.1 = some p.2 ∧ H1 p.1 = none ∧ p.1 ≠ X.env.locals ∧ p.1 ∉ X.fs ∧ ∀ v, p.2.data ≠ .cell v := by
    intro p hp
    rcases List.mem_append.mp hp with w | w
    · exact I1.pin p (List.mem_append_left _ w)
    rcases List.mem_cons.mp w with e | w
    · rw [e]
      exact ⟨hf, hfn, nL, nF, fun v e => nomatch e⟩
    · exact I1.pin p (List.mem_append_right _ w)
  have IP : Inv X ((f, lamO X par bd sco pm2 cc tv) :: pins) σ H1 s1 := { I1 with pin := pinA }
  refine thn (ha.run pos _ s1 σ H1 _ IP (h cc H1 eN T1 hco)) ?_
  rintro us s2 ⟨vs, H2, I2, r, hl, hc2, q⟩
  have pinB : ∀ p ∈ X.pn ++ pins, s2.heap.get? p.1 = some p.2 ∧ H2 p.1 = none ∧ p.1 ≠ X.env.locals ∧ p.1 ∉ X.fs ∧ ∀ v, p.2.data ≠ .cell v := by
    intro p hp
    rcases List.mem_append.mp hp with w | w
    · exact I2.pin p (List.mem_append_left _ w)
    · exact I2.pin p (List.mem_append_right _ (List.mem_cons_of_mem _ w))
  have J2 : Inv X pins σ H2 s2 := { I2 with pin := pinB }
  obtain ⟨f1, f2, _⟩ := I2.pin (f, lamO X par bd sco pm2 cc tv) (List.mem_append_right _ List.mem_cons_self)
  refine ⟨J2.kIn, wpAny_call ?_⟩
  have ul : (.ref f :: us : List Value).length = [a, b, c].length := by
    have := r.length
    simp only [List.length_cons, List.length_nil]
    omega
  have bb := bn s2 (.ref f :: us) J2.kIn (by rw [List.append_nil]; exact ul)
  rw [List.append_nil] at bb
  have run := LamX.run_ofS (CX := CX0) (E := E0) (Q := Q) (N := Ng) (ps := [a, b, c]) (us := .ref f :: us) (vs := .ref f :: vs) lk hcg S rm J2.env0 bb (.cons rfl r) (by simp only [List.length_cons, List.length_nil]; omega) (fun rm2 => by
    obtain ⟨t, ht, hq⟩ := hG g cdv f cc s2 H2 Q (fun E H' Q' => tb E σ H' Q') vs gu rm2 (fun W pn xe E p1 p2 tk => pe_thunk (i := 0) J2 L f1 f2 hfs (hbl _ _ _ _ _) tk rm2 gu (fun A outer s H g2 r2 => hb A outer s H E f cc g2 r2) hN ((S.par a (List.mem_cons_self ..)).elim (fun e => .inl e) (fun e => .inr (.inl e))) z1 z2) hc2 q
    exact ⟨t, ht.nox, hq⟩)
  refine codeAny_mono run ?_
  rintro r2 s3 q3
  match r2, q3 with
  | .error e, q3 => exact (show False from q3).elim
  | .ok (.ret u), q3 => exact J2.after q3
  | .ok .next, q3 => exact q3.elim
  | .ok .brk, q3 => exact q3.elim
  | .ok .cont, q3 => exact q3.elim
def tAct (f cc : Addr) (q : Str) (tl : XK → Hp → VK → Prop) (W : WX) : TS := fun D τ J => ∃ E : XK, τ[0]? = some (some (.ref f)) ∧ J cc = some (CodeO cc q) ∧ (∀ c d J', E c d J' → W c d τ J') ∧ tl E J fun _ J' => D.nx τ J'
theorem ps_act {f cc : Addr} {q : Str} {tl : XK → Hp → VK → Prop} {W : WX} {e : Expr} {pos : Pos} (h : ∀ E : XK, PE X e (fun τ J Q => τ[0]? = some (some (.ref f)) ∧ J cc = some (CodeO cc q) ∧ (∀ c d J', E c d J' → W c d τ J') ∧ tl E J Q)) (hsw : swapsWith e none pos.line X.env = pure false := by rfl) : PS X (.Expr e pos) (tAct f cc q tl W) :=
  ⟨fun pins s σ H D I ⟨E, h1, h2, h3, h4⟩ => (ps_expr (h E) hsw).run pins s σ H D I ⟨h1, h2, h3, h4⟩⟩
end
end TD

set_option maxHeartbeats 4000000
namespace TD
open PySem PySem.Spec PyProof.Rows L2
open Evl (Ex)
open LamX (CodeO Tabs TabS TabB ExtN)
def noT (B : Hp) : Hp := fun b => match B b with
  | some (.tbl _) => none
  | o => o
def NT (B : Hp) : Prop := ∀ b ps, B b ≠ some (.tbl ps)
theorem noT_some {B : Hp} {b : Addr} {o : HO} (h : B b = some o) (n : ∀ ps, o ≠ .tbl ps) : noT B b = some o := by
  unfold noT
  rw [h]
  cases o with
  | tbl ps => exact (n ps rfl).elim
  | _ => rfl
theorem noT_of {B : Hp} {b : Addr} {o : HO} (h : noT B b = some o) : B b = some o := by
  unfold noT at h
  cases e : B b with
  | none => rw [e] at h; exact h
  | some u =>
    rw [e] at h
    cases u with
    | tbl ps => exact nomatch (show (none : Option HO) = some o from h)
    | _ => exact h
theorem noT_none {B : Hp} {b : Addr} (h : B b = none) : noT B b = none := by
  unfold noT
  rw [h]
theorem noT_nt (B : Hp) : NT (noT B) := fun b ps h => by
  have e := noT_of h
  unfold noT at h
  rw [e] at h
  exact nomatch (show (none : Option HO) = some (.tbl ps) from h)
theorem NT.to {B B1 : Hp} (h : NT B) (e : Ex B B1) : Ex B (noT B1) := fun b o z => noT_some (e b o z) fun ps w => h b ps (by rw [z, w])
theorem noT_sub {B H : Hp} (e : Ex B H) : Ex (noT B) H := fun b o z => e b o (noT_of z)
mutual
theorem Da.noT {K : Fg} {B : Hp} : ∀ {v : V} {d : PyData}, Da K B v d → Da K (TD.noT B) v d
  | _, _, .non => .non
  | _, _, .bl b => .bl b
  | _, _, .int i => .int i
  | _, _, .str x => .str x
  | _, _, .lst h t => .lst (noT_some h fun _ z => nomatch z) (Das.noT t)
  | _, _, .tup h t => .tup (noT_some h fun _ z => nomatch z) (Das.noT t)
  | _, _, .dic h t => .dic (noT_some h fun _ z => nomatch z) (Das.noT t)
theorem Das.noT {K : Fg} {B : Hp} : ∀ {vs : List V} {ds : List PyData}, Das K B vs ds → Das K (TD.noT B) vs ds
  | _, _, .nil => .nil
  | _, _, .cons a t => .cons (Da.noT a) (Das.noT t)
end
theorem SD.noT {K : Fg} {B : Hp} {σ : L2.St} {ρ : En} (s : SD K B σ ρ) : SD K (TD.noT B) σ ρ := ⟨s.1, fun i d h => let ⟨v, a, b⟩ := s.2 i d h; ⟨v, a, b.noT⟩⟩
theorem tabs_setL {T : List (Addr × Str)} {H : Hp} {p : Addr} {xs ys : List V} (t : Tabs T H) (h : H p = some (.lst xs)) : Tabs T (upd H p (.lst ys)) := fun r hr => by
  obtain ⟨ps, h1, h2, h3⟩ := t r hr
  refine ⟨ps, ?_, h2, fun pos cv hc => ?_⟩
  · rw [upd_ne (fun z => by rw [z, h] at h1; cases h1)]
    exact h1
  · obtain ⟨c, e1, e2⟩ := h3 pos cv hc
    refine ⟨c, e1, ?_⟩
    rw [upd_ne (fun z => by rw [z, h] at e2; unfold CodeO at e2; cases e2)]
    exact e2
structure TQ (T : List (Addr × Str)) (i n : Nat) (σ : L2.St) (B H : Hp) : Prop where
  nt : NT B
  due : DueAt i n σ B H
  tab : Tabs T H
def XT (K : Fg) (T : List (Addr × Str)) (J : L2.St → Prop) (i : Nat) (t : TS) (ρ ρ' : En) (n m : Nat) : Prop := ∀ σ B H (D : Ends), J σ → Ex B H → SD K B σ ρ → TQ T i n σ B H →
  (∀ σ' B' H', J σ' → Ex B B' → Ex B' H' → SD K B' σ' ρ' → TQ T i m σ' B' H' → D.nx σ' H') → t D σ H
theorem TQ.le {T : List (Addr × Str)} {i n : Nat} {σ : L2.St} {B H B1 H1 : Hp} (a : TQ T i n σ B H) (l : Le B H B1 H1) : TQ T i n σ (noT B1) H1 := by
  refine ⟨noT_nt B1, ?_, a.tab.ext l.ex⟩
  obtain ⟨p, acc, h1, h2, h3, h4⟩ := a.due.le l
  exact ⟨p, acc, h1, h2, noT_none h3, h4⟩
theorem TQ.slot {T : List (Addr × Str)} {i j n : Nat} {σ : L2.St} {B H : Hp} (a : TQ T i n σ B H) (hj : j ≠ i) (o : Option V) : TQ T i n (σ.set j o) B H := ⟨a.nt, a.due.slot hj o, a.tab⟩
def TTr (K : Fg) (R : Str → PyData → Addr → Prop) : (XK → Hp → VK → Prop) → List V → Hp → VK → Prop := fun tl vs H Q => ∃ B nm v v' fld C, vs = [.str nm, v] ∧ Ex B H ∧ Da K B v fld ∧ Da K B v' fld ∧ R nm fld C ∧
  (∀ (E : XK) B1 H1 Q', Le B H B1 H1 → (∀ x B2 H2, Le B1 H1 B2 H2 → H2 x = some (xdV v') → E (.ref C) (some x) H2) → tl E H1 Q') ∧ ∀ B' H', Le B H B' H' → Q (.bl true) H'
def LamR (K : Fg) (J : L2.St → Prop) (ρ : En) (ta : TA) (tb : XK → TE) (nm : Str) (fld : PyData) (C : Addr) : Prop := ∀ σ B, J σ → SD K B σ ρ → ∃ v v', Da K B v fld ∧ Da K B v' fld ∧
  (∀ H (Q : List V → Hp → Prop), Q [.str nm, v] H → ta σ H Q) ∧ ∀ (E : XK) B1 H1 Q', Ex B B1 → Ex B1 H1 → (∀ x B2 H2, Le B1 H1 B2 H2 → H2 x = some (xdV v') → E (.ref C) (some x) H2) → tb E σ H1 Q'
section
variable {K : Fg} {T : List (Addr × Str)} {J : L2.St → Prop} {i j n m k : Nat} {t u : TS} {te tl : TE} {ρ ρ' ρ1 : En} {d : PyData} {ds : List PyData} {q : Str} {ta : TA} {tb : XK → TE} {R : Str → PyData → Addr → Prop} {nm : Str} {fld : PyData} {C : Addr}
theorem xt_seq (h1 : XT K T J i t ρ ρ1 n k) (h2 : XT K T J i u ρ1 ρ' k m) : XT K T J i (tSeq t u) ρ ρ' n m := fun σ B H D j s sd a q =>
  h1 σ B H _ j s sd a fun σ1 B1 H1 j1 e1 s1 sd1 a1 => h2 σ1 B1 H1 D j1 s1 sd1 a1 fun σ2 B2 H2 j2 e2 s2 sd2 a2 => q σ2 B2 H2 j2 (e1.trans e2) s2 sd2 a2
theorem xt_asg (hj : j ≠ i) (h : ED K te ρ d) : XT K T (fun _ => True) i (tAsg te (gName j)) ρ (ρ.set j (some d)) n n := fun σ B H D _ s sd a q =>
  h σ B H s sd _ fun v B1 H1 l1 d1 => q _ (noT B1) H1 trivial (a.nt.to l1.ek) (noT_sub l1.sub) ((sd.up l1.ek).put j d1).noT ((a.le l1).slot hj _)
theorem put_due {σ : L2.St} {B H : Hp} {p : Addr} {acc : List V} (h1 : σ[i]? = some (some (.ref p))) (s : Ex B H) (t : Tabs T H) (h2 : H p = some (.lst acc)) (h3 : B p = none) (h4 : acc.length ≤ n) (h5 : ∀ v ∈ acc, v = V.bl true) :
    Ex (noT B) (upd H p (.lst (acc ++ [.bl true]))) ∧ TQ T i (n + 1) σ (noT B) (upd H p (.lst (acc ++ [.bl true]))) := by
  refine ⟨fun b o z => ?_, noT_nt B, ⟨p, _, h1, upd_same, noT_none h3, ?_, ?_⟩, tabs_setL t h2⟩
  · rw [upd_ne (ne_of_none (noT_of z) h3)]
    exact s _ _ (noT_of z)
  · rw [List.length_append, List.length_singleton]
    omega
  · intro v hv
    rcases List.mem_append.mp hv with z | z
    · exact h5 v z
    · exact List.mem_singleton.mp z
theorem xt_app (h : EDJ K (fun σ _ => J σ) te ρ (.bool true)) (hz : n + 1 ≤ 100000) : XT K T J i (tDrop (tBM K "list" rAppend (tVar i) (tCons te tNil))) ρ ρ n (n + 1) := fun σ B H D jj s sd a q => by
  obtain ⟨p, acc, h1, h2, h3, h4, h5⟩ := a.due
  refine ⟨.ref p, h1, .inl ⟨rfl, _, SqL.of h2⟩, h σ B H s sd jj _ fun v B1 H1 l1 d1 => ?_⟩
  cases d1
  have e := l1.ex _ _ h2
  have nb : B1 p = none := l1.old p h3 (fun z => by rw [h2] at z; cases z)
  obtain ⟨w1, w2⟩ := put_due (i := i) h1 l1.sub (a.tab.ext l1.ex) e nb h4 h5
  exact ⟨p, acc, .bl true, rfl, rfl, e, Evl.sz_lt (by omega), q _ _ _ jj (a.nt.to l1.ek) w1 (sd.up l1.ek).noT w2⟩
theorem xt_lam (h : LamR K J ρ ta tb nm fld C) (hR : R nm fld C) (hz : n + 1 ≤ 100000) : XT K T J i (tDrop (tBM K "list" rAppend (tVar i) (tCons (tLam3 T q (TTr K R) ta tb) tNil))) ρ ρ n (n + 1) := fun σ B H D jj s sd a q2 => by
  obtain ⟨p, acc, h1, h2, h3, h4, h5⟩ := a.due
  obtain ⟨v, v', dv, dv', hta, htb⟩ := h σ B jj sd
  refine ⟨.ref p, h1, .inl ⟨rfl, _, SqL.of h2⟩, a.tab, fun cc H1 eN T1 hc => ?_⟩
  have sB : Ex B H1 := fun b o e => eN b o (s b o e) fun ps z => a.nt b ps (by rw [e, z])
  have e1 : H1 p = some (.lst acc) := eN _ _ h2 fun ps z => nomatch z
  refine hta H1 _ ⟨rfl, hc, B, nm, v, v', fld, C, rfl, sB, dv, dv', hR, fun E B2 H2 Q' l2 hx => htb E B2 H2 Q' l2.ek l2.sub hx, fun B2 H2 l2 => ?_⟩
  have nb : B2 p = none := l2.old p h3 (fun z => by rw [e1] at z; cases z)
  obtain ⟨w1, w2⟩ := put_due (i := i) h1 l2.sub (T1.ext l2.ex) (l2.ex _ _ e1) nb h4 h5
  exact ⟨p, acc, .bl true, rfl, rfl, l2.ex _ _ e1, Evl.sz_lt (by omega), q2 _ _ _ jj (a.nt.to l2.ek) w1 (sd.up l2.ek).noT w2⟩
theorem xt_less (cs : List Nat) (h : XT K T J i t ρ ρ1 n m) (e : wipeD ρ1 cs = ρ') : XT K T J i t ρ ρ' n m := fun σ B H D j s sd a q =>
  h σ B H D j s sd a fun σ1 B1 H1 j1 e1 s1 sd1 a1 => q σ1 B1 H1 j1 e1 s1 (sd1.less (by rw [← e, wipeD_len]) fun j d hj => wipeD_sub cs (by rw [e]; exact hj)) a1
theorem xt_step {D : Ends} {σ : L2.St} {B H : Hp} (h : XT K T (fun _ => True) i t ρ ρ1 n k) (r : ∀ σ B H, Ex B H → SD K B σ ρ1 → TQ T i k σ B H → u D σ H) (s : Ex B H) (sd : SD K B σ ρ) (a : TQ T i n σ B H) : tSeq t u D σ H :=
  h σ B H _ trivial s sd a fun σ1 B1 H1 _ _ s1 sd1 a1 => r σ1 B1 H1 s1 sd1 a1
theorem xt_for (hj : j ≠ i) (h : ED K tl ρ (.list ds)) (hb : ∀ d ∈ ds, ∀ n', n' ≤ n + ds.length * k → XT K T (fun _ => True) i t (ρ.set j (some d)) ρ n' (n' + k)) : XT K T (fun _ => True) i (tFor (iList K tl) (gName j) t) ρ ρ n (n + ds.length * k) := fun σ B H D _ s sd a q =>
  h σ B H s sd _ fun v B1 H1 l1 d1 => by
    cases d1 with
    | @lst p xs _ hp hd =>
      refine ⟨p, rfl, ⟨xs, SqL.of (l1.sub _ _ hp)⟩, ?_⟩
      have hl := hd.len
      refine for_list (K := K) (a := p) (xs := xs) (fun c σ' H' => ∃ B', Ex (noT B1) B' ∧ Ex B' H' ∧ SD K B' σ' ρ ∧ TQ T i (n + c * k) σ' B' H') ⟨noT B1, Ex.refl _, noT_sub l1.sub, (sd.up l1.ek).noT, by rw [Nat.zero_mul]; exact a.le l1⟩
        (fun c σ' H' _ ⟨B', e, s', _⟩ => SqL.of (s' _ _ (e _ _ (noT_some hp fun _ z => nomatch z)))) (fun c v σ' H' hc ⟨B', e, s', sd', a'⟩ => ?_) (fun σ' H' ⟨B', e, s', sd', a'⟩ => ?_)
      · obtain ⟨d, hd1, hv⟩ := hd.noT.get hc
        have lt : c < ds.length := (List.getElem?_eq_some_iff.mp hd1).1
        have z := hb d (List.mem_of_getElem? hd1) (n + c * k) (by have := Nat.mul_le_mul_right k (Nat.le_of_lt lt); omega)
        refine z (σ'.set j (some v)) B' H' _ trivial s' (sd'.put j (hv.ex e)) (a'.slot hj _) fun σ2 B2 H2 _ e2 s2 sd2 a2 => ⟨B2, e.trans e2, s2, sd2, ?_⟩
        have w : n + (c + 1) * k = n + c * k + k := by rw [Nat.add_mul]; omega
        rw [w]
        exact a2
      · rw [hl] at a'
        exact q σ' B' H' trivial ((a.nt.to l1.ek).trans e) s' sd' a'
theorem xt_rng {lo : Int} {c : Nat} {g : TG} {D : Ends} {σ : L2.St} {B H : Hp} (hj : j ≠ i) (hb : ∀ x : Nat, x < c → ∀ n', n' ≤ n + c * k → XT K T (fun _ => True) i t (ρ.set j (some (.int (lo + (x : Int))))) ρ n' (n' + k)) (s : Ex B H) (sd : SD K B σ ρ) (a : TQ T i n σ B H)
    (q : ∀ σ' B' H', Ex B B' → Ex B' H' → SD K B' σ' ρ → TQ T i (n + c * k) σ' B' H' → D.nx σ' H') : ∃ W : Nat → Nat → L2.St → Hp → Prop, (∃ m, W 0 m σ H) ∧ ∀ i m σ H, W i m σ H →
      ((Itr lo c).stop i H ∧ D.nx σ H) ∨ ((Itr lo c).go i H ∧ ∃ N : L2.St → Hp → Prop, (∀ σ' H', N σ' H' → ∃ m', m' < m ∧ W (i + 1) m' σ' H') ∧ ∀ x H', (Itr lo c).yld i H x H' → gName j x σ H' fun σ2 H2 => t { D with nx := N, ct := N, bk := D.nx } σ2 H2) := by
  refine for_range (lo := lo) (n := c) (fun x σ' H' => ∃ B', Ex B B' ∧ Ex B' H' ∧ SD K B' σ' ρ ∧ TQ T i (n + x * k) σ' B' H') ⟨B, Ex.refl B, s, sd, by rw [Nat.zero_mul]; exact a⟩
    (fun x σ' H' hx ⟨B', e, s', sd', a'⟩ => ?_) (fun σ' H' ⟨B', e, s', sd', a'⟩ => q σ' B' H' e s' sd' a')
  have z := hb x hx (n + x * k) (by have := Nat.mul_le_mul_right k (Nat.le_of_lt hx); omega)
  refine z (σ'.set j (some (.int (lo + (x : Int))))) B' H' _ trivial s' (sd'.put j (.int _)) (a'.slot hj _) fun σ2 B2 H2 _ e2 s2 sd2 a2 => ⟨B2, e.trans e2, s2, sd2, ?_⟩
  have w : n + (x + 1) * k = n + x * k + k := by rw [Nat.add_mul]; omega
  rw [w]
  exact a2
theorem xt_forR1 {tl : TA} {c : Nat} (hj : j ≠ i) (h : EA K tl ρ [.int (c : Int)]) (hc : c ≤ 1000) (hb : ∀ x : Nat, x < c → ∀ n', n' ≤ n + c * k → XT K T (fun _ => True) i t (ρ.set j (some (.int (0 + (x : Int))))) ρ n' (n' + k)) : XT K T (fun _ => True) i (tFor (iRng1 tl) (gName j) t) ρ ρ n (n + c * k) := fun σ B H D _ s sd a q =>
  h σ B H s sd _ fun vs B1 H1 l1 d1 => by
    cases d1 with
    | cons h1 h2 =>
      cases h1
      cases h2
      refine ⟨(c : Int), rfl, by omega, by omega, ?_⟩
      exact xt_rng (g := gName j) hj hb (noT_sub l1.sub) (sd.up l1.ek).noT (a.le l1) fun σ' B' H' e => q σ' B' H' trivial ((a.nt.to l1.ek).trans e)
theorem xt_forF {tf : TA} {fs : List Addr} (hj : j ≠ i) (hji : j < ρ.length) (hn : ρ[j]? = some none) (h : EVs tf (fs.map V.ref)) (hz : fs.length ≤ 100) (hb : ∀ f ∈ fs, ∀ n', n' ≤ n + fs.length * k → XT K T (fun σ => σ[j]? = some (some (.ref f))) i t ρ ρ n' (n' + k)) : XT K T (fun _ => True) i (tFor (iList K (tLst tf)) (gName j) t) ρ ρ n (n + fs.length * k) := fun σ B H D _ s sd a q => by
  refine h σ H _ ⟨by rw [List.length_map]; exact Evl.sz_of (by omega), fun p hp => ?_⟩
  have l1 : Le B H B (upd H p (.lst (fs.map V.ref))) := ⟨Ex.new hp, Ex.refl B, s.trans (Ex.new hp), fun _ h _ => h⟩
  have l2 : Le B H (upd B p (.lst (fs.map V.ref))) (upd H p (.lst (fs.map V.ref))) := Le.new s hp
  have bp : noT (upd B p (.lst (fs.map V.ref))) p = some (.lst (fs.map V.ref)) := noT_some upd_same fun _ z => nomatch z
  refine ⟨p, rfl, ⟨_, SqL.of upd_same⟩, ?_⟩
  refine for_list (K := K) (a := p) (xs := fs.map V.ref) (fun c σ' H' => ∃ B', Ex (noT (upd B p (.lst (fs.map V.ref)))) B' ∧ Ex B' H' ∧ SD K B' σ' ρ ∧ TQ T i (n + c * k) σ' B' H') ⟨_, Ex.refl _, noT_sub l2.sub, (sd.up l2.ek).noT, by rw [Nat.zero_mul]; exact a.le l2⟩
    (fun c σ' H' _ ⟨B', e, s', _⟩ => SqL.of (s' _ _ (e _ _ bp))) (fun c v σ' H' hc ⟨B', e, s', sd', a'⟩ => ?_) (fun σ' H' ⟨B', e, s', sd', a'⟩ => ?_)
  · rw [List.getElem?_map] at hc
    obtain ⟨f, hf, rfl⟩ := Option.map_eq_some_iff.mp hc
    have lt : c < fs.length := (List.getElem?_eq_some_iff.mp hf).1
    have z := hb f (List.mem_of_getElem? hf) (n + c * k) (by have := Nat.mul_le_mul_right k (Nat.le_of_lt lt); omega)
    have hs : σ'.length = ρ.length := sd'.1
    have e0 : ρ.set j none = ρ := by
      obtain ⟨q1, q2⟩ := List.getElem?_eq_some_iff.mp hn
      rw [← q2]
      exact List.set_getElem_self q1
    refine z (σ'.set j (some (.ref f))) B' H' _ (List.getElem?_set_self (by omega)) s' (by have w := sd'.drop j (some (.ref f)); rwa [e0] at w) (a'.slot hj _) fun σ2 B2 H2 _ e2 s2 sd2 a2 => ⟨B2, e.trans e2, s2, sd2, ?_⟩
    have w : n + (c + 1) * k = n + c * k + k := by rw [Nat.add_mul]; omega
    rw [w]
    exact a2
  · rw [List.length_map] at a'
    exact q σ' B' H' trivial ((a.nt.to l2.ek).trans e) s' sd' a'
end
end TD

set_option maxHeartbeats 4000000
namespace TD
open PySem PySem.Spec PyProof.Rows L2
open LamX (TabB)
abbrev tab0 : Obj := { cls := .none, data := .fields #[] }
def atT (cs : List (Addr × Addr)) (b : Addr) : Prop := ∃ p ∈ cs, p.2 = b
theorem lawGT {P : Program} {w : World} {K : PySem.W.Frag} {mg mb : Str → Option Value} {CX : CXT} {k : Nat} {fa a : Addr} {fd : FuncData} {x : Str} {sp : Sp} {s1 : Shared} {vs : List Value} {ns : List Int} {cs : List (Addr × Addr)}
    (inK : K.In s1.heap) (hgl : s1.heap.Ns mainGlobals mg) (hbu : s1.heap.Ns builtinsNs mb) (hbb : ∀ x : Str, x ≠ "__name__" → mb x = bootBuiltins x) (lim : s1.heap.NoLimit) (see : s1.heap.NoSeer) (gen : s1.gens = #[])
    (tabs : ∀ p ∈ cs, s1.heap.get? p.2 = some tab0) (tabK : ∀ p ∈ cs, K.lookup p.2 = none) (hds : ∀ p ∈ cs, PySem.W.CodeHd s1.heap p.1 p.2)
    (bmod : ∃ (bm : Addr) (ob : Obj), mg "__builtins__" = some (.ref bm) ∧ bm ≠ builtinsNs ∧ s1.heap.get? bm = some ob ∧ ob.cls = .type "module" ∧ ob.dict = some builtinsNs ∧ ob.data = .plain)
    (at_ : s1.heap.get? a = some { cls := .type "list", data := .seq vs.toArray }) (hints : IntsAre vs ns) (len : ns.length ≤ sizeLine) (room : Room k callerA)
    (F : ∀ base : Heap, K.In base → base.Ns mainGlobals mg → (∃ mm, base.Ns sysModules mm) → (∀ p ∈ cs, TabB base mg p.1 p.2) → FnG P w K mg base CX k fa fd [x] sp) (bind : ∀ (s : Shared) (u : Value), BindsTo s fd ⟨[u], []⟩ [(x, u)])
    (hsp : ∀ H : Hp, (∀ p ∈ cs, H p.2 = some (.tbl #[])) → SqL K H a (ns.map V.int) → sp [.ref a] H (fun v _ => v = .bl true) fun _ _ _ => False)
    (hCX : ∀ H e s', CX [] H s1 (fun _ _ _ => False) e s' → False) :
    codeAny (model P w) callerA (.call (.ref fa) ⟨[.ref a], []⟩) (fun r s' => r = .ok (.ret (.bool true)) ∧ OldK s1.heap s'.heap ∧ s'.os = s1.os ∧ AllBare s'.gens) s1 := by
  have relV := vals_ints hints
  have lenV := hints.length
  have tabA : ∀ {b}, atT cs b → s1.heap.get? b = some tab0 := by
    rintro b ⟨p, hp, rfl⟩
    exact tabs p hp
  have noTA : ¬ atT cs a := fun z => by
    have y := tabA z
    rw [at_] at y
    exact nomatch (show Data.seq vs.toArray _ = Data.fields #[] from congrArg Obj.data (Option.some.inj y))
  have key : ∀ H : Hp, (∀ b, atT cs b → H b = some (.tbl #[])) → (∀ b, ¬ atT cs b → H b = none ∨ (b = a ∧ ∃ ob xs, H b = some (.frz ob (.lst xs)))) → SqL K H a (ns.map V.int) → HOk P w H s1.heap → (H a ≠ none → K.lookup a = none) →
      codeAny (model P w) callerA (.call (.ref fa) ⟨[.ref a], []⟩) (fun r s' => r = .ok (.ret (.bool true)) ∧ OldK s1.heap s'.heap ∧ s'.os = s1.os ∧ AllBare s'.gens) s1 := by
    intro H onT offT hS ok nk
    have one : ∀ b, H b ≠ none → b = a ∨ atT cs b := by
      intro b z
      by_cases y : atT cs b
      · exact .inr y
      · rcases offT b y with u | ⟨u, _⟩
        · exact (z u).elim
        · exact .inl u
    have clear : ∀ {b : Addr} {o : Obj}, s1.heap.get? b = some o → (∀ us n, o.data ≠ .seq us n) → o.data ≠ .fields #[] → H b = none := by
      intro b o e n1 n2
      by_cases z : H b = none
      · exact z
      · rcases one b z with y | y
        · rw [y, at_] at e
          cases e
          exact (n1 _ _ rfl).elim
        · rw [tabA y] at e
          cases e
          exact (n2 rfl).elim
    have ns_ : ∀ {b : Addr} {m : Str → Option Value}, s1.heap.Ns b m → (hidT s1.heap H).Ns b m := by
      intro b m ⟨o, es, ep, e, d, r⟩
      exact ⟨o, es, ep, hidT_get e (clear e (fun us n z => nomatch d.symm.trans z) fun z => nomatch d.symm.trans z), d, r⟩
    have inB : K.In (hidT s1.heap H) := by
      intro b o e
      refine hidT_get (inK b o e) ?_
      by_cases z : H b = none
      · exact z
      · rcases one b z with y | ⟨p, hp, y⟩
        · rw [y] at z e
          rw [nk z] at e
          cases e
        · rw [← y, tabK p hp] at e
          cases e
    obtain ⟨mc, l1, l2⟩ := lim
    have md : Mod K mg (hidT s1.heap H) := ⟨inB, ns_ hgl, ⟨mb, ns_ hbu, hbb⟩, ⟨mc, ns_ l1, l2⟩⟩
    have tb : ∀ p ∈ cs, TabB (hidT s1.heap H) mg p.1 p.2 := by
      intro p hp
      obtain ⟨o, us, f1, f2, f3, f4, f5, f6, f7, e1, y1, y2, y3, y⟩ := hds p hp
      obtain ⟨bm, ob, g1, g2, g3, g4, g5, g6⟩ := bmod
      have nd : ∀ us, us ≠ #[] → o.data = .fields us → H p.1 = none := fun us h1 h2 =>
        clear e1 (fun us n z => nomatch h2.symm.trans z) fun z => h1 (Data.fields.inj (h2.symm.trans z))
      have bmg : bm ≠ mainGlobals := fun z => by
        obtain ⟨o2, es, ep, h1, h2, _⟩ := hgl
        rw [z, h1] at g3
        cases g3
        exact nomatch h2.symm.trans g6
      have bmP : bm ≠ p.2 := fun z => by
        rw [z, tabs p hp] at g3
        cases g3
        exact nomatch g6
      refine ⟨⟨o, us, f1, f2, f3, f4, f5, f6, f7, hidT_get e1 (nd us (fun z => by subst z; simp at y3) y2), y1, y2, y3, y⟩, ⟨bm, ob, g1, g2, bmg, bmP, hidT_get g3 (clear g3 (fun us n z => nomatch g6.symm.trans z) fun z => nomatch g6.symm.trans z), g4, g5, g6⟩, fun z => ?_⟩
      obtain ⟨o2, es, ep, h1, h2, _⟩ := hgl
      rw [z, tabs p hp] at h1
      cases h1
      exact nomatch h2
    have e0 : Env0 P w K mg (hidT s1.heap H) callerA [] s1 H :=
      ⟨rfl, md, fun b o e => of_hidT e, Nat.le_of_eq (hidT_size _ _), trivial, (fun b hb => nomatch (show b ∈ ([] : List Addr) from hb)), ok, .of_eq gen⟩
    obtain ⟨mm, sm, _⟩ := see.mods
    refine codeAny_mono ((F _ inB (ns_ hgl) ⟨mm, ns_ sm⟩ tb).go callerA [] s1 H ⟨[.ref a], []⟩ [.ref a] [.ref a] _ _ rfl room e0 (bind s1 (.ref a)) (.cons rfl .nil) (hsp H (fun p hp => onT p.2 ⟨p, hp, rfl⟩) hS)) ?_
    intro r s2 h
    match r, h with
    | .error e, h => exact (hCX H e s2 h).elim
    | .ok .next, h => exact False.elim h
    | .ok .brk, h => exact False.elim h
    | .ok .cont, h => exact False.elim h
    | .ok (.ret u), ⟨v, H2, os, bare, un, ok2, r2, q⟩ =>
      have qv : v = .bl true := q
      subst qv
      have ru : u = Value.bool true := r2
      subst ru
      have stays : ∀ b o, ¬ atT cs b → s1.heap.get? b = some o → s2.heap.get? b = some o := by
        intro b o nb e
        rcases offT b nb with z | ⟨_, ob, xs, z⟩
        · exact un.keep b o e z (fun y => nomatch (show b ∈ ([] : List Addr) from y)) (fun y => nomatch y)
        · obtain ⟨e1, _⟩ := ok b _ z
          obtain ⟨e2, _⟩ := ok2 b _ (un.frzs b ob _ z)
          rw [e1] at e
          cases e
          exact e2
      have grows : ∀ b, atT cs b → ∃ us : Array Value, s2.heap.get? b = some { cls := .none, data := .fields us } := by
        intro b hb
        obtain ⟨us, z⟩ := un.tbls b #[] (onT b hb)
        exact ⟨_, ok2 b _ z⟩
      refine ⟨rfl, ⟨?_, ?_⟩, os, bare⟩
      · intro b o e
        by_cases nb : atT cs b
        · obtain ⟨us, hu⟩ := grows b nb
          rw [tabA nb] at e
          cases e
          obtain ⟨p, hp, rfl⟩ := nb
          refine Or.inr (Or.inl ⟨((hds p hp).tab (tabs p hp)).isCodeTable, rfl, #[], us, rfl, ?_⟩)
          rw [Array.empty_append]
          exact hu
        · exact Or.inl (stays b o nb e)
      · intro b o e
        by_cases nb : atT cs b
        · obtain ⟨us, hu⟩ := grows b nb
          exact ⟨_, hu⟩
        · exact ⟨o, stays b o nb e⟩
  have dec : ∀ b, Decidable (atT cs b) := fun b => Classical.propDecidable _
  by_cases hk : K.lookup a = none
  · refine key (fun b => if atT cs b then some (.tbl #[]) else if b = a then some (.frz { cls := .type "list", data := .seq vs.toArray } (.lst (ns.map V.int))) else none) (fun b hb => if_pos hb) ?_ (.inl (.inr ⟨_, (if_neg noTA).trans (if_pos rfl)⟩)) ?_ fun _ => hk
    · intro b nb
      by_cases hb : b = a
      · exact Or.inr ⟨hb, _, _, (if_neg nb).trans (if_pos hb)⟩
      · exact Or.inl ((if_neg nb).trans (if_neg hb))
    · intro b u z
      by_cases nb : atT cs b
      · have y := (if_pos nb).symm.trans z
        cases y
        exact tabA nb
      have z2 := (if_neg nb).symm.trans z
      by_cases hb : b = a
      · subst hb
        have y := (if_pos rfl).symm.trans z2
        cases y
        exact ⟨at_, by rw [List.length_map]; exact len, vs, _, relV, at_⟩
      · exact nomatch (if_neg hb).symm.trans z2
  · obtain ⟨o, ho⟩ : ∃ o, K.lookup a = some o := by
      cases z : K.lookup a with
      | none => exact (hk z).elim
      | some o => exact ⟨o, rfl⟩
    have e := inK a o ho
    rw [at_] at e
    cases e
    refine key (fun b => if atT cs b then some (.tbl #[]) else none) (fun b hb => if_pos hb) (fun b nb => Or.inl (if_neg nb)) (.inr ⟨_, vs.toArray, _, ho, rfl, rfl, rfl, by rw [List.size_toArray, lenV]; exact len, by simpa using relV⟩) ?_ (fun z => (z (if_neg noTA)).elim)
    intro b u z
    by_cases nb : atT cs b
    · have y := (if_pos nb).symm.trans z
      cases y
      exact tabA nb
    · exact nomatch (if_neg nb).symm.trans z
def TabTell (q : Program) (K : PySem.W.Frag) (h : Heap) : Prop := ∀ (x : Str) (c P : Addr), ((recsOf q).any fun e => e.name == x) = true → PySem.W.tabIn K x = some (c, P) → PySem.W.CodeHd h c P ∧ h.get? P = some tab0
theorem tab_mk {K : PySem.W.Frag} {x : Str} {f c P : Addr} {o1 q1 : Value} {o2 q2 : Option Addr} {o3 q3 : Array (Option Value)} {fd : FuncData} {vs : Array Value} (a : PySem.W.nsIn K mainGlobals x = some (some (.ref f))) (l : K.lookup f = some ⟨o1, o2, .func fd, o3⟩) (hc : fd.code = .ref c)
    (lc : K.lookup c = some ⟨q1, q2, .fields vs, q3⟩) (h : vs[11]? = some (.ref P)) : PySem.W.tabIn K x = some (c, P) := by
  unfold PySem.W.tabIn
  rw [a]
  dsimp only
  rw [l]
  dsimp only
  rw [hc]
  dsimp only
  rw [lc]
  dsimp only
  rw [h]
theorem walkGT {l : PySem.W.OpenLaw} {n k : Nat} {q : Program} {loose : List Str} {XP : (Str → Option Value) → Heap → Prop} {YP : World → Heap → Prop} {d : DefRec} {K : Params → PySem.W.Frag} {CX : World → CXT} {sp : PySem.W.Frag → List (Addr × Addr) → Sp} {x : Str}
    (h1 : l.most = some n) (h2 : n ≤ sizeLine) (h3 : d.params.defaults = []) (imp : importsNone q = true) (room : Room k callerA)
    (hY : ∀ (w : World) (h : Heap), YP w h → (K w.params).In h)
    (F : ∀ (w : World) (mg : Str → Option Value) (fa : Addr) (h : Heap), (K w.params).In h → h.Ns mainGlobals mg → mg d.name = some (.ref fa) → TabTell q (K w.params) h →
      ∃ (fd : FuncData) (cs : List (Addr × Addr)), (∀ p ∈ cs, h.get? p.2 = some tab0) ∧ (∀ p ∈ cs, (K w.params).lookup p.2 = none) ∧ (∀ p ∈ cs, PySem.W.CodeHd h p.1 p.2) ∧ (∀ (s : Shared) (u : Value), BindsTo s fd ⟨[u], []⟩ [(x, u)]) ∧
        (∀ (H : Hp) (a : Addr) (ns : List Int), ns.length ≤ n → (∀ p ∈ cs, H p.2 = some (.tbl #[])) → SqL (K w.params) H a (ns.map V.int) → sp (K w.params) cs [.ref a] H (fun v _ => v = .bl true) fun _ _ _ => False) ∧
        ∀ base : Heap, (K w.params).In base → base.Ns mainGlobals mg → (∃ mm, base.Ns sysModules mm) → (∀ p ∈ cs, TabB base mg p.1 p.2) → FnG l.prog w (K w.params) mg base (CX w) k fa fd [x] (sp (K w.params) cs))
    (hCX : ∀ (w : World) (H : Hp) (s : Shared) (e : Value) (s' : Shared), CX w [] H s (fun _ _ _ => False) e s' → False) :
    PySem.W.WalkO q loose XP YP l.row.toRowW d [] (fun f vs => PySem.call f vs) := by
  refine Att.attach_call h1 h3 ?_
  intro w s0 s1 mg mb fa o pm cd doc a vs ns G Y ho hd hcd hmg hobj hints hlen hgen
  have KX := hY w _ Y
  have tell : TabTell q (K w.params) s1.heap := by
    intro x c P hx ht
    cases e : (recsOf q).find? (fun e => e.name == x) with
    | none =>
      rw [List.find?_eq_none] at e
      obtain ⟨d, h1, h2⟩ := List.any_eq_true.mp hx
      exact (e d h1 h2).elim
    | some d => exact PySem.W.tab_of G.T KX e ht
  obtain ⟨fd, cs, t1, t2, t3, hb, hsp, hF⟩ := F w mg fa _ KX G.T.g hmg tell
  refine lawGT KX G.T.g G.T.b G.T.builtins G.T.nolimit (G.T.seer imp) hgen t1 t2 t3 G.T.bmain hobj hints (Nat.le_trans hlen h2) room hF hb (fun H hT hS => hsp H a ns hlen hT hS) ?_
  intro H e s2
  exact hCX w H s1 e s2
end TD

set_option maxHeartbeats 4000000
namespace TD
open PySem PySem.Spec PyProof.Rows L2
open Evl (Ex)
section
variable {K : Fg} {ρ : En} {te : TE} {tt : TT}
theorem wipe_two {σ : L2.St} {vs : List Nat} {j0 j1 : Nat} {a b : Option V} (h0 : j0 ∈ vs) (h1 : j1 ∈ vs) : L2.wipe (((L2.wipe σ vs).set j0 a).set j1 b) vs = L2.wipe σ vs := by
  have c4 : ∀ (ws : List Nat) (m : L2.St) (j : Nat) (o : Option V), j ∉ ws → L2.wipe (m.set j o) ws = (L2.wipe m ws).set j o := by
    intro ws
    induction ws with
    | nil => exact fun _ _ _ _ => rfl
    | cons v ws ih =>
      intro m j o hn
      rw [List.mem_cons, not_or] at hn
      show (L2.wipe (m.set j o) ws).set v none = ((L2.wipe m ws).set v none).set j o
      rw [ih m j o hn.2, List.set_comm _ _ hn.1]
  have c3 : ∀ (us : List Nat) (m : L2.St) (j : Nat) (o : Option V), j ∈ us → L2.wipe (m.set j o) us = L2.wipe m us := by
    intro us
    induction us with
    | nil => exact fun m j o z => nomatch z
    | cons u us ih =>
      intro m j o hm
      show (L2.wipe (m.set j o) us).set u none = (L2.wipe m us).set u none
      by_cases hu : j ∈ us
      · rw [ih m j o hu]
      · rcases List.mem_cons.mp hm with z | z
        · subst z
          rw [c4 us m j o hu, List.set_set]
        · exact (hu z).elim
  rw [c3 vs _ _ _ h1, c3 vs _ _ _ h0]
  exact wipe_none vs
theorem ed_lcZ {ta : TA} {j0 j1 : Nat} {vs : List Nat} {ds es : List PyData} (f : PyData → Bool) (g : PyData → PyData) (h : EA K ta ρ [.list ds, .list es]) (hl : ds.length = es.length) (hj0 : j0 ∈ vs) (hj1 : j1 ∈ vs) (hz : ds.length ≤ 40000)
    (ht : ∀ (i : Nat) (x y : PyData), ds[i]? = some x → es[i]? = some y → ET K tt (((wipeD ρ vs).set j0 (some x)).set j1 (some y)) (f (.tuple [x, y]))) (he : ∀ (i : Nat) (x y : PyData), ds[i]? = some x → es[i]? = some y → f (.tuple [x, y]) = true → ED K te (((wipeD ρ vs).set j0 (some x)).set j1 (some y)) (g (.tuple [x, y]))) :
    ED K (tLc (iZip K ta) (gTup K 2 (gCons (gName j0) (gCons (gName j1) gNil))) tt te vs) ρ (.list (picked ((ds.zip es).map fun p => .tuple [p.1, p.2]) f g)) := fun σ B H s sd Q q =>
  h σ B H s sd _ fun us B1 H1 l1 d1 => by
    obtain ⟨v1, r1, rfl, a1, t1⟩ := d1.inv1
    obtain ⟨v2, r2, rfl, a2, t2⟩ := t1.inv1
    cases t2
    cases a1 with
    | @lst p xs _ e1 b1 =>
    cases a2 with
    | @lst p2 ys _ e2 b2 =>
    refine ⟨p, p2, xs, ys, rfl, SqL.of (l1.sub _ _ e1), SqL.of (l1.sub _ _ e2), fun D hD => ?_⟩
    have hxy : xs.length = ys.length := by rw [b1.len, b2.len, hl]
    refine ⟨fun i m H' => m = xs.length - i ∧ i ≤ xs.length ∧ Cz K B1 H1 D (picked (((ds.zip es).map fun p => PyData.tuple [p.1, p.2]).take i) f g) H', ⟨xs.length, by simp, Nat.zero_le _, cz_start l1.sub hD⟩, ?_⟩
    rintro i m H' ⟨rfl, hi, c⟩
    obtain ⟨B', acc, l, nD, eD, hacc⟩ := id c
    have q1 : SqL K H' p xs := SqL.of (l.ex _ _ (l1.sub _ _ e1))
    have q2 : SqL K H' p2 ys := SqL.of (l.ex _ _ (l1.sub _ _ e2))
    by_cases hlt : i < xs.length
    · refine .inr ⟨⟨xs, ys, xs[i], ys[i]'(by omega), q1, q2, List.getElem?_eq_getElem hlt, List.getElem?_eq_getElem (by omega)⟩, fun H' => Cz K B1 H1 D (picked (((ds.zip es).map fun p => PyData.tuple [p.1, p.2]).take (i + 1)) f g) H', fun H2 c2 => ⟨xs.length - (i + 1), by omega, rfl, hlt, c2⟩, ?_⟩
      rintro v H2 ⟨T, x, y, rfl, hT, rfl, k1, k2⟩
      have hx := k1 xs q1
      have hy := k2 ys q2
      obtain ⟨x0, he1, dx⟩ := b1.get hx
      obtain ⟨y0, he2, dy⟩ := b2.get hy
      have hzp : ((ds.zip es).map fun p => PyData.tuple [p.1, p.2])[i]? = some (.tuple [x0, y0]) := by
        have zz : (ds.zip es)[i]? = some (x0, y0) := List.getElem?_zip_eq_some.mpr ⟨he1, he2⟩
        rw [List.getElem?_map, zz]
        rfl
      refine g_pair upd_same ?_
      have nDT : D ≠ T := fun z => by
        rw [z, hT] at eD
        cases eD
      have c' : Cz K B1 H1 D (picked (((ds.zip es).map fun p => PyData.tuple [p.1, p.2]).take i) f g) (upd H' T (.tup [x, y])) :=
        ⟨B', acc, l.tr ⟨Ex.new hT, Ex.refl B', l.sub.trans (Ex.new hT), fun _ h _ => h⟩, nD, by rw [upd_ne nDT]; exact eD, hacc⟩
      refine ⟨wipe_two hj0 hj1, ?_⟩
      refine cz_turn hD c' (((((sd.up l1.ek).wipe vs)).put j0 dx).put j1 dy) ?_ (ht i x0 y0 he1 he2) (he i x0 y0 he1 he2) (fun hf H2 c2 => ?_) (fun hf H2 c2 => ?_)
      · have z1 := picked_len (((ds.zip es).map fun p => PyData.tuple [p.1, p.2]).take i) f g
        have z2 : (((ds.zip es).map fun p => PyData.tuple [p.1, p.2]).take i).length ≤ ds.length := by
          rw [List.length_take, List.length_map, List.length_zip]
          omega
        omega
      · rw [picked_more hzp, if_pos hf]
        exact c2
      · rw [picked_more hzp, if_neg (by rw [hf]; exact Bool.false_ne_true), List.append_nil]
        exact c2
    · refine .inl ⟨⟨xs, ys, q1, q2, .inl (by omega)⟩, ?_⟩
      have e : ((ds.zip es).map fun p => PyData.tuple [p.1, p.2]).take i = (ds.zip es).map fun p => PyData.tuple [p.1, p.2] := List.take_of_length_le (by
        rw [List.length_map, List.length_zip, ← b1.len, ← b2.len]
        omega)
      rw [e] at c
      obtain ⟨B', l, hd⟩ := cz_end hD c
      exact q _ _ _ (l1.tr l) hd
end
end TD

set_option maxHeartbeats 4000000
namespace TD
open PySem PySem.Spec PyProof.Rows L2
open Evl (Ex)
section
variable {K : Fg} {E : XK} {t u : TS} {ρ ρ1 : En} {C f : Addr} {i j k : Nat} {ta tr : TA} {te tf : TE} {tt : TT} {ds : List PyData} {CP : Addr → Sp → Prop} {R : List PyData → PyData → Prop} {RX : List PyData → Addr → Nat → Prop}
theorem xz_retF (hf : EF K tf ρ f) (c : CP f (SpX K R RX)) (ha : EAi K ta ρ ds j i) (hR : RX ds C j) : XZ K E (tRet (tCallF CP tf (WE fun c d _ H => E c d H) ta)) ρ C i := fun σ B H D s sd v hv q =>
  hf σ B H s sd _ fun B1 H1 l1 => ⟨f, _, rfl, c, ha σ B1 H1 l1.sub (sd.up l1.ek) v hv _ fun vs B2 H2 l2 d2 e => ⟨B2, ds, l2.sub, d2, .inr ⟨C, j, v, hR, e, fun x B3 H3 l3 => q x B3 H3 ((l1.tr l2).tr l3)⟩⟩⟩
theorem xz_asgF {fs : List Addr} {m : Nat} (hf : EVs tr (fs.map V.ref)) (hz : fs.length ≤ 1000) (hm : m ≠ i) (hn : ρ[m]? = some none) (hi : ED K te ρ (.int (k : Int))) (hk : fs[k]? = some f) (c : CP f (SpX K R RX)) (ha : EAi K ta ρ ds j i) (hR : RX ds C j) :
    XZ K E (tSeq (tAsg (tLst tr) (gName m)) (tRet (tCallF CP (tOp (rIxL K) (tVar m) te) (WE fun c d _ H => E c d H) ta))) ρ C i := fun σ B H D s sd v hv q => by
  refine hf σ H _ ⟨by rw [List.length_map]; exact Evl.sz_of (by omega), fun p hp => ?_⟩
  have l : Le B H B (upd H p (.lst (fs.map V.ref))) := ⟨Ex.new hp, Ex.refl B, s.trans (Ex.new hp), fun _ h _ => h⟩
  have hl : m < σ.length := by
    rw [sd.1]
    exact (List.getElem?_eq_some_iff.mp hn).1
  have e0 : ρ.set m none = ρ := by
    obtain ⟨q1, q2⟩ := List.getElem?_eq_some_iff.mp hn
    rw [← q2]
    exact List.set_getElem_self q1
  have sd1 : SD K B (σ.set m (some (.ref p))) ρ := by
    have w := sd.drop m (some (.ref p))
    rwa [e0] at w
  have hv1 : (σ.set m (some (.ref p)))[i]? = some (some v) := by
    rw [List.getElem?_set_ne hm]
    exact hv
  refine ⟨.ref p, List.getElem?_set_self hl, hi _ B _ l.sub sd1 _ fun y B1 H1 l1 d1 => ?_⟩
  cases d1
  refine ⟨p, fs.map V.ref, (k : Int), .ref f, rfl, rfl, SqL.of (l1.ex _ _ upd_same), atI_nat (j := k) (by rw [List.getElem?_map, hk]; rfl), f, _, rfl, c, ?_⟩
  exact ha _ B1 H1 l1.sub (sd1.up l1.ek) v hv1 _ fun vs B2 H2 l2 d2 e => ⟨B2, ds, l2.sub, d2, .inr ⟨C, j, v, hR, e, fun x B3 H3 l3 => q x B3 H3 (((l.tr l1).tr l2).tr l3)⟩⟩
theorem xz_skip (h : ET K tt ρ false) (h1 : XZ K E u ρ C i) : XZ K E (tSeq (tIfS tt t tNext) u) ρ C i := xz_then (xi_skip h) h1
theorem xz_in (h : ET K tt ρ true) (h1 : XZ K E t ρ C i) : XZ K E (tSeq (tIfS tt t tNext) u) ρ C i := xz_here (xz_if1 h h1)
theorem lam_call {J : L2.St → Prop} {nm : Str} {fld : PyData} {m : Nat} (ha : EAi K ta ρ ds j i) (hR : RX ds C j) (hi : ρ[i]? = some (some fld)) (hm : ρ[m]? = some (some fld)) : LamR K J ρ (tCons (tC (.str nm)) (tCons (tVar m) tNil)) (fun E => tCallS (SpX K R RX) (WE fun c d _ H => E c d H) ta) nm fld C := by
  intro σ B _ sd
  obtain ⟨v', e', dv'⟩ := sd.2 i fld hi
  obtain ⟨v, e, dv⟩ := sd.2 m fld hm
  exact ⟨v, v', dv, dv', fun H Q q => ⟨v, e, q⟩, fun E B1 H1 Q' k s hx => ha σ B1 H1 s (sd.up k) v' e' _ fun vs B2 H2 l2 d2 e2 => ⟨B2, ds, l2.sub, d2, .inr ⟨C, j, v', hR, e2, fun x B3 H3 l3 => hx x B3 H3 (l2.tr l3)⟩⟩⟩
theorem lam_callF {nm : Str} {fld : PyData} {m n : Nat} (c : CP f (SpX K R RX)) (ha : EAi K ta ρ ds j i) (hR : RX ds C j) (hi : ρ[i]? = some (some fld)) (hm : ρ[m]? = some (some fld)) : LamR K (fun σ => σ[n]? = some (some (.ref f))) ρ (tCons (tC (.str nm)) (tCons (tVar m) tNil)) (fun E => tCallF CP (tVar n) (WE fun c d _ H => E c d H) ta) nm fld C := by
  intro σ B hf sd
  obtain ⟨v', e', dv'⟩ := sd.2 i fld hi
  obtain ⟨v, e, dv⟩ := sd.2 m fld hm
  exact ⟨v, v', dv, dv', fun H Q q => ⟨v, e, q⟩, fun E B1 H1 Q' k s hx => ⟨.ref f, hf, f, _, rfl, c, ha σ B1 H1 s (sd.up k) v' e' _ fun vs B2 H2 l2 d2 e2 => ⟨B2, ds, l2.sub, d2, .inr ⟨C, j, v', hR, e2, fun x B3 H3 l3 => hx x B3 H3 (l2.tr l3)⟩⟩⟩⟩
theorem lam_callI {J : L2.St → Prop} {nm : Str} {n : Int} (ha : ∀ σ B H, Ex B H → SD K B σ ρ → ∀ Q : List V → Hp → Prop, (∀ vs B' H', Le B H B' H' → Das K B' vs ds → vs[j]? = some (.int n) → Q vs H') → ta σ H Q) (hR : RX ds C j) : LamR K J ρ (tCons (tC (.str nm)) (tCons (tC (.int n)) tNil)) (fun E => tCallS (SpX K R RX) (WE fun c d _ H => E c d H) ta) nm (.int n) C := by
  intro σ B _ sd
  exact ⟨.int n, .int n, .int n, .int n, fun H Q q => q, fun E B1 H1 Q' k s hx => ha σ B1 H1 s (sd.up k) _ fun vs B2 H2 l2 d2 e2 => ⟨B2, ds, l2.sub, d2, .inr ⟨C, j, .int n, hR, e2, fun x B3 H3 l3 => hx x B3 H3 (l2.tr l3)⟩⟩⟩
end
end TD

set_option maxHeartbeats 4000000
namespace TD
open PySem PySem.Spec PyProof.Rows L2
open Evl (Ex)
open LamX (CodeO Tabs TabS TabB ExtN)
section
variable {P : Program} {w : World} {K : PySem.W.Frag} {mg : Str → Option Value} {base : Heap}
theorem code_is {x : Str} {st : Stmt} {f c Pt : Addr} {fd : FuncData} (F : Fun K x x st f fd) (hm : mg x = some (.ref f)) (inK : K.In base) (hns : base.Ns mainGlobals mg) (ht : PySem.W.tabIn K x = some (c, Pt)) : fd.code = .ref c := by
  obtain ⟨oc, od, kV, doc, pm, an, cdv, ct, osl, rfl, lk, hcd⟩ := F.ex
  exact PySem.W.law_code inK hns ht hm (inK _ _ lk) rfl
theorem fnGT {CX : CXT} {x : Str} {st : Stmt} {f c Pt : Addr} {fd : FuncData} {N ps : List Str} {k : Nat} {sp : Sp} (F : Fun K x x st f fd) (hm : mg x = some (.ref f)) (kIn : K.In base) (hns : base.Ns mainGlobals mg) (htab : PySem.W.tabIn K x = some (c, Pt)) (S : FnScope N ps (defScope st))
    (ln : ∀ vs H Q E, sp vs H Q E → vs.length = ps.length)
    (body : ∀ (A : Around) (outer : List Env) (s : Shared) (H : Hp) (vs : List V) (Q : VK) (E : XK),
      A.guards = some [] → Room k (A.deeper (envOfC x (defScope st) s.heap.objs.size f (.ref c))) → sp vs H Q E →
      ∃ t, PSs (cxOf CX P w K mg base N x (defScope st) f (.ref c) A outer s H E) (defBody st) t ∧ t { nx := fun _ H' => Q .non H', rt := Q } (start N vs) H) :
    FnG P w K mg base CX (k + 1) f fd ps sp := by
  have ec := code_is F hm kIn hns htab
  obtain ⟨oc, od, kV, doc, pm, an, cdv, ct, osl, rfl, lk, hcd⟩ := F.ex
  have ec2 : cdv = .ref c := ec
  subst ec2
  refine ⟨ln, ?_⟩
  intro A outer s H args us vs Q E hg hr e0 hb r hsp
  have keepB : ∀ b o, base.get? b = some o → s.heap.get? b = some o := fun b o e => (e0.bs b o e).1
  have inK : K.In s.heap := e0.mod.kin.keeps keepB
  have noLim : s.heap.NoLimit := e0.mod.nolimit.keeps keepB
  have kinds : ∀ y ∈ ps.zip us, (defScope st).names.lookup y.1 = some .local ∨
      ((defScope st).names.lookup y.1 = some .cell ∧ ((cellsFrom (s.heap.objs.size + 1) (defScope st).names []).lookup y.1).isSome = true) := by
    intro ⟨nm, u⟩ hy
    rcases S.par nm (List.of_mem_zip hy).1 with z | z
    · exact Or.inl z
    · exact Or.inr ⟨z, PySem.W.cellsFrom_some _ _ _ (Or.inl z)⟩
  refine codeAny_call_function hr.depth (inK _ _ lk) rfl S.co S.gen rfl (PySem.W.codeRec_of inK hcd) (hb _ _ _ _ ?_)
  refine wpAny_newFunctionEnv_cells S.kind kinds fun en hen s1 x1 => ?_
  subst hen
  refine ⟨noLim.keeps x1.toInCall.keep, codeAny_func ?_⟩
  obtain ⟨t, ht, hq⟩ := body A outer s H vs Q E hg (hr.deeper _) hsp
  have I1 : Inv (cxOf CX P w K mg base N x (defScope st) f (.ref c) A outer s H E) [] (start N vs) H s1 := inv_start S hr.hd e0 (ln _ _ _ _ hsp) r x1
  refine wpAny_mono (ht.run [] s1 (start N vs) H _ I1 hq) ?_ (fun _ _ z => z)
  intro fl s2 hs
  match fl, hs with
  | .ret u, ⟨v, _, H2, J, rv, q⟩ => exact ⟨v, H2, J.os, J.bare, J.base, J.hok, rv, q⟩
  | .next, ⟨_, H2, J, q⟩ => exact ⟨V.non, H2, J.os, J.bare, J.base, J.hok, rfl, q⟩
  | .brk, ⟨_, _, _, q⟩ => exact q.elim
  | .cont, ⟨_, _, _, q⟩ => exact q.elim
end
section
variable {K : Fg} {T : List (Addr × Str)} {i j l n : Nat} {t u : TS} {ρ : En} {d d1 d2 : PyData} {ta : TA}
theorem xt_up {J : L2.St → Prop} {ρ' : En} {m m' : Nat} (h : XT K T J i t ρ ρ' n m) (e : m ≤ m') : XT K T J i t ρ ρ' n m' := fun σ B H D jj s sd a q =>
  h σ B H D jj s sd a fun σ1 B1 H1 j1 e1 s1 sd1 ⟨a1, ⟨p, acc, h1, h2, h3, h4, h5⟩, a3⟩ => q σ1 B1 H1 j1 e1 s1 sd1 ⟨a1, ⟨p, acc, h1, h2, h3, Nat.le_trans h4 e, h5⟩, a3⟩
theorem xt_end {D : Ends} {σ : L2.St} {B H : Hp} (h : ∀ ds, allT ds → ds.length ≤ n → XS K t (ρ.set i (some (.list ds))) (.ret d)) (s : Ex B H) (sd : SD K B σ ρ) (a : TQ T i n σ B H) (q : ∀ v B' H', Da K B' v d → Tabs T H' → D.rt v H') : t D σ H := by
  obtain ⟨p, acc, h1, h2, h3, h4, h5⟩ := a.due
  have e : Ex B (upd B p (.lst acc)) := Ex.new h3
  have s2 : Ex (upd B p (.lst acc)) H := fun b o z => by
    by_cases w : b = p
    · subst w
      rw [upd_same] at z
      cases z
      exact h2
    · rw [upd_ne w] at z
      exact s b o z
  have dd : ∀ vs : List V, (∀ v ∈ vs, v = V.bl true) → Das K (upd B p (.lst acc)) vs (vs.map fun _ => PyData.bool true) := by
    intro vs
    induction vs with
    | nil => exact fun _ => .nil
    | cons v vs ih =>
      intro hv
      rw [hv v (List.mem_cons_self ..)]
      exact .cons (.bl true) (ih fun v h => hv v (List.mem_cons_of_mem _ h))
  have da : Da K (upd B p (.lst acc)) (.ref p) (.list (acc.map fun _ => PyData.bool true)) := .lst upd_same (dd acc h5)
  have sd2 : SD K (upd B p (.lst acc)) σ (ρ.set i (some (.list (acc.map fun _ => PyData.bool true)))) := by
    have z := (sd.up e).put i da
    have w : σ.set i (some (.ref p)) = σ := by
      obtain ⟨hi, he⟩ := List.getElem?_eq_some_iff.mp h1
      rw [← he]
      exact List.set_getElem_self hi
    rwa [w] at z
  exact h _ (fun d hd => by
    obtain ⟨_, _, z⟩ := List.mem_map.mp hd
    exact z.symm) (by rw [List.length_map]; exact h4) σ _ H D s2 sd2 fun v B' H' l hv => q v B' H' hv (a.tab.ext l.ex)
theorem xs_notin {ds : List PyData} (h : allT ds) (hi : ρ[i]? = some (some (.list ds))) : XS K (tRet (tOp (rIn K true) (tC (.bl false)) (tVar i))) ρ (.ret (.bool true)) := by
  have fl : ds.all flatD = true := List.all_eq_true.mpr fun d hd => by
    rw [h d hd]
    rfl
  refine xs_ret (ed_is (ed_op ed_bl (ed_var hi) (r_ni rfl fl)) ?_)
  have e : ds.any (fun e => PyData.eqv e (.bool false)) = false := List.any_eq_false.mpr fun d hd => by
    rw [h d hd]
    exact Bool.false_ne_true
  rw [e]
  rfl
end
end TD

set_option maxHeartbeats 4000000
namespace TD
open PySem PySem.Spec PyProof.Rows L2
open Evl (Ex)
def CPx (P : Program) (w : World) (K : Fg) (mg : Str → Option Value) (base : Heap) (k : Nat) : Addr → Sp → Prop := fun f sp => ∃ x ps, Fx P w K mg base x ps k sp ∧ mg x = some (.ref f)
theorem Fx.cpx {P : Program} {w : World} {K : Fg} {mg : Str → Option Value} {base : Heap} {x : Str} {ps : List Str} {k m : Nat} {sp : Sp} {a : Addr} (c : Fx P w K mg base x ps k sp) (h : k ≤ m) (hm : mg x = some (.ref a)) : CPx P w K mg base m a sp := ⟨x, ps, c.up h, hm⟩
section
variable {X : Cx} {fn e : Expr} {es : List Expr} {pos : Pos} {tf : TE} {t : TA} {E : L2.St → XK} {k : Nat}
theorem pe_callN {a : Str} {p : Pos} {i : Nat} {CP : Addr → Sp → Prop} (hcp : ∀ f sp, CP f sp → CPx X.prog X.w X.K X.mg X.base k f sp) (gu : X.A.guards = some []) (hr : Room k X.A) (hx : ∀ σ, PassesAt (L2.CX X.prog X.w) X σ (E σ)) (hN : X.N[i]? = some a) (hv : Vis X.env.scope a) (ha : PA X (e :: es) t)
    (z1 : (a == ("__debug__" : Str)) = false := by decide) (z2 : (a == ("__classdict__" : Str)) = false := by decide)
    (d2 : starEach (e :: es) X.env = (false, eval e X.env) :: starEach es X.env := by rfl)
    (d3 : (backTo pos (starEach es X.env)).any (·.1) = false := by rfl) :
    PE X (.Call (.Name a p) (e :: es) [] pos) (tCallF CP (tVar i) E t) := by
  refine ⟨fun pins s σ H Q I h => ?_⟩
  refine wpAny_Call_Name_kw (thn ((pe_var (pos := p) (i := i) hN hv z1 z2).run pins s σ H _ I h) fun u s1 ⟨v, H1, I1, r1, f, sp, ev, hc, q⟩ => ?_)
  obtain ⟨x, ps, c, hm⟩ := hcp f sp hc
  subst ev
  cases (show u = Value.ref f from r1)
  obtain ⟨fd, ps, k, kp, hb, hr, F⟩ := c.callee hr hm
  refine PySem.W.callWith_K (h₀ := X.base) I1.ok.mod.kin kp (thn (ha.run pos pins s1 σ H1 _ I1 q) ?_) d2 d3
  intro us s2 ⟨vs, H2, I2, r, q2⟩
  exact ⟨I2.kIn, runGS F gu hr hb (hx σ) I2 r q2⟩
theorem pass_no {σ : L2.St} : PassesAt (L2.CX X.prog X.w) X σ (fun _ _ _ => False) := fun _ _ _ _ _ _ c => by
  obtain ⟨_, _, _, _, _, _, _, _, _, _, _, _, z⟩ := c
  exact z.elim
end
section
variable {K : Fg} {T : List (Addr × Str)} {i j l n : Nat} {u : TS} {ρ : En} {d1 d2 : PyData} {ta : TA}
end
section
variable {K : Fg} {ρ : En} {ta : TA} {ds : List PyData} {f : Addr} {j : Nat} {CP : Addr → Sp → Prop} {R : List PyData → PyData → Prop} {RX : List PyData → Addr → Nat → Prop}
end
end TD

set_option maxHeartbeats 4000000
namespace TD
open PySem PySem.Spec PyProof.Rows L2
open Evl (Ex)
inductive ER where
  | st | v (d : PyData) (ρ : En) | o (d : PyData) (ρ : En) | x (c i : Nat)
inductive AR where
  | st | vs (ds : List PyData) (ρ : En) | x (c i : Nat)
inductive TR where
  | st | b (b : Bool) (ρ : En) | x (c i : Nat)
inductive SR where
  | st | nx (ρ : En) | ret (d : PyData) (ρ : En) | reto (d : PyData) (ρ : En) | br (ρ : En) | ct (ρ : En) | x (c i : Nat)
inductive FR where
  | st | v (d e : PyData) | o (d e : PyData) | x (c j : Nat)
abbrev OW := Nat → Addr → Prop
abbrev at1 (p : Addr) : Addr → Prop := fun a => a = p
abbrev WA (W : OW) (p : Addr) : Prop := ∃ i, W i p
def OW.put (W : OW) (i : Nat) (A : Addr → Prop) : OW := fun j p => (j = i ∧ A p) ∨ (j ≠ i ∧ W j p)
section
variable (K : Fg)
abbrev tD (kvs : List (PyData × PyData)) : PyData := .tuple [.dict kvs]
def Rows (B H : Hp) (A : Addr → Prop) : List Addr → List (List PyData) → Prop
  | [], [] => True
  | q :: qs, r :: rs => (A q ∧ q ∉ qs ∧ ∃ vs, H q = some (.lst vs) ∧ Das K B vs r) ∧ Rows B H A qs rs
  | _, _ => False
def Own (B H : Hp) (p : Addr) (A : Addr → Prop) : PyData → Prop
  | .list ds => A p ∧ ∃ vs, H p = some (.lst vs) ∧ Das K B vs ds
  | .dict kvs => A p ∧ ∃ (ws : List (Key × V)) (ds : List PyData), H p = some (.dK ws) ∧ Das K B (ws.map (·.2)) ds ∧ kvs = (ws.map fun q => keyD q.1).zip ds
  | .tuple [.dict kvs] => A p ∧ ∃ (ws : List (List Key × V)) (ds : List PyData), H p = some (.dT ws) ∧ Das K B (ws.map (·.2)) ds ∧ kvs = (ws.map fun q => PyData.tuple (q.1.map keyD)).zip ds
  | .tuple [.list ls] => A p ∧ ∃ (qs : List Addr) (rs : List (List PyData)), ls = rs.map PyData.list ∧ H p = some (.lst (qs.map V.ref)) ∧ p ∉ qs ∧ Rows K B H A qs rs
  | _ => False
abbrev markD (ns : List Int) : PyData := .tuple [.dict [(.none, .list (ns.map PyData.int))]]
def DaS (B : Hp) (v : V) (d : PyData) : Prop := Da K B v d ∨ ∃ (sc : Addr) (ns : List Int), v = .ref sc ∧ d = markD ns ∧ SqL K B sc (ns.map V.int)
structure SDo (O : Nat → Bool) (σ : L2.St) (B H : Hp) (ρ : En) (W : OW) : Prop where
  len : σ.length = ρ.length
  dat : ∀ (i : Nat) (d : PyData), O i = false → ρ[i]? = some (some d) → ∃ v, σ[i]? = some (some v) ∧ DaS K B v d
  own : ∀ (i : Nat) (d : PyData), O i = true → ρ[i]? = some (some d) → ∃ p, σ[i]? = some (some (.ref p)) ∧ Own K B H p (W i) d
  bh : ∀ (i : Nat) (p : Addr), W i p → B p = none ∧ H p ≠ none
  dis : ∀ (i j : Nat) (p : Addr), W i p → W j p → i = j
end
structure LeO (A : Addr → Prop) (B H B' H' : Hp) : Prop where
  ex : ∀ b o, H b = some o → ¬ A b → H' b = some o
  dom : ∀ b, H b ≠ none → H' b ≠ none
  ek : Ex B B'
  sub : Ex B' H'
  old : ∀ a, B a = none → H a ≠ none → ¬ A a → B' a = none
structure Go (W : OW) (B H : Hp) (W' : OW) (B' H' : Hp) : Prop extends LeO (WA W) B H B' H' where
  own : ∀ p, WA W' p → WA W p ∨ H p = none
theorem LeO.rfl' {A : Addr → Prop} {B H : Hp} (s : Ex B H) : LeO A B H B H := ⟨fun _ _ h _ => h, fun _ h => h, Ex.refl B, s, fun _ h _ _ => h⟩
theorem Go.rfl' {W : OW} {B H : Hp} (s : Ex B H) : Go W B H W B H := ⟨LeO.rfl' s, fun _ z => .inl z⟩
theorem Le.lo {A : Addr → Prop} {B H B' H' : Hp} (l : Le B H B' H') : LeO A B H B' H' where
  ex := fun b o h _ => l.ex b o h
  dom := fun b h => by
    cases e : H b with
    | none => exact (h e).elim
    | some o =>
      rw [l.ex b o e]
      exact fun z => nomatch z
  ek := l.ek
  sub := l.sub
  old := fun a h1 h2 _ => l.old a h1 h2
theorem Le.o {W : OW} {B H B' H' : Hp} (l : Le B H B' H') : Go W B H W B' H' := ⟨l.lo, fun _ z => .inl z⟩
theorem LeO.tr {A A2 : Addr → Prop} {B H B1 H1 B2 H2 : Hp} (a : LeO A B H B1 H1) (b : LeO A2 B1 H1 B2 H2) (h : ∀ p, A2 p → A p ∨ H p = none) : LeO A B H B2 H2 where
  ex := fun x o e n => b.ex x o (a.ex x o e n) fun z => by
    rcases h x z with w | w
    · exact n w
    · rw [e] at w
      exact nomatch w
  dom := fun x e => b.dom x (a.dom x e)
  ek := a.ek.trans b.ek
  sub := b.sub
  old := fun x h1 h2 n => b.old x (a.old x h1 h2 n) (a.dom x h2) fun z => by
    rcases h x z with w | w
    · exact n w
    · exact h2 w
theorem LeO.to {A A2 : Addr → Prop} {B H B1 H1 : Hp} (a : LeO A2 B H B1 H1) (h : ∀ p, A2 p → A p ∨ H p = none) : LeO A B H B1 H1 where
  ex := fun x o e n => a.ex x o e fun z => by
    rcases h x z with w | w
    · exact n w
    · rw [e] at w
      exact nomatch w
  dom := a.dom
  ek := a.ek
  sub := a.sub
  old := fun x h1 h2 n => a.old x h1 h2 fun z => by
    rcases h x z with w | w
    · exact n w
    · exact h2 w
theorem LeO.back {A : Addr → Prop} {B H B1 H1 : Hp} (a : LeO A B H B1 H1) {p : Addr} (h : H1 p = none) : H p = none := Classical.byContradiction fun z => a.dom p z h
theorem Go.tr {W W1 W2 : OW} {B H B1 H1 B2 H2 : Hp} (a : Go W B H W1 B1 H1) (b : Go W1 B1 H1 W2 B2 H2) : Go W B H W2 B2 H2 := ⟨a.toLeO.tr b.toLeO a.own, fun p z => (b.own p z).elim (a.own p) fun h => .inr (a.toLeO.back h)⟩
section
variable {K : Fg} {O : Nat → Bool} {σ : L2.St} {ρ ρ1 ρ2 : En} {B H B1 H1 B2 H2 : Hp} {W W1 : OW} {A : Addr → Prop}
theorem sqL_ups {a : Addr} {xs : List V} (h : SqL K B a xs) (l : Ex B B1) : SqL K B1 a xs := Evl.ex_l l h
theorem DaS.ex {v : V} {d : PyData} (h : DaS K B v d) (l : Ex B B1) : DaS K B1 v d := by
  rcases h with h | ⟨sc, ns, h1, h2, h3⟩
  · exact .inl (h.ex l)
  · exact .inr ⟨sc, ns, h1, h2, sqL_ups h3 l⟩
theorem DaS.da {v : V} {d : PyData} (h : DaS K B v d) (n : ∀ x, d = .tuple [.dict [(.none, x)]] → False) : Da K B v d := by
  rcases h with h | ⟨sc, ns, h1, h2, h3⟩
  · exact h
  · exact (n _ h2).elim
theorem Rows.up {X : Addr → Prop} (l : LeO X B H B1 H1) (n : ∀ a, A a → ¬ X a) : ∀ {qs : List Addr} {rs : List (List PyData)}, Rows K B H A qs rs → Rows K B1 H1 A qs rs
  | [], [], _ => trivial
  | q :: qs, r :: rs, ⟨⟨h1, h2, vs, h3, h4⟩, t⟩ => ⟨⟨h1, h2, vs, l.ex _ _ h3 (n q h1), h4.ex l.ek⟩, Rows.up l n t⟩
theorem Own.up {p : Addr} {X : Addr → Prop} {d : PyData} (o : Own K B H p A d) (l : LeO X B H B1 H1) (n : ∀ a, A a → ¬ X a) : Own K B1 H1 p A d := match d, o with
  | .list _, ⟨q, vs, h, a⟩ => ⟨q, vs, l.ex _ _ h (n p q), a.ex l.ek⟩
  | .dict _, ⟨q, ws, ds, h, a, e⟩ => ⟨q, ws, ds, l.ex _ _ h (n p q), a.ex l.ek, e⟩
  | .tuple [.dict _], ⟨q, ws, ds, h, a, e⟩ => ⟨q, ws, ds, l.ex _ _ h (n p q), a.ex l.ek, e⟩
  | .tuple [.list _], ⟨q, qs, rs, e, h, m, a⟩ => ⟨q, qs, rs, e, l.ex _ _ h (n p q), m, a.up l n⟩
theorem Own.some {p : Addr} {d : PyData} (o : Own K B H p A d) : H p ≠ none := match d, o with
  | .list _, ⟨q, vs, h, a⟩ => by
    rw [h]
    exact fun z => nomatch z
  | .dict _, ⟨q, ws, ds, h, a, e⟩ => by
    rw [h]
    exact fun z => nomatch z
  | .tuple [.dict _], ⟨q, ws, ds, h, a, e⟩ => by
    rw [h]
    exact fun z => nomatch z
  | .tuple [.list _], ⟨q, qs, rs, e, h, m, a⟩ => by
    rw [h]
    exact fun z => nomatch z
theorem Own.at {p : Addr} {d : PyData} (o : Own K B H p A d) : A p := match d, o with
  | .list _, ⟨q, _⟩ => q
  | .dict _, ⟨q, _⟩ => q
  | .tuple [.dict _], ⟨q, _⟩ => q
  | .tuple [.list _], ⟨q, _⟩ => q
theorem Rows.ex (l : Ex B B1) : ∀ {qs : List Addr} {rs : List (List PyData)}, Rows K B H A qs rs → Rows K B1 H A qs rs
  | [], [], _ => trivial
  | q :: qs, r :: rs, ⟨⟨h1, h2, vs, h3, h4⟩, t⟩ => ⟨⟨h1, h2, vs, h3, h4.ex l⟩, Rows.ex l t⟩
theorem Own.ex {p : Addr} {d : PyData} (o : Own K B H p A d) (l : Ex B B1) : Own K B1 H p A d := match d, o with
  | .list _, ⟨q, vs, h, a⟩ => ⟨q, vs, h, a.ex l⟩
  | .dict _, ⟨q, ws, ds, h, a, e⟩ => ⟨q, ws, ds, h, a.ex l, e⟩
  | .tuple [.dict _], ⟨q, ws, ds, h, a, e⟩ => ⟨q, ws, ds, h, a.ex l, e⟩
  | .tuple [.list _], ⟨q, qs, rs, e, h, m, a⟩ => ⟨q, qs, rs, e, h, m, a.ex l⟩
theorem Rows.mono {A2 : Addr → Prop} (l : ∀ a, A a → A2 a) : ∀ {qs : List Addr} {rs : List (List PyData)}, Rows K B H A qs rs → Rows K B H A2 qs rs
  | [], [], _ => trivial
  | q :: qs, r :: rs, ⟨⟨h1, h2, vs, h3, h4⟩, t⟩ => ⟨⟨l q h1, h2, vs, h3, h4⟩, Rows.mono l t⟩
theorem Own.mono {A2 : Addr → Prop} {p : Addr} {d : PyData} (o : Own K B H p A d) (l : ∀ a, A a → A2 a) : Own K B H p A2 d := match d, o with
  | .list _, ⟨q, r⟩ => ⟨l p q, r⟩
  | .dict _, ⟨q, r⟩ => ⟨l p q, r⟩
  | .tuple [.dict _], ⟨q, r⟩ => ⟨l p q, r⟩
  | .tuple [.list _], ⟨q, qs, rs, e, h, m, a⟩ => ⟨l p q, qs, rs, e, h, m, a.mono l⟩
theorem SDo.up (s : SDo K O σ B H ρ W) {X : Addr → Prop} (l : LeO X B H B1 H1) (n : ∀ p, X p → ¬ WA W p) : SDo K O σ B1 H1 ρ W where
  len := s.len
  dat := fun i d h1 h2 => let ⟨v, a, b⟩ := s.dat i d h1 h2; ⟨v, a, b.ex l.ek⟩
  own := fun i d h1 h2 => let ⟨p, a, c⟩ := s.own i d h1 h2; ⟨p, a, c.up l fun a h z => n a z ⟨i, h⟩⟩
  bh := fun i p h => let ⟨h1, h2⟩ := s.bh i p h; ⟨l.old p h1 h2 fun z => n p z ⟨i, h⟩, l.dom p h2⟩
  dis := s.dis
theorem SDo.le (s : SDo K O σ B H ρ W) (l : Le B H B1 H1) : SDo K O σ B1 H1 ρ W := s.up (X := fun _ => False) l.lo fun _ z => z.elim
theorem SDo.put {v : V} {d : PyData} (s : SDo K O σ B H ρ W) (i : Nat) (hi : O i = false) (h : Da K B v d) : SDo K O (σ.set i (some v)) B H (ρ.set i (some d)) W := by
  have g : ∀ {j : Nat}, j ≠ i → (σ.set i (some v))[j]? = σ[j]? := fun hj => List.getElem?_set_ne (Ne.symm hj)
  have g2 : ∀ {j : Nat}, j ≠ i → (ρ.set i (some d))[j]? = ρ[j]? := fun hj => List.getElem?_set_ne (Ne.symm hj)
  have ne : ∀ {j : Nat}, O j = true → j ≠ i := fun hj e => by
    rw [e, hi] at hj
    exact nomatch hj
  refine ⟨by rw [List.length_set, List.length_set]; exact s.len, fun j e h1 hj => ?_, fun j e h1 hj => ?_, s.bh, s.dis⟩
  · by_cases q : j = i
    · subst q
      by_cases l : j < ρ.length
      · rw [List.getElem?_set_self l] at hj
        cases hj
        exact ⟨v, List.getElem?_set_self (by rw [s.len]; exact l), .inl h⟩
      · rw [List.getElem?_eq_none (by rw [List.length_set]; omega)] at hj
        cases hj
    · rw [g2 q] at hj
      rw [g q]
      exact s.dat j e h1 hj
  · rw [g2 (ne h1)] at hj
    rw [g (ne h1)]
    exact s.own j e h1 hj
theorem SDo.less (s : SDo K O σ B H ρ W) (hl : ρ1.length = ρ.length) (h : ∀ (i : Nat) (d : PyData), ρ1[i]? = some (some d) → ρ[i]? = some (some d)) : SDo K O σ B H ρ1 W :=
  ⟨s.len.trans hl.symm, fun i d h1 h2 => s.dat i d h1 (h i d h2), fun i d h1 h2 => s.own i d h1 (h i d h2), s.bh, s.dis⟩
theorem put_wa {i : Nat} {p : Addr} (h : WA (W.put i A) p) : A p ∨ WA W p := by
  obtain ⟨j, h | h⟩ := h
  · exact .inl h.2
  · exact .inr ⟨j, h.2⟩
theorem SDo.putO {p : Addr} {d : PyData} (s : SDo K O σ B H ρ W) (i : Nat) (hi : O i = true) (o : Own K B H p A d) (n : ∀ a, A a → B a = none ∧ H a ≠ none ∧ ¬ WA W a) : SDo K O (σ.set i (some (.ref p))) B H (ρ.set i (some d)) (W.put i A) := by
  have g : ∀ {j : Nat}, j ≠ i → (σ.set i (some (.ref p)))[j]? = σ[j]? := fun hj => List.getElem?_set_ne (Ne.symm hj)
  have g2 : ∀ {j : Nat}, j ≠ i → (ρ.set i (some d))[j]? = ρ[j]? := fun hj => List.getElem?_set_ne (Ne.symm hj)
  refine ⟨by rw [List.length_set, List.length_set]; exact s.len, fun j e h1 hj => ?_, fun j e h1 hj => ?_, fun j a h => ?_, fun j k a hj hk => ?_⟩
  · have ne : j ≠ i := fun z => by
      rw [z, hi] at h1
      exact nomatch h1
    rw [g2 ne] at hj
    rw [g ne]
    exact s.dat j e h1 hj
  · by_cases q : j = i
    · subst q
      by_cases l : j < ρ.length
      · rw [List.getElem?_set_self l] at hj
        cases hj
        exact ⟨p, List.getElem?_set_self (by rw [s.len]; exact l), o.mono fun a h => .inl ⟨rfl, h⟩⟩
      · rw [List.getElem?_eq_none (by rw [List.length_set]; omega)] at hj
        cases hj
    · rw [g2 q] at hj
      rw [g q]
      obtain ⟨p2, e1, e2⟩ := s.own j e h1 hj
      exact ⟨p2, e1, e2.mono fun a h => .inr ⟨q, h⟩⟩
  · rcases h with ⟨_, h⟩ | ⟨_, h⟩
    · exact ⟨(n a h).1, (n a h).2.1⟩
    · exact s.bh j a h
  · rcases hj with ⟨e1, h1⟩ | ⟨e1, h1⟩ <;> rcases hk with ⟨e2, h2⟩ | ⟨e2, h2⟩
    · rw [e1, e2]
    · exact ((n a h1).2.2 ⟨k, h2⟩).elim
    · exact ((n a h2).2.2 ⟨j, h1⟩).elim
    · exact s.dis j k a h1 h2
theorem SDo.chgG {p : Addr} {d d' : PyData} (s : SDo K O σ B H ρ W) (i : Nat) (hi : O i = true) (h : ρ[i]? = some (some d)) (hs : σ[i]? = some (some (.ref p))) (l : LeO (W i) B H B1 H1) (hb : ∀ a, A a → B1 a = none ∧ H1 a ≠ none ∧ (W i a ∨ H a = none)) (ho : Own K B1 H1 p A d') : SDo K O σ B1 H1 (ρ.set i (some d')) (W.put i A) ∧ Go W B H (W.put i A) B1 H1 := by
  have g2 : ∀ {j : Nat}, j ≠ i → (ρ.set i (some d'))[j]? = ρ[j]? := fun hj => List.getElem?_set_ne (Ne.symm hj)
  have il : i < ρ.length := (List.getElem?_eq_some_iff.mp h).1
  refine ⟨⟨by rw [List.length_set]; exact s.len, fun j e h1 hj => ?_, fun j e h1 hj => ?_, fun j a h => ?_, fun j k a hj hk => ?_⟩, l.to fun a z => .inl ⟨i, z⟩, fun a z => ?_⟩
  · have ne : j ≠ i := fun z => by
      rw [z, hi] at h1
      exact nomatch h1
    rw [g2 ne] at hj
    obtain ⟨v, a, b⟩ := s.dat j e h1 hj
    exact ⟨v, a, b.ex l.ek⟩
  · by_cases q : j = i
    · subst q
      rw [List.getElem?_set_self il] at hj
      cases hj
      exact ⟨p, hs, ho.mono fun a h => .inl ⟨rfl, h⟩⟩
    · rw [g2 q] at hj
      obtain ⟨p2, f1, f3⟩ := s.own j e h1 hj
      exact ⟨p2, f1, (f3.up l fun a z w => q (s.dis j i a z w)).mono fun a h => .inr ⟨q, h⟩⟩
  · rcases h with ⟨_, h⟩ | ⟨q, h⟩
    · exact ⟨(hb a h).1, (hb a h).2.1⟩
    · obtain ⟨h1, h2⟩ := s.bh j a h
      exact ⟨l.old a h1 h2 fun w => q (s.dis j i a h w), l.dom a h2⟩
  · rcases hj with ⟨e1, h1⟩ | ⟨e1, h1⟩ <;> rcases hk with ⟨e2, h2⟩ | ⟨e2, h2⟩
    · rw [e1, e2]
    · rcases (hb a h1).2.2 with z | z
      · exact (e2 (s.dis k i a h2 z)).elim
      · exact ((s.bh k a h2).2 z).elim
    · rcases (hb a h2).2.2 with z | z
      · exact (e1 (s.dis j i a h1 z)).elim
      · exact ((s.bh j a h1).2 z).elim
    · exact s.dis j k a h1 h2
  · rcases put_wa z with w | w
    · exact (hb a w).2.2.imp (fun z => ⟨i, z⟩) id
    · exact .inl w
end
end TD

set_option maxHeartbeats 4000000
namespace TD
open PySem PySem.Spec PyProof.Rows L2
open Evl (Ex)
def Mo (_ : Nat → Bool) (_ _ : En) : Prop := True
theorem Mo.rfl' {O : Nat → Bool} {ρ : En} : Mo O ρ ρ := trivial
theorem Mo.tr {O : Nat → Bool} {ρ ρ1 ρ2 : En} (_ : Mo O ρ ρ1) (_ : Mo O ρ1 ρ2) : Mo O ρ ρ2 := trivial
theorem Go.mo {O : Nat → Bool} {ρ ρ1 : En} {W W1 W2 : OW} {B H B1 H1 B2 H2 : Hp} (a : Go W B H W1 B1 H1) (b : Go W1 B1 H1 W2 B2 H2) (_ : Mo O ρ ρ1) : Go W B H W2 B2 H2 := a.tr b
def FrA (W : OW) (H : Hp) (W' : OW) (B' H' : Hp) (A : Addr → Prop) : Prop := ∀ a, A a → B' a = none ∧ H' a ≠ none ∧ ¬ WA W' a ∧ (WA W a ∨ H a = none)
theorem FrA.behind {W W1 W2 : OW} {B H B1 H1 B2 H2 : Hp} {A : Addr → Prop} (n : FrA W1 H1 W2 B2 H2 A) (l : Go W B H W1 B1 H1) : FrA W H W2 B2 H2 A := fun a h =>
  let ⟨h1, h2, h3, h4⟩ := n a h
  ⟨h1, h2, h3, h4.elim (l.own a) fun z => .inr (l.toLeO.back z)⟩
def PX (E : XK) (_ : Nat → Bool) (_ : L2.St) (B H : Hp) (_ : En) (W : OW) (C : Addr) (v : V) : Prop := ∀ x B' H', LeO (WA W) B H B' H' → H' x = some (xdV v) → E (.ref C) (some x) H'
section
variable (K : Fg) (cl : Nat → Addr) (E : XK) (m : Nat) (O : Nat → Bool)
def PV (σ : L2.St) (B H : Hp) (ρ : En) (W : OW) (d : PyData) (ρ' : En) (Q : VK) : Prop := ∀ v B' H' W', Go W B H W' B' H' → SDo K O σ B' H' ρ' W' → Da K B' v d → Q v H'
def PO (σ : L2.St) (B H : Hp) (ρ : En) (W : OW) (d : PyData) (ρ' : En) (Q : VK) : Prop := ∀ p A B' H' W', Go W B H W' B' H' → SDo K O σ B' H' ρ' W' → Own K B' H' p A d → FrA W H W' B' H' A → Q (.ref p) H'
def EOy (te : TE) (ρ : En) : ER → Prop
  | .st => True
  | .v d ρ' => Mo O ρ ρ' ∧ ∀ σ B H W, Ex B H → SDo K O σ B H ρ W → ∀ Q, PV K O σ B H ρ W d ρ' Q → te σ H Q
  | .o d ρ' => Mo O ρ ρ' ∧ ∀ σ B H W, Ex B H → SDo K O σ B H ρ W → ∀ Q, PO K O σ B H ρ W d ρ' Q → te σ H Q
  | .x c i => i < m ∧ ∀ σ B H W, Ex B H → SDo K O σ B H ρ W → ∀ v, σ[i]? = some (some v) → PX E O σ B H ρ W (cl c) v → ∀ Q, te σ H Q
inductive AK where
  | d | s (i : Nat) | o (i : Nat)
def ArgOk (O : Nat → Bool) (σ : L2.St) (B : Hp) : List AK → List PyData → List V → Prop
  | [], [], [] => True
  | .d :: ks, d :: ds, v :: vs => Da K B v d ∧ ArgOk O σ B ks ds vs
  | .s i :: ks, d :: ds, v :: vs => Da K B v d ∧ σ[i]? = some (some v) ∧ ArgOk O σ B ks ds vs
  | .o i :: ks, _ :: ds, v :: vs => σ[i]? = some (some v) ∧ ArgOk O σ B ks ds vs
  | _, _, _ => False
def PA_ (σ : L2.St) (B H : Hp) (ρ : En) (W : OW) (ks : List AK) (ds : List PyData) (ρ' : En) (Q : List V → Hp → Prop) : Prop := ∀ vs B' H' W', Go W B H W' B' H' → SDo K O σ B' H' ρ' W' → ArgOk K O σ B' ks ds vs → Q vs H'
def AOy (ta : TA) (ks : List AK) (ρ : En) : AR → Prop
  | .st => True
  | .vs ds ρ' => Mo O ρ ρ' ∧ ∀ σ B H W, Ex B H → SDo K O σ B H ρ W → ∀ Q, PA_ K O σ B H ρ W ks ds ρ' Q → ta σ H Q
  | .x c i => i < m ∧ ∀ σ B H W, Ex B H → SDo K O σ B H ρ W → ∀ v, σ[i]? = some (some v) → PX E O σ B H ρ W (cl c) v → ∀ Q, ta σ H Q
def TOy (tt : TT) (ρ : En) : TR → Prop
  | .st => True
  | .b b ρ' => Mo O ρ ρ' ∧ ∀ σ B H W, Ex B H → SDo K O σ B H ρ W → ∀ Q : Bool → Hp → Prop, (∀ B' H' W', Go W B H W' B' H' → SDo K O σ B' H' ρ' W' → Q b H') → tt σ H Q
  | .x c i => i < m ∧ ∀ σ B H W, Ex B H → SDo K O σ B H ρ W → ∀ v, σ[i]? = some (some v) → PX E O σ B H ρ W (cl c) v → ∀ Q, tt σ H Q
def YE (te : TE) (f : En → ER) : Prop := ∀ ρ, EOy K cl E m O te ρ (f ρ)
def YA (ta : TA) (ks : List AK) (f : En → AR) : Prop := ∀ ρ, AOy K cl E m O ta ks ρ (f ρ)
def YT (tt : TT) (f : En → TR) : Prop := ∀ ρ, TOy K cl E m O tt ρ (f ρ)
def Op2 (r : R2) (g : PyData → PyData → Option PyData) : Prop := ∀ x y z, g x y = some z → R2D K r x y z
def OpC (r : List V → Hp → VK → Prop) (g : List PyData → Option PyData) : Prop := ∀ xs z, g xs = some z → RcD K r xs z
end
def eVar (i : Nat) (ρ : En) : ER := match ρ[i]? with
  | some (some (.tuple [.dict [(.none, _)]])) => .st
  | some (some d) => .v d ρ
  | _ => .st
def eC (d : PyData) (ρ : En) : ER := .v d ρ
def eThen (r : ER) (k : PyData → En → ER) : ER := match r with
  | .v d ρ => k d ρ
  | .x c i => .x c i
  | _ => .st
def eo (o : Option PyData) (ρ : En) : ER := match o with
  | some d => .v d ρ
  | none => .st
def eFz (f : En → ER) (ρ : En) : ER := match f ρ with
  | .o (.list ds) ρ' => .v (.list ds) ρ'
  | .o (.dict ds) ρ' => .v (.dict ds) ρ'
  | .o (.tuple [.list ls]) ρ' => .v (.list ls) ρ'
  | .v d ρ' => .v d ρ'
  | .x c i => .x c i
  | _ => .st
def eOp (g : PyData → PyData → Option PyData) (fa fb : En → ER) (ρ : En) : ER := eThen (fa ρ) fun x ρ1 => eThen (fb ρ1) fun y ρ2 => eo (g x y) ρ2
def eBool (r : ER) : ER := match r with
  | .v (.bool b) ρ => .v (.bool b) ρ
  | .x c i => .x c i
  | _ => .st
def eAnd (fa fb : En → ER) (ρ : En) : ER := eThen (fa ρ) fun x ρ1 => match x with
  | .bool true => eBool (fb ρ1)
  | .bool false => .v (.bool false) ρ1
  | _ => .st
def eOr (fa fb : En → ER) (ρ : En) : ER := eThen (fa ρ) fun x ρ1 => match x with
  | .bool false => eBool (fb ρ1)
  | .bool true => .v (.bool true) ρ1
  | _ => .st
def aNil (ρ : En) : AR := .vs [] ρ
def aThen (r : AR) (k : List PyData → En → AR) : AR := match r with
  | .vs ds ρ => k ds ρ
  | .x c i => .x c i
  | .st => .st
def aCons (fa : En → ER) (fr : En → AR) (ρ : En) : AR := match fa ρ with
  | .v d ρ1 => aThen (fr ρ1) fun ds ρ2 => .vs (d :: ds) ρ2
  | .x c i => .x c i
  | _ => .st
def aE (r : AR) (k : List PyData → En → ER) : ER := match r with
  | .vs ds ρ => k ds ρ
  | .x c i => .x c i
  | .st => .st
def eCB (g : List PyData → Option PyData) (fa : En → AR) (ρ : En) : ER := aE (fa ρ) fun xs ρ1 => eo (g xs) ρ1
def eTup (fa : En → AR) (ρ : En) : ER := aE (fa ρ) fun ds ρ1 => match decide (ds.length ≤ 100000) with
  | true => .v (.tuple ds) ρ1
  | false => .st
def tVal' (fa : En → ER) (ρ : En) : TR := match fa ρ with
  | .v (.bool b) ρ1 => .b b ρ1
  | .x c i => .x c i
  | _ => .st
def tOrZ (fa fb : En → TR) (ρ : En) : TR := match fa ρ with
  | .b false ρ1 => fb ρ1
  | r => r
def tNotZ (fa : En → TR) (ρ : En) : TR := match fa ρ with
  | .b b ρ1 => .b (!b) ρ1
  | r => r
def tYesZ (ρ : En) : TR := .b true ρ
section
variable {K : Fg} {cl : Nat → Addr} {E : XK} {m : Nat} {O : Nat → Bool} {ta tb tc te : TE} {fa fb fc fe : En → ER} {tt tu : TT} {ft fu : En → TR} {al : TA} {fl : En → AR} {ks : List AK} {r r' : R2} {ρ ρ' ρ1 : En} {C : Addr} {i c : Nat} {W W1 : OW}
theorem PX.behind {σ : L2.St} {B H B1 H1 : Hp} {v : V} (w : PX E O σ B H ρ W C v) (l : Go W B H W1 B1 H1) (h : Mo O ρ ρ1) : PX E O σ B1 H1 ρ1 W1 C v := fun x B' H' l' => w x B' H' (l.toLeO.tr l' l.own)
theorem ey_then {te : TE} {x : ER} {k : PyData → En → ER} (h : EOy K cl E m O ta ρ x) (hx : ∀ σ H Q, (∀ Q', ta σ H Q') → te σ H Q)
    (hk : ∀ d ρ1, Mo O ρ ρ1 → (∀ σ B H W, Ex B H → SDo K O σ B H ρ W → ∀ Q, PV K O σ B H ρ W d ρ1 Q → ta σ H Q) → EOy K cl E m O te ρ (k d ρ1)) : EOy K cl E m O te ρ (eThen x k) := by
  cases x with
  | st => trivial
  | v d ρ1 => exact hk d ρ1 h.1 h.2
  | o d ρ1 => trivial
  | x c i => exact ⟨h.1, fun σ B H W s sd v hv w Q => hx σ H Q (h.2 σ B H W s sd v hv w)⟩
theorem EOy.behind {te tb : TE} {x : ER} (h : EOy K cl E m O tb ρ1 x) (mo : Mo O ρ ρ1) (hx : ∀ σ B H W, Ex B H → SDo K O σ B H ρ W → ∀ Q, (∀ B1 H1 W1, Go W B H W1 B1 H1 → SDo K O σ B1 H1 ρ1 W1 → tb σ H1 Q) → te σ H Q) : EOy K cl E m O te ρ x := by
  cases x with
  | st => trivial
  | v d ρ2 => exact ⟨mo.tr h.1, fun σ B H W s sd Q q => hx σ B H W s sd Q fun B1 H1 W1 l1 s1 => h.2 σ B1 H1 W1 l1.sub s1 Q fun v B2 H2 W2 l2 s2 d2 => q v B2 H2 _ (l1.mo l2 mo) s2 d2⟩
  | o d ρ2 => exact ⟨mo.tr h.1, fun σ B H W s sd Q q => hx σ B H W s sd Q fun B1 H1 W1 l1 s1 => h.2 σ B1 H1 W1 l1.sub s1 Q fun p A2 B2 H2 W2 l2 s2 o n => q p A2 B2 H2 _ (l1.mo l2 mo) s2 o (n.behind l1)⟩
  | x c i => exact ⟨h.1, fun σ B H W s sd v hv w Q => hx σ B H W s sd Q fun B1 H1 W1 l1 s1 => h.2 σ B1 H1 W1 l1.sub s1 v hv (w.behind l1 mo) Q⟩
theorem ey_of {o : Option PyData} (mo : Mo O ρ ρ1) (h : ∀ d, o = some d → ∀ σ B H W, Ex B H → SDo K O σ B H ρ W → ∀ Q, PV K O σ B H ρ W d ρ1 Q → te σ H Q) : EOy K cl E m O te ρ (eo o ρ1) := by
  cases o with
  | none => trivial
  | some d => exact ⟨mo, h d rfl⟩
theorem ye_var {i : Nat} (hO : O i = false := by rfl) : YE K cl E m O (tVar i) (eVar i) := fun ρ => by
  unfold eVar
  split
  · trivial
  · next d n h =>
    refine ⟨Mo.rfl', fun σ B H W s sd Q q => ?_⟩
    obtain ⟨v, e, hd⟩ := sd.dat i d hO h
    exact ⟨v, e, q v B H W (Go.rfl' s) sd (hd.da n)⟩
  · trivial
def OW.no (W : OW) (i : Nat) : OW := fun j p => j ≠ i ∧ W j p
theorem ye_c {u : V} {d : PyData} (h : ∀ B : Hp, Da K B u d) : YE K cl E m O (tC u) (eC d) := fun ρ => ⟨Mo.rfl', fun σ B H W s sd Q q => q u B H W (Go.rfl' s) sd (h B)⟩
theorem ye_int {i : Int} : YE K cl E m O (tC (.int i)) (eC (.int i)) := ye_c fun _ => .int i
theorem ye_bl {b : Bool} : YE K cl E m O (tC (.bl b)) (eC (.bool b)) := ye_c fun _ => .bl b
theorem po_freeze {σ : L2.St} {B H B1 H1 : Hp} {p : Addr} {A : Addr → Prop} {d : PyData} {Q : VK} (u : HO) (l1 : Go W B H W1 B1 H1) (s1 : SDo K O σ B1 H1 ρ1 W1) (pA : A p) (n : FrA W H W1 B1 H1 A) (hp : H1 p = some u) (hd : ∀ k : Ex B1 (upd B1 p u), Da K (upd B1 p u) (.ref p) d) (q : PV K O σ B H ρ W d ρ1 Q) : Q (.ref p) H1 := by
  obtain ⟨n1, _, n3, n4⟩ := n p pA
  have k : Ex B1 (upd B1 p u) := fun b v hb => by
    rw [upd_ne (ne_of_none hb n1)]
    exact hb
  have sb : Ex (upd B1 p u) H1 := fun b v hb => by
    by_cases z : b = p
    · rw [z, upd_same] at hb
      cases hb
      rw [z]
      exact hp
    · rw [upd_ne z] at hb
      exact l1.sub b v hb
  refine q (.ref p) (upd B1 p u) H1 W1 ⟨⟨l1.ex, l1.dom, l1.ek.trans k, sb, fun b h1 h2 h3 => ?_⟩, l1.own⟩ ⟨s1.len, fun i d h1 h2 => ?_, fun i d h1 h2 => ?_, fun i b h => ?_, s1.dis⟩ (hd k)
  · rw [upd_ne (fun z => by
      subst z
      rcases n4 with w | w
      · exact h3 w
      · exact h2 w)]
    exact l1.old b h1 h2 h3
  · obtain ⟨v, e1, e2⟩ := s1.dat i d h1 h2
    exact ⟨v, e1, e2.ex k⟩
  · obtain ⟨p2, e1, e3⟩ := s1.own i d h1 h2
    exact ⟨p2, e1, e3.ex k⟩
  · rw [upd_ne (fun z => n3 (by rw [← z]; exact ⟨i, h⟩))]
    exact s1.bh i b h
theorem po_freezeS {σ : L2.St} {B H B1 H1 : Hp} {v : V} {A : Addr → Prop} {d : PyData} {Q : VK} (S : List Addr) (l1 : Go W B H W1 B1 H1) (s1 : SDo K O σ B1 H1 ρ1 W1) (sA : ∀ a ∈ S, A a) (n : FrA W H W1 B1 H1 A) (hd : ∀ B2, Ex B1 B2 → (∀ a ∈ S, B2 a = H1 a) → Da K B2 v d) (q : PV K O σ B H ρ W d ρ1 Q) : Q v H1 := by
  have k : Ex B1 (fun b => if b ∈ S then H1 b else B1 b) := fun b o hb => by
    show (if b ∈ S then H1 b else B1 b) = some o
    rw [if_neg (fun z => by rw [(n b (sA b z)).1] at hb; exact nomatch hb)]
    exact hb
  have sb : Ex (fun b => if b ∈ S then H1 b else B1 b) H1 := fun b o hb => by
    have hb : (if b ∈ S then H1 b else B1 b) = some o := hb
    split at hb
    · exact hb
    · exact l1.sub b o hb
  refine q v _ H1 W1 ⟨⟨l1.ex, l1.dom, l1.ek.trans k, sb, fun b h1 h2 h3 => ?_⟩, l1.own⟩ ⟨s1.len, fun i d h1 h2 => ?_, fun i d h1 h2 => ?_, fun i b h => ?_, s1.dis⟩ (hd _ k fun a ha => if_pos ha)
  · show (if b ∈ S then H1 b else B1 b) = none
    rw [if_neg (fun z => (n b (sA b z)).2.2.2.elim h3 h2)]
    exact l1.old b h1 h2 h3
  · obtain ⟨v, e1, e2⟩ := s1.dat i d h1 h2
    exact ⟨v, e1, e2.ex k⟩
  · obtain ⟨p2, e1, e3⟩ := s1.own i d h1 h2
    exact ⟨p2, e1, e3.ex k⟩
  · show (if b ∈ S then H1 b else B1 b) = none ∧ _
    rw [if_neg (fun z => (n b (sA b z)).2.2.1 ⟨i, h⟩)]
    exact s1.bh i b h
theorem Rows.all {B H : Hp} {A : Addr → Prop} : ∀ {qs : List Addr} {rs : List (List PyData)}, Rows K B H A qs rs → ∀ q ∈ qs, A q
  | q :: qs, r :: rs, ⟨⟨h, _⟩, t⟩, x, hx => (List.mem_cons.mp hx).elim (fun e => e ▸ h) fun m => Rows.all t x m
theorem Rows.das {B B2 H : Hp} {A : Addr → Prop} (k : Ex B B2) : ∀ {qs : List Addr} {rs : List (List PyData)}, Rows K B H A qs rs → (∀ q ∈ qs, B2 q = H q) → Das K B2 (qs.map V.ref) (rs.map PyData.list)
  | [], [], _, _ => .nil
  | q :: qs, r :: rs, ⟨⟨_, _, vs, h, d⟩, t⟩, e => .cons (.lst ((e q List.mem_cons_self).trans h) (d.ex k)) (Rows.das k t fun x m => e x (List.mem_cons_of_mem _ m))
theorem ye_fz (h : YE K cl E m O te fe) : YE K cl E m O te (eFz fe) := fun ρ => by
  have a := h ρ
  unfold eFz
  cases e : fe ρ with
  | st => trivial
  | v d ρ1 => rw [e] at a; exact a
  | x c i => rw [e] at a; exact a
  | o d ρ1 =>
    rw [e] at a
    cases d with
    | list ds => exact ⟨a.1, fun σ B H W s sd Q q => a.2 σ B H W s sd Q fun p A1 B1 H1 W1 l1 s1 o n => let ⟨pA, vs, hp, hv⟩ := o; po_freeze (.lst vs) l1 s1 pA n hp (fun k => .lst upd_same (hv.ex k)) q⟩
    | tuple ts =>
      match ts, a with
      | [.list ls], a => exact ⟨a.1, fun σ B H W s sd Q q => a.2 σ B H W s sd Q fun p A1 B1 H1 W1 l1 s1 o n => by
          obtain ⟨pA, qs, rs, rfl, hp, _, r⟩ := o
          refine po_freezeS (p :: qs) l1 s1 (fun a h => (List.mem_cons.mp h).elim (fun e => e ▸ pA) (r.all a)) n (fun B2 k e => ?_) q
          exact .lst ((e p List.mem_cons_self).trans hp) (r.das k fun x m => e x (List.mem_cons_of_mem _ m))⟩
      | [], _ => trivial
      | [.none], _ => trivial
      | [.bool _], _ => trivial
      | [.int _], _ => trivial
      | [.str _], _ => trivial
      | [.tuple _], _ => trivial
      | [.dict _], _ => trivial
      | h :: _ :: _, _ => cases h <;> trivial
    | dict ds => exact ⟨a.1, fun σ B H W s sd Q q => a.2 σ B H W s sd Q fun p A1 B1 H1 W1 l1 s1 o n => let ⟨pA, ws, es, hp, hv, e⟩ := o; po_freeze (.dK ws) l1 s1 pA n hp (fun k => by rw [e]; exact .dic upd_same (hv.ex k)) q⟩
    | _ => trivial
theorem ye_op {g : PyData → PyData → Option PyData} (hr : Op2 K r g) (ha : YE K cl E m O ta fa) (hb : YE K cl E m O tb fb) : YE K cl E m O (tOp r ta tb) (eOp g fa fb) := fun ρ =>
  ey_then (ha ρ) (fun σ H Q z => z _) fun x ρ1 m1 hx => by
    have b := hb ρ1
    unfold eThen
    cases e : fb ρ1 with
    | st => trivial
    | o d ρ2 => trivial
    | x c i =>
      rw [e] at b
      exact ⟨b.1, fun σ B H W s sd v hv w Q => hx σ B H W s sd _ fun u B1 H1 W1 l1 s1 _ => b.2 σ B1 H1 W1 l1.sub s1 v hv (w.behind l1 m1) _⟩
    | v y ρ2 =>
      rw [e] at b
      refine ey_of (m1.tr b.1) fun d hd σ B H W s sd Q q => hx σ B H W s sd _ fun u B1 H1 W1 l1 s1 d1 => b.2 σ B1 H1 W1 l1.sub s1 _ fun w B2 H2 W2 l2 s2 d2 => hr x y d hd u w B2 H2 l2.sub (d1.ex l2.ek) d2 Q fun z B3 H3 l3 d3 => ?_
      exact q z B3 H3 _ ((l1.mo l2 m1).mo l3.o (m1.tr b.1)) (s2.le l3) d3
theorem ey_bool {x : ER} (h : EOy K cl E m O te ρ x) : EOy K cl E m O te ρ (eBool x) := by
  unfold eBool
  split
  · exact h
  · exact h
  · trivial
theorem ye_and (ha : YE K cl E m O ta fa) (hb : YE K cl E m O tb fb) : YE K cl E m O (tAndV ta tb) (eAnd fa fb) := fun ρ =>
  ey_then (ha ρ) (fun σ H Q z => z _) fun x ρ1 m1 hx => by
    cases x with
    | bool b =>
      cases b with
      | false =>
        refine ⟨m1, fun σ B H W s sd Q q => hx σ B H W s sd _ fun u B1 H1 W1 l1 s1 d1 => ?_⟩
        cases d1
        exact ⟨false, rfl, q _ B1 H1 W1 l1 s1 (.bl _)⟩
      | true =>
        refine (ey_bool (hb ρ1)).behind m1 fun σ B H W s sd Q q => hx σ B H W s sd _ fun u B1 H1 W1 l1 s1 d1 => ?_
        cases d1
        exact ⟨true, rfl, q B1 H1 W1 l1 s1⟩
    | _ => trivial
theorem ye_or (ha : YE K cl E m O ta fa) (hb : YE K cl E m O tb fb) : YE K cl E m O (tOrV ta tb) (eOr fa fb) := fun ρ =>
  ey_then (ha ρ) (fun σ H Q z => z _) fun x ρ1 m1 hx => by
    cases x with
    | bool b =>
      cases b with
      | true =>
        refine ⟨m1, fun σ B H W s sd Q q => hx σ B H W s sd _ fun u B1 H1 W1 l1 s1 d1 => ?_⟩
        cases d1
        exact ⟨true, rfl, q _ B1 H1 W1 l1 s1 (.bl _)⟩
      | false =>
        refine (ey_bool (hb ρ1)).behind m1 fun σ B H W s sd Q q => hx σ B H W s sd _ fun u B1 H1 W1 l1 s1 d1 => ?_
        cases d1
        exact ⟨false, rfl, q B1 H1 W1 l1 s1⟩
    | _ => trivial
theorem yt_of {T : TE → TT} (hT : ∀ te σ H (Q : Bool → Hp → Prop), te σ H (fun x H1 => ∃ k, x = .bl k ∧ Q k H1) → T te σ H Q) (hX : ∀ te σ H Q, (∀ Q', te σ H Q') → T te σ H Q) (ha : YE K cl E m O ta fa) : YT K cl E m O (T ta) (tVal' fa) := fun ρ => by
  have a := ha ρ
  unfold tVal'
  cases h : fa ρ with
  | st => trivial
  | o d ρ1 => trivial
  | x c i =>
    rw [h] at a
    exact ⟨a.1, fun σ B H W s sd v hv w Q => hX _ _ _ _ (a.2 σ B H W s sd v hv w)⟩
  | v d ρ1 =>
    rw [h] at a
    cases d with
    | bool b =>
      refine ⟨a.1, fun σ B H W s sd Q q => hT _ _ _ _ (a.2 σ B H W s sd _ fun u B1 H1 W1 l1 s1 d1 => ?_)⟩
      cases d1
      exact ⟨b, rfl, q B1 H1 W1 l1 s1⟩
    | _ => trivial
theorem yt_val (ha : YE K cl E m O ta fa) : YT K cl E m O (tTest ta) (tVal' fa) := yt_of (T := tTest) (fun _ _ _ _ h => h) (fun _ _ _ _ h => h _) ha
theorem yt_B (ha : YE K cl E m O ta fa) : YT K cl E m O (tB ta) (tVal' fa) := yt_of (T := tB) (fun _ _ _ _ h => h) (fun _ _ _ _ h => h _) ha
theorem yt_yes : YT K cl E m O tYes tYesZ := fun ρ => ⟨Mo.rfl', fun σ B H W s sd Q q => q B H W (Go.rfl' s) sd⟩
theorem yt_not (h : YT K cl E m O tt ft) : YT K cl E m O (tNot tt) (tNotZ ft) := fun ρ => by
  have a := h ρ
  unfold tNotZ
  cases h : ft ρ with
  | st => trivial
  | x c i =>
    rw [h] at a
    exact ⟨a.1, fun σ B H W s sd v hv w Q => a.2 σ B H W s sd v hv w _⟩
  | b b ρ1 =>
    rw [h] at a
    exact ⟨a.1, fun σ B H W s sd Q q => a.2 σ B H W s sd _ fun B1 H1 W1 l1 s1 => q B1 H1 W1 l1 s1⟩
theorem TOy.behind {tt tu : TT} {x : TR} (h : TOy K cl E m O tu ρ1 x) (mo : Mo O ρ ρ1) (hx : ∀ σ B H W, Ex B H → SDo K O σ B H ρ W → ∀ Q, (∀ B1 H1 W1, Go W B H W1 B1 H1 → SDo K O σ B1 H1 ρ1 W1 → tu σ H1 Q) → tt σ H Q) : TOy K cl E m O tt ρ x := by
  cases x with
  | st => trivial
  | b b ρ2 => exact ⟨mo.tr h.1, fun σ B H W s sd Q q => hx σ B H W s sd Q fun B1 H1 W1 l1 s1 => h.2 σ B1 H1 W1 l1.sub s1 Q fun B2 H2 W2 l2 s2 => q B2 H2 _ (l1.mo l2 mo) s2⟩
  | x c i => exact ⟨h.1, fun σ B H W s sd v hv w Q => hx σ B H W s sd Q fun B1 H1 W1 l1 s1 => h.2 σ B1 H1 W1 l1.sub s1 v hv (w.behind l1 mo) Q⟩
theorem yt_or (h1 : YT K cl E m O tt ft) (h2 : YT K cl E m O tu fu) : YT K cl E m O (tOr tt tu) (tOrZ ft fu) := fun ρ => by
  have a := h1 ρ
  unfold tOrZ
  cases h : ft ρ with
  | st => trivial
  | x c i =>
    rw [h] at a
    exact ⟨a.1, fun σ B H W s sd v hv w Q => a.2 σ B H W s sd v hv w _⟩
  | b b1 ρ1 =>
    rw [h] at a
    cases b1 with
    | true => exact ⟨a.1, fun σ B H W s sd Q q => a.2 σ B H W s sd _ fun B1 H1 W1 l1 s1 => q B1 H1 W1 l1 s1⟩
    | false => exact (h2 ρ1).behind a.1 fun σ B H W s sd Q q => a.2 σ B H W s sd _ fun B1 H1 W1 l1 s1 => q B1 H1 W1 l1 s1
theorem ya_nil : YA K cl E m O tNil [] aNil := fun ρ => ⟨Mo.rfl', fun σ B H W s sd Q q => q [] B H W (Go.rfl' s) sd trivial⟩
theorem ArgOk.ex {B B' : Hp} {σ : L2.St} (k : Ex B B') : ∀ {ks : List AK} {ds : List PyData} {vs : List V}, ArgOk K O σ B ks ds vs → ArgOk K O σ B' ks ds vs
  | [], [], [], _ => trivial
  | .d :: _, _ :: _, _ :: _, h => ⟨h.1.ex k, ArgOk.ex k h.2⟩
  | .s _ :: _, _ :: _, _ :: _, h => ⟨h.1.ex k, h.2.1, ArgOk.ex k h.2.2⟩
  | .o _ :: _, _ :: _, _ :: _, h => ⟨h.1, ArgOk.ex k h.2⟩
theorem ay_cons {x : AR} {k1 : AK} {d : PyData} (mo : Mo O ρ ρ1) (h : AOy K cl E m O al ks ρ1 x) (hx : ∀ σ B H W, Ex B H → SDo K O σ B H ρ W → ∀ Q : V → Hp → Prop, (∀ u B1 H1 W1, Go W B H W1 B1 H1 → SDo K O σ B1 H1 ρ1 W1 → (∀ B2, Ex B1 B2 → ∀ vs ds, ArgOk K O σ B2 ks ds vs → ArgOk K O σ B2 (k1 :: ks) (d :: ds) (u :: vs)) → Q u H1) → ta σ H Q) : AOy K cl E m O (tCons ta al) (k1 :: ks) ρ (aThen x fun ds ρ2 => .vs (d :: ds) ρ2) := by
  cases x with
  | st => trivial
  | x c i => exact ⟨h.1, fun σ B H W s sd v hv w Q => hx σ B H W s sd _ fun u B1 H1 W1 l1 s1 _ => h.2 σ B1 H1 W1 l1.sub s1 v hv (w.behind l1 mo) _⟩
  | vs ds ρ2 => exact ⟨mo.tr h.1, fun σ B H W s sd Q q => hx σ B H W s sd _ fun u B1 H1 W1 l1 s1 hA => h.2 σ B1 H1 W1 l1.sub s1 _ fun vs B2 H2 W2 l2 s2 a2 => q (u :: vs) B2 H2 _ (l1.mo l2 mo) s2 (hA B2 l2.ek vs ds a2)⟩
theorem ya_cons (ha : YE K cl E m O ta fa) (hr : YA K cl E m O al ks fl) : YA K cl E m O (tCons ta al) (.d :: ks) (aCons fa fl) := fun ρ => by
  have a := ha ρ
  unfold aCons
  cases h : fa ρ with
  | st => trivial
  | o d ρ1 => trivial
  | x c i =>
    rw [h] at a
    exact ⟨a.1, fun σ B H W s sd v hv w Q => a.2 σ B H W s sd v hv w _⟩
  | v d ρ1 =>
    rw [h] at a
    exact ay_cons a.1 (hr ρ1) fun σ B H W s sd Q q => a.2 σ B H W s sd _ fun u B1 H1 W1 l1 s1 d1 => q u B1 H1 W1 l1 s1 fun B2 k vs ds hA => ⟨d1.ex k, hA⟩
theorem ya_var {i : Nat} (hr : YA K cl E m O al ks fl) (hO : O i = false := by rfl) : YA K cl E m O (tCons (tVar i) al) (.s i :: ks) (aCons (eVar i) fl) := fun ρ => by
  unfold aCons eVar
  split
  · next d ρ1 h =>
    split at h
    · exact nomatch h
    · next d' n h' =>
      cases h
      exact ay_cons Mo.rfl' (hr ρ) fun σ B H W s sd Q q => by
        obtain ⟨v, e, dv⟩ := sd.dat i d hO h'
        exact ⟨v, e, q v B H W (Go.rfl' s) sd fun B2 k vs ds hA => ⟨(dv.da n).ex k, e, hA⟩⟩
    · exact nomatch h
  · next c i h =>
    split at h <;> exact nomatch h
  · trivial
def dats (ks : List AK) : Bool := ks.all fun k => match k with
  | .o _ => false
  | _ => true
theorem ArgOk.das {B : Hp} {σ : L2.St} : ∀ {ks : List AK} {ds : List PyData} {vs : List V}, dats ks = true → ArgOk K O σ B ks ds vs → Das K B vs ds
  | [], [], [], _, _ => .nil
  | .d :: ks, _ :: _, _ :: _, e, h => .cons h.1 (ArgOk.das (ks := ks) e h.2)
  | .s _ :: ks, _ :: _, _ :: _, e, h => .cons h.1 (ArgOk.das (ks := ks) e h.2.2)
  | .o _ :: _, _ :: _, _ :: _, e, _ => nomatch e
theorem ay_E {x : AR} {k : List PyData → En → ER} (h : AOy K cl E m O al ks ρ x) (hx : ∀ σ H Q, (∀ Q', al σ H Q') → te σ H Q)
    (hk : ∀ ds ρ1, Mo O ρ ρ1 → (∀ σ B H W, Ex B H → SDo K O σ B H ρ W → ∀ Q, PA_ K O σ B H ρ W ks ds ρ1 Q → al σ H Q) → EOy K cl E m O te ρ (k ds ρ1)) : EOy K cl E m O te ρ (aE x k) := by
  cases x with
  | st => trivial
  | vs ds ρ1 => exact hk ds ρ1 h.1 h.2
  | x c i => exact ⟨h.1, fun σ B H W s sd v hv w Q => hx σ H Q (h.2 σ B H W s sd v hv w)⟩
theorem ye_cb {q : List V → Hp → VK → Prop} {g : List PyData → Option PyData} (hq : OpC K q g) (h : YA K cl E m O al ks fl) (hd : dats ks = true := by rfl) : YE K cl E m O (tCB q al) (eCB g fl) := fun ρ =>
  ay_E (h ρ) (fun σ H Q z => z _) fun ds ρ1 m1 hx => ey_of m1 fun d hd2 σ B H W s sd Q q => hx σ B H W s sd _ fun vs B1 H1 W1 l1 s1 a1 => hq ds d hd2 vs B1 H1 l1.sub (a1.das hd) Q fun z B3 H3 l3 d3 => q z B3 H3 _ (l1.mo l3.o m1) (s1.le l3) d3
theorem ye_tup (h : YA K cl E m O al ks fl) (hd : dats ks = true := by rfl) : YE K cl E m O (tTup al) (eTup fl) := fun ρ =>
  ay_E (h ρ) (fun σ H Q z => z _) fun ds ρ1 m1 hx => by
    cases h : decide (ds.length ≤ 100000) with
    | false => trivial
    | true =>
      refine ⟨m1, fun σ B H W s sd Q q => hx σ B H W s sd _ fun vs B1 H1 W1 l1 s1 a1 => ⟨das_big (a1.das hd) (of_decide_eq_true h), fun p hp => ?_⟩⟩
      have l2 := Le.new (o := .tup vs) l1.sub hp
      exact q _ _ _ _ (l1.mo l2.o m1) (s1.le l2) (.tup upd_same ((a1.das hd).ex l2.ek))
end
end TD

set_option maxHeartbeats 4000000
namespace TD
open PySem PySem.Spec PyProof.Rows L2
open Evl (Ex)
inductive IRz where
  | st | vs (ds : List PyData) (ρ : En) | x (c i : Nat)
section
variable (K : Fg) (cl : Nat → Addr) (E : XK) (m : Nat) (O : Nat → Bool)
def PN (σ : L2.St) (B H : Hp) (W : OW) (ρ' : En) (Q : L2.St → Hp → Prop) : Prop := ∀ σ' B' H' W', Go W B H W' B' H' → SDo K O σ' B' H' ρ' W' → (∀ i, i < m → σ'[i]? = σ[i]?) → Q σ' H'
def WZ (D : Ends) (σ : L2.St) (B H : Hp) (W : OW) : SR → Prop
  | .st => False
  | .nx ρ' => PN K m O σ B H W ρ' D.nx
  | .br ρ' => PN K m O σ B H W ρ' D.bk
  | .ct ρ' => PN K m O σ B H W ρ' D.ct
  | .ret d ρ' => ∀ v σ' B' H' W', Go W B H W' B' H' → SDo K O σ' B' H' ρ' W' → (∀ i, i < m → σ'[i]? = σ[i]?) → Da K B' v d → D.rt v H'
  | .reto d ρ' => ∀ p A σ' B' H' W', Go W B H W' B' H' → SDo K O σ' B' H' ρ' W' → (∀ i, i < m → σ'[i]? = σ[i]?) → Own K B' H' p A d → FrA W H W' B' H' A → D.rt (.ref p) H'
  | .x c i => ∃ v, σ[i]? = some (some v) ∧ PX E O σ B H [] W (cl c) v
def SOy (t : TS) (ρ : En) (r : SR) : Prop := (∀ c i, r = .x c i → i < m) ∧ ∀ σ B H W (D : Ends), Ex B H → SDo K O σ B H ρ W → WZ K cl E m O D σ B H W r → t D σ H
def YS (t : TS) (f : En → SR) : Prop := ∀ ρ, SOy K cl E m O t ρ (f ρ)
def Walks (J : It) (B : Hp) (ds : List PyData) : Prop := ∀ i B' H, Ex B B' → Ex B' H → (ds[i]? = none → J.stop i H) ∧ ∀ d, ds[i]? = some d → J.go i H ∧ ∀ x H', J.yld i H x H' → ∃ B'', Le B' H B'' H' ∧ Da K B'' x d
def IOy (ti : TI) (ρ : En) : IRz → Prop
  | .st => True
  | .vs ds ρ' => Mo O ρ ρ' ∧ ∀ σ B H W, Ex B H → SDo K O σ B H ρ W → ∀ R : It → Hp → Prop, (∀ J B' H' W', Go W B H W' B' H' → SDo K O σ B' H' ρ' W' → Walks K J B' ds → R J H') → ti σ H R
  | .x c i => i < m ∧ ∀ σ B H W, Ex B H → SDo K O σ B H ρ W → ∀ v, σ[i]? = some (some v) → PX E O σ B H ρ W (cl c) v → ∀ R, ti σ H R
def YI (ti : TI) (f : En → IRz) : Prop := ∀ ρ, IOy K cl E m O ti ρ (f ρ)
def ZG (g : TG) (gz : PyData → En → Option En) : Prop := ∀ d ρ ρ', gz d ρ = some ρ' → ∀ σ v B H W, Ex B H → SDo K O σ B H ρ W → Da K B v d → ∀ Q : L2.St → Hp → Prop, (∀ σ', SDo K O σ' B H ρ' W → (∀ i, i < m → σ'[i]? = σ[i]?) → Q σ' H) → g v σ H Q
end
def sNext (ρ : En) : SR := .nx ρ
def sNo (_ : En) : SR := .st
def sSeq (f g : En → SR) (ρ : En) : SR := match f ρ with
  | .nx ρ' => g ρ'
  | r => r
def sIf (ft : En → TR) (f g : En → SR) (ρ : En) : SR := match ft ρ with
  | .b true ρ1 => f ρ1
  | .b false ρ1 => g ρ1
  | .x c i => .x c i
  | .st => .st
def sE (r : ER) (k : PyData → En → SR) : SR := match r with
  | .v d ρ => k d ρ
  | .x c i => .x c i
  | _ => .st
def sRet (fa : En → ER) (ρ : En) : SR := match fa ρ with
  | .v d ρ => .ret d ρ
  | .o d ρ => .reto d ρ
  | .x c i => .x c i
  | .st => .st
def sDrop (fa : En → ER) (ρ : En) : SR := match fa ρ with
  | .v _ ρ => .nx ρ
  | .o _ ρ => .nx ρ
  | .x c i => .x c i
  | .st => .st
def sAsg (fa : En → ER) (g : PyData → En → Option En) (ρ : En) : SR := sE (fa ρ) fun d ρ1 => match g d ρ1 with
  | some ρ' => .nx ρ'
  | none => .st
def sAsgO (i : Nat) (fa : En → ER) (ρ : En) : SR := match fa ρ with
  | .o d ρ1 => .nx (ρ1.set i (some d))
  | .x c i => .x c i
  | _ => .st
def gN (i : Nat) (d : PyData) (ρ : En) : Option En := some (ρ.set i (some d))
def gTs : List (PyData → En → Option En) → List PyData → En → Option En
  | [], [], ρ => some ρ
  | g :: gs, d :: ds, ρ => match g d ρ with
    | some ρ' => gTs gs ds ρ'
    | none => none
  | _, _, _ => none
def gT (gs : List (PyData → En → Option En)) (d : PyData) (ρ : En) : Option En := match d with
  | .tuple ds => gTs gs ds ρ
  | _ => none
def sRaise (c i : Nat) (ρ : En) : SR := match ρ[i]? with
  | some (some _) => .x c i
  | _ => .st
section
variable {K : Fg} {cl : Nat → Addr} {E : XK} {m : Nat} {O : Nat → Bool} {ta tb tc te : TE} {fa fb fc fe : En → ER} {tt tu : TT} {ft fu : En → TR} {al : TA} {fl : En → AR} {ks : List AK} {ρ ρ' ρ1 : En} {t u : TS} {f g : En → SR} {tg : TG} {gz : PyData → En → Option En} {W W1 : OW}
theorem PN.behind {σ σ1 : L2.St} {B H B1 H1 : Hp} {ρ2 : En} {Q : L2.St → Hp → Prop} (q : PN K m O σ B H W ρ2 Q) (l : Go W B H W1 B1 H1) (k : ∀ i, i < m → σ1[i]? = σ[i]?) : PN K m O σ1 B1 H1 W1 ρ2 Q := fun σ' B' H' W' l' s' k' =>
  q σ' B' H' W' (l.tr l') s' fun i hi => (k' i hi).trans (k i hi)
theorem WZ.behind {D : Ends} {σ σ1 : L2.St} {B H B1 H1 : Hp} (l : Go W B H W1 B1 H1) (k : ∀ i, i < m → σ1[i]? = σ[i]?) : ∀ {r : SR}, (∀ c i, r = .x c i → i < m) → WZ K cl E m O D σ B H W r → WZ K cl E m O D σ1 B1 H1 W1 r
  | .st, _, q => q.elim
  | .nx _, _, q => PN.behind q l k
  | .br _, _, q => PN.behind q l k
  | .ct _, _, q => PN.behind q l k
  | .ret _ _, _, q => fun v σ' B' H' W' l' s' k' => q v σ' B' H' W' (l.tr l') s' fun i hi => (k' i hi).trans (k i hi)
  | .reto _ _, _, q => fun p A σ' B' H' W' l' s' k' ow n => q p A σ' B' H' W' (l.tr l') s' (fun i hi => (k' i hi).trans (k i hi)) ow (n.behind l)
  | .x c i, hm, ⟨v, e, w⟩ => ⟨v, (k i (hm c i rfl)).trans e, fun x B' H' l' => w x B' H' (l.toLeO.tr l' l.own)⟩
theorem WZ.mo {D : Ends} {σ : L2.St} {B H B1 H1 : Hp} (l : Go W B H W1 B1 H1) (_ : Mo O ρ ρ1) {r : SR} (hm : ∀ c i, r = .x c i → i < m) (q : WZ K cl E m O D σ B H W r) : WZ K cl E m O D σ B1 H1 W1 r := q.behind l (fun _ _ => rfl) hm
theorem SOy.mono {t u : TS} {r : SR} (h : SOy K cl E m O t ρ1 r) (hx : ∀ σ B H W (D : Ends), Ex B H → SDo K O σ B H ρ W → (∀ σ1 B1 H1 W1, Go W B H W1 B1 H1 → SDo K O σ1 B1 H1 ρ1 W1 → (∀ i, i < m → σ1[i]? = σ[i]?) → t D σ1 H1) → u D σ H) : SOy K cl E m O u ρ r :=
  ⟨h.1, fun σ B H W D s sd q => hx σ B H W D s sd fun σ1 B1 H1 W1 l1 s1 k1 => h.2 σ1 B1 H1 W1 D l1.sub s1 (q.behind l1 k1 h.1)⟩
theorem SOy.stuck {t : TS} : SOy K cl E m O t ρ .st := ⟨fun _ _ h => (nomatch h), fun _ _ _ _ _ _ _ q => q.elim⟩
theorem SOy.raise {t : TS} {c i : Nat} (hi : i < m) (h : ∀ σ B H W D, Ex B H → SDo K O σ B H ρ W → ∀ v, σ[i]? = some (some v) → PX E O σ B H ρ W (cl c) v → t D σ H) : SOy K cl E m O t ρ (.x c i) := ⟨fun _ _ e => by cases e; exact hi, fun σ B H W D s sd ⟨v, e, w⟩ => h σ B H W D s sd v e w⟩
theorem ys_next : YS K cl E m O tNext sNext := fun ρ => ⟨fun _ _ h => (nomatch h), fun σ B H W D s sd q => q σ B H W (Go.rfl' s) sd fun _ _ => rfl⟩
theorem ys_no : YS K cl E m O t sNo := fun _ => .stuck
theorem ys_seq (h1 : YS K cl E m O t f) (h2 : YS K cl E m O u g) : YS K cl E m O (tSeq t u) (sSeq f g) := fun ρ => by
  have a := h1 ρ
  unfold sSeq
  cases h : f ρ with
  | st => exact .stuck
  | nx ρ' =>
    rw [h] at a
    exact (h2 ρ').mono fun σ B H W D s sd q => a.2 σ B H W _ s sd q
  | ret d ρ' =>
    rw [h] at a
    exact ⟨a.1, fun σ B H W D s sd q => a.2 σ B H W _ s sd q⟩
  | reto d ρ' =>
    rw [h] at a
    exact ⟨a.1, fun σ B H W D s sd q => a.2 σ B H W _ s sd q⟩
  | br ρ' =>
    rw [h] at a
    exact ⟨a.1, fun σ B H W D s sd q => a.2 σ B H W _ s sd q⟩
  | ct ρ' =>
    rw [h] at a
    exact ⟨a.1, fun σ B H W D s sd q => a.2 σ B H W _ s sd q⟩
  | x c i =>
    rw [h] at a
    exact ⟨a.1, fun σ B H W D s sd q => a.2 σ B H W _ s sd q⟩
theorem ys_if (ht : YT K cl E m O tt ft) (h1 : YS K cl E m O t f) (h2 : YS K cl E m O u g) : YS K cl E m O (tIfS tt t u) (sIf ft f g) := fun ρ => by
  have a := ht ρ
  unfold sIf
  cases h : ft ρ with
  | st => exact .stuck
  | x c i =>
    rw [h] at a
    exact .raise a.1 fun σ B H W D s sd v hv w => a.2 σ B H W s sd v hv w _
  | b b ρ1 =>
    rw [h] at a
    cases b with
    | true => exact (h1 ρ1).mono fun σ B H W D s sd q => a.2 σ B H W s sd _ fun B1 H1 W1 l1 s1 => q σ B1 H1 W1 l1 s1 fun _ _ => rfl
    | false => exact (h2 ρ1).mono fun σ B H W D s sd q => a.2 σ B H W s sd _ fun B1 H1 W1 l1 s1 => q σ B1 H1 W1 l1 s1 fun _ _ => rfl
theorem ys_ret (ha : YE K cl E m O ta fa) : YS K cl E m O (tRet ta) (sRet fa) := fun ρ => by
  have a := ha ρ
  unfold sRet
  cases h : fa ρ with
  | st => exact .stuck
  | x c i =>
    rw [h] at a
    exact .raise a.1 fun σ B H W D s sd v hv w => a.2 σ B H W s sd v hv w _
  | v d ρ1 =>
    rw [h] at a
    exact ⟨fun _ _ h => (nomatch h), fun σ B H W D s sd q => a.2 σ B H W s sd _ fun v B1 H1 W1 l1 s1 d1 => q v σ B1 H1 W1 l1 s1 (fun _ _ => rfl) d1⟩
  | o d ρ1 =>
    rw [h] at a
    exact ⟨fun _ _ h => (nomatch h), fun σ B H W D s sd q => a.2 σ B H W s sd _ fun p A1 B1 H1 W1 l1 s1 o n => q p A1 σ B1 H1 W1 l1 s1 (fun _ _ => rfl) o n⟩
theorem ys_drop (ha : YE K cl E m O ta fa) : YS K cl E m O (tDrop ta) (sDrop fa) := fun ρ => by
  have a := ha ρ
  unfold sDrop
  cases h : fa ρ with
  | st => exact .stuck
  | x c i =>
    rw [h] at a
    exact .raise a.1 fun σ B H W D s sd v hv w => a.2 σ B H W s sd v hv w _
  | v d ρ1 =>
    rw [h] at a
    exact ⟨fun _ _ h => (nomatch h), fun σ B H W D s sd q => a.2 σ B H W s sd _ fun v B1 H1 W1 l1 s1 d1 => q σ B1 H1 W1 l1 s1 fun _ _ => rfl⟩
  | o d ρ1 =>
    rw [h] at a
    exact ⟨fun _ _ h => (nomatch h), fun σ B H W D s sd q => a.2 σ B H W s sd _ fun p A1 B1 H1 W1 l1 s1 o n => q σ B1 H1 W1 l1 s1 fun _ _ => rfl⟩
theorem sy_E {k : PyData → En → SR} {t : TS} (ha : YE K cl E m O ta fa) (hx : ∀ σ B H W D, SDo K O σ B H ρ W → (∀ Q, ta σ H Q) → t D σ H) (hk : ∀ d ρ1, Mo O ρ ρ1 → (∀ σ B H W, Ex B H → SDo K O σ B H ρ W → ∀ Q, PV K O σ B H ρ W d ρ1 Q → ta σ H Q) → SOy K cl E m O t ρ (k d ρ1)) : SOy K cl E m O t ρ (sE (fa ρ) k) := by
  have a := ha ρ
  unfold sE
  cases h : fa ρ with
  | st => exact .stuck
  | o d ρ1 => exact .stuck
  | v d ρ1 =>
    rw [h] at a
    exact hk d ρ1 a.1 a.2
  | x c i =>
    rw [h] at a
    exact .raise a.1 fun σ B H W D s sd v hv w => hx σ B H W D sd (a.2 σ B H W s sd v hv w)
theorem zg_name {j : Nat} (hj : m ≤ j := by first | exact Nat.le_of_ble_eq_true rfl | omega) (hO : O j = false := by rfl) : ZG K m O (gName j) (gN j) := fun d ρ ρ' h σ v B H W s sd hd Q q => by
  cases h
  exact q _ (sd.put j hO hd) fun i hi => List.getElem?_set_ne (by omega)
def ZGs (K : Fg) (m : Nat) (O : Nat → Bool) (g : TGs) (gz : List (PyData → En → Option En)) : Prop := ∀ ds ρ ρ', gTs gz ds ρ = some ρ' → ∀ σ vs B H W, Ex B H → SDo K O σ B H ρ W → Das K B vs ds → ∀ Q : L2.St → Hp → Prop, (∀ σ', SDo K O σ' B H ρ' W → (∀ i, i < m → σ'[i]? = σ[i]?) → Q σ' H) → g vs σ H Q
theorem zgs_nil : ZGs K m O gNil [] := fun ds ρ ρ' h σ vs B H W s sd hd Q q => by
  cases ds with
  | nil =>
    cases h
    cases hd
    exact ⟨rfl, q σ sd fun _ _ => rfl⟩
  | cons _ _ => exact nomatch h
theorem gTs_cons {z : PyData → En → Option En} {zs : List (PyData → En → Option En)} {d : PyData} {ds : List PyData} (h : gTs (z :: zs) (d :: ds) ρ = some ρ') : ∃ ρ1, z d ρ = some ρ1 ∧ gTs zs ds ρ1 = some ρ' := by
  have h' : (match z d ρ with | some ρ' => gTs zs ds ρ' | none => none) = some ρ' := h
  cases e : z d ρ with
  | none =>
    rw [e] at h'
    exact nomatch h'
  | some ρ1 =>
    rw [e] at h'
    exact ⟨ρ1, rfl, h'⟩
theorem gTs_len : ∀ {zs : List (PyData → En → Option En)} {ds : List PyData} {ρ ρ' : En}, gTs zs ds ρ = some ρ' → ds.length = zs.length
  | [], [], _, _, _ => rfl
  | [], _ :: _, _, _, h => nomatch h
  | _ :: _, [], _, _, h => nomatch h
  | z :: zs, d :: ds, ρ, ρ', h => by
    obtain ⟨ρ1, _, h2⟩ := gTs_cons h
    rw [List.length_cons, List.length_cons, gTs_len h2]
theorem zgs_cons {g1 : TG} {gs : TGs} {z1 : PyData → En → Option En} {zs : List (PyData → En → Option En)} (h1 : ZG K m O g1 z1) (h2 : ZGs K m O gs zs) : ZGs K m O (gCons g1 gs) (z1 :: zs) := fun ds ρ ρ' h σ vs B H W s sd hd Q q => by
  cases ds with
  | nil => exact nomatch h
  | cons d ds =>
    obtain ⟨v, r, rfl, a, t⟩ := hd.inv1
    obtain ⟨ρ1, e, h'⟩ := gTs_cons h
    exact ⟨v, r, rfl, h1 d ρ ρ1 e σ v B H W s sd a _ fun σ' s' k1 => h2 ds ρ1 ρ' h' σ' r B H W s s' t Q fun σ2 s2 k2 => q σ2 s2 fun i hi => (k2 i hi).trans (k1 i hi)⟩
theorem zg_tup {gs : TGs} {zs : List (PyData → En → Option En)} {n : Nat} (h : ZGs K m O gs zs) (hn : zs.length = n := by rfl) : ZG K m O (gTup K n gs) (gT zs) := fun d ρ ρ' e σ v B H W s sd hd Q q => by
  cases d with
  | tuple ds =>
    cases hd with
    | tup ha hs =>
      have e' : gTs zs ds ρ = some ρ' := e
      exact ⟨_, _, rfl, SqT.of (s _ _ ha), hs.len.trans ((gTs_len e').trans hn), h ds ρ ρ' e' σ _ B H W s sd hs Q q⟩
  | _ => exact nomatch e
theorem ys_asg (ha : YE K cl E m O ta fa) (hg : ZG K m O tg gz) : YS K cl E m O (tAsg ta tg) (sAsg fa gz) := fun ρ => sy_E ha (fun σ B H W D _ z => z _) fun d ρ1 m1 hx => by
  cases h : gz d ρ1 with
  | none => exact .stuck
  | some ρ' => exact ⟨fun _ _ h => (nomatch h), fun σ B H W D s sd q => hx σ B H W s sd _ fun v B1 H1 W1 l1 s1 d1 => hg d ρ1 ρ' h σ v B1 H1 W1 l1.sub s1 d1 _ fun σ' s' k => q σ' B1 H1 W1 l1 s' k⟩
theorem Go.give {W W1 : OW} {B H B1 H1 : Hp} {A : Addr → Prop} {i : Nat} (l : Go W B H W1 B1 H1) (n : FrA W H W1 B1 H1 A) : Go W B H (W1.put i A) B1 H1 := ⟨l.toLeO, fun a z => (put_wa z).elim (fun z => (n a z).2.2.2) (l.own a)⟩
theorem FrA.fr {W W1 : OW} {H B1 H1 : Hp} {A : Addr → Prop} (n : FrA W H W1 B1 H1 A) : ∀ a, A a → B1 a = none ∧ H1 a ≠ none ∧ ¬ WA W1 a := fun a z => ⟨(n a z).1, (n a z).2.1, (n a z).2.2.1⟩
theorem FrA.le {W W1 : OW} {H B1 H1 B2 H2 : Hp} {A : Addr → Prop} (n : FrA W H W1 B1 H1 A) (l : Le B1 H1 B2 H2) : FrA W H W1 B2 H2 A := fun a z =>
  let ⟨n1, n2, n3, n4⟩ := n a z
  ⟨l.old a n1 n2, (l.lo (A := fun _ => False)).dom a n2, n3, n4⟩
theorem ys_asgO {i : Nat} (ha : YE K cl E m O ta fa) (hi : m ≤ i := by first | exact Nat.le_of_ble_eq_true rfl | omega) (hO : O i = true := by rfl) : YS K cl E m O (tAsg ta (gName i)) (sAsgO i fa) := fun ρ => by
  have a := ha ρ
  unfold sAsgO
  cases h : fa ρ with
  | st => exact .stuck
  | v d ρ1 => exact .stuck
  | x c i =>
    rw [h] at a
    exact .raise a.1 fun σ B H W D s sd v hv w => a.2 σ B H W s sd v hv w _
  | o d ρ1 =>
    rw [h] at a
    refine ⟨fun _ _ h => (nomatch h), fun σ B H W D s sd q => a.2 σ B H W s sd _ fun p A1 B1 H1 W1 l1 s1 o n => ?_⟩
    exact q _ B1 H1 (W1.put i A1) (l1.give n) (s1.putO i hO o n.fr) fun k hk => List.getElem?_set_ne (by omega)
theorem ys_raise {c i : Nat} (hi : i < m := by exact Nat.le_of_ble_eq_true rfl) (hO : O i = false := by rfl) : YS K cl E m O (tRz (cl c) (tCons (tVar i) tNil) fun c d _ H => E c d H) (sRaise c i) := fun ρ => by
  unfold sRaise
  split
  · next d h => exact .raise hi fun σ B H W D s sd v hv w => ⟨v, hv, v, rfl, fun x hx => w x _ _ (Le.new (o := xdV v) s hx).lo upd_same⟩
  · exact .stuck
end
end TD

set_option maxHeartbeats 4000000
namespace TD
open PySem PySem.Spec PyProof.Rows L2
open Evl (Ex)
def iL (fa : En → ER) (ρ : En) : IRz := match fa ρ with
  | .v (.list ds) ρ1 => .vs ds ρ1
  | .x c i => .x c i
  | _ => .st
def iR1 (fa : En → AR) (ρ : En) : IRz := match fa ρ with
  | .vs [.int n] ρ1 => match decide (-40000 ≤ n) && decide (n ≤ 40000) with
    | true => .vs (rgD 0 n.toNat) ρ1
    | false => .st
  | .x c i => .x c i
  | _ => .st
def zipD : List PyData → List PyData → List PyData
  | d :: ds, e :: es => .tuple [d, e] :: zipD ds es
  | _, _ => []
def lcOne (ft : En → TR) (fe : En → ER) (ρ1 : En) : Option (Option PyData × En) := match ft ρ1 with
  | .b true ρ2 => match fe ρ2 with
    | .v y ρ3 => some (some y, ρ3)
    | _ => none
  | .b false ρ2 => some (none, ρ2)
  | _ => none
def lcItems (vs : List Nat) (g : PyData → En → Option En) (ft : En → TR) (fe : En → ER) : List PyData → En → Option (List PyData × En)
  | [], ρ => some ([], ρ)
  | d :: ds, ρ => match g d ρ with
    | none => none
    | some ρ1 => match lcOne ft fe ρ1 with
      | none => none
      | some (o, ρ2) => match lcItems vs g ft fe ds (wipeD ρ2 vs) with
        | none => none
        | some (ys, ρ3) => some (match o with
          | some y => y :: ys
          | none => ys, ρ3)
def eLc (fi : En → IRz) (vs : List Nat) (g : PyData → En → Option En) (ft : En → TR) (fe : En → ER) (ρ : En) : ER := match fi ρ with
  | .vs ds ρ1 => match decide (ds.length ≤ 40000) with
    | true => match lcItems vs g ft fe ds (wipeD ρ1 vs) with
      | some (ys, ρ2) => .o (.list ys) ρ2
      | none => .st
    | false => .st
  | .x c i => .x c i
  | .st => .st
section
variable {K : Fg} {cl : Nat → Addr} {E E' : XK} {m m' : Nat} {O : Nat → Bool} {ta tb tc te : TE} {fa fb fc fe : En → ER} {tt tu : TT} {ft fu : En → TR} {al : TA} {fl : En → AR} {ks : List AK} {ρ ρ' ρ1 : En} {t u : TS} {f g : En → SR} {tg : TG} {gz : PyData → En → Option En} {W W1 : OW}
theorem wk_list {B : Hp} {p : Addr} {xs : List V} {ds : List PyData} (h : B p = some (.lst xs)) (a : Das K B xs ds) : Walks K (Itl K p) B ds := fun i B' H k s => by
  have q : SqL K H p xs := SqL.of (s _ _ (k _ _ h))
  refine ⟨fun e => ⟨xs, q, by rw [a.len]; exact List.getElem?_eq_none_iff.mp e⟩, fun d e => ?_⟩
  obtain ⟨v, hv, hd⟩ := a.getD e
  exact ⟨⟨xs, v, q, hv⟩, fun x H' hy => by
    obtain ⟨rfl, f⟩ := hy
    have e2 := f xs q
    rw [hv] at e2
    cases e2
    exact ⟨B', Le.rfl' s, hd.ex k⟩⟩
theorem wk_rng {B : Hp} {lo : Int} {n : Nat} : Walks K (Itr lo n) B (rgD lo n) := fun i B' H k s => by
  refine ⟨fun e => ?_, fun d e => ?_⟩
  · have := List.getElem?_eq_none_iff.mp e
    rw [rgD_len] at this
    exact this
  · have il : i < n := by
      have := (List.getElem?_eq_some_iff.mp e).1
      rw [rgD_len] at this
      exact this
    rw [rgD_get il] at e
    cases e
    exact ⟨il, fun x H' hy => by
      obtain ⟨rfl, rfl⟩ := hy
      exact ⟨B', Le.rfl' s, .int _⟩⟩
theorem yi_L (ha : YE K cl E m O ta fa) : YI K cl E m O (iList K ta) (iL fa) := fun ρ => by
  have a := ha ρ
  unfold iL
  cases h : fa ρ with
  | st => trivial
  | o d ρ1 => trivial
  | x c i =>
    rw [h] at a
    exact ⟨a.1, fun σ B H W s sd v hv w Q => a.2 σ B H W s sd v hv w _⟩
  | v d ρ1 =>
    rw [h] at a
    cases d with
    | list ds =>
      refine ⟨a.1, fun σ B H W s sd R q => a.2 σ B H W s sd _ fun v B1 H1 W1 l1 s1 d1 => ?_⟩
      cases d1 with
      | lst hp hx => exact ⟨_, rfl, ⟨_, SqL.of (l1.sub _ _ hp)⟩, q _ B1 H1 W1 l1 s1 (wk_list hp hx)⟩
    | _ => trivial
theorem yi_R1 (ha : YA K cl E m O al ks fl) (hd : dats ks = true := by rfl) : YI K cl E m O (iRng1 al) (iR1 fl) := fun ρ => by
  have a := ha ρ
  unfold iR1
  split
  · next n ρ1 h =>
    rw [h] at a
    split
    · next h3 =>
      simp only [Bool.and_eq_true, decide_eq_true_eq] at h3
      refine ⟨a.1, fun σ B H W s sd R q => a.2 σ B H W s sd _ fun vs B1 H1 W1 l1 s1 a1 => ?_⟩
      obtain ⟨v, r, rfl, b1, t⟩ := (a1.das hd).inv1
      cases b1
      cases t
      exact ⟨n, rfl, by omega, by omega, q _ B1 H1 W1 l1 s1 wk_rng⟩
    · trivial
  · next c i h =>
    rw [h] at a
    exact ⟨a.1, fun σ B H W s sd v hv w Q => a.2 σ B H W s sd v hv w _⟩
  · trivial
theorem wipe_at {σ : L2.St} : ∀ {vs : List Nat} {j : Nat} {o : Option V}, j ∈ vs → L2.wipe (σ.set j o) vs = L2.wipe σ vs
  | v :: vs, j, o, h => by
    have c : ∀ (us : List Nat) (l : L2.St) (i : Nat) (q : Option V), i ∉ us → L2.wipe (l.set i q) us = (L2.wipe l us).set i q := by
      intro us
      induction us with
      | nil => exact fun _ _ _ _ => rfl
      | cons u us ih =>
        intro l i q hn
        rw [List.mem_cons, not_or] at hn
        show (L2.wipe (l.set i q) us).set u none = ((L2.wipe l us).set u none).set i q
        rw [ih _ _ _ hn.2, List.set_comm _ _ hn.1]
    show (L2.wipe (σ.set j o) vs).set v none = (L2.wipe σ vs).set v none
    by_cases e : j ∈ vs
    · rw [wipe_at e]
    · rcases List.mem_cons.mp h with e2 | e2
      · rw [e2]
        rw [e2] at e
        rw [c _ _ _ _ e, List.set_set]
      · exact (e e2).elim
theorem wipe_out {σ : L2.St} : ∀ {vs : List Nat} {i : Nat}, i ∉ vs → (L2.wipe σ vs)[i]? = σ[i]?
  | [], _, _ => rfl
  | v :: vs, i, h => by
    rw [List.mem_cons, not_or] at h
    show ((L2.wipe σ vs).set v none)[i]? = _
    rw [List.getElem?_set_ne (Ne.symm h.1), wipe_out h.2]
theorem wipeD_out {ρ : En} : ∀ {vs : List Nat} {i : Nat}, i ∉ vs → (wipeD ρ vs)[i]? = ρ[i]?
  | [], _, _ => rfl
  | v :: vs, i, h => by
    rw [List.mem_cons, not_or] at h
    show ((wipeD ρ vs).set v none)[i]? = _
    rw [List.getElem?_set_ne (Ne.symm h.1), wipeD_out h.2]
theorem wipeD_in {ρ : En} {d : PyData} : ∀ {vs : List Nat} {i : Nat}, i ∈ vs → (wipeD ρ vs)[i]? ≠ some (some d)
  | v :: vs, i, h => by
    show ((wipeD ρ vs).set v none)[i]? ≠ _
    by_cases e : i = v
    · subst e
      by_cases l : i < (wipeD ρ vs).length
      · rw [List.getElem?_set_self l]
        exact fun z => nomatch z
      · rw [List.getElem?_eq_none (by rw [List.length_set]; omega)]
        exact fun z => nomatch z
    · rw [List.getElem?_set_ne (Ne.symm e)]
      exact wipeD_in ((List.mem_cons.mp h).resolve_left e)
theorem wipe_length {σ : L2.St} : ∀ {vs : List Nat}, (L2.wipe σ vs).length = σ.length
  | [] => rfl
  | v :: vs => by
    show ((L2.wipe σ vs).set v none).length = _
    rw [List.length_set, wipe_length]
theorem wipeD_len' {ρ : En} : ∀ {vs : List Nat}, (wipeD ρ vs).length = ρ.length
  | [] => rfl
  | v :: vs => by
    show ((wipeD ρ vs).set v none).length = _
    rw [List.length_set, wipeD_len']
theorem wipeD_two {ρ : En} {vs : List Nat} : wipeD (wipeD ρ vs) vs = wipeD ρ vs := by
  refine List.ext_getElem? fun i => ?_
  by_cases hi : i ∈ vs
  · have k : ∀ {ρ : En}, i < ρ.length → (wipeD ρ vs)[i]? = some none := fun {ρ} hl => by
      have hl' : i < (wipeD ρ vs).length := by rw [wipeD_len']; exact hl
      rw [List.getElem?_eq_getElem hl']
      cases e : (wipeD ρ vs)[i] with
      | none => rfl
      | some d => exact (wipeD_in (ρ := ρ) (d := d) hi (by rw [List.getElem?_eq_getElem hl', e])).elim
    by_cases hl : i < ρ.length
    · rw [k hl, k (by rw [wipeD_len']; exact hl)]
    · rw [List.getElem?_eq_none (by rw [wipeD_len', wipeD_len']; omega), List.getElem?_eq_none (by rw [wipeD_len']; omega)]
  · rw [wipeD_out hi]
def Blk (O : Nat → Bool) (vs : List Nat) : Bool := vs.all fun i => !O i
theorem SDo.wiped {σ σ' : L2.St} {B H : Hp} {vs : List Nat} (s : SDo K O σ B H ρ W) (h : L2.wipe σ' vs = L2.wipe σ vs) : SDo K O σ' B H (wipeD ρ vs) W := by
  have at_ : ∀ {i : Nat}, i ∉ vs → σ'[i]? = σ[i]? := fun hi => by rw [← wipe_out (σ := σ') hi, h, wipe_out hi]
  have go : ∀ {i : Nat} {d : PyData}, (wipeD ρ vs)[i]? = some (some d) → i ∉ vs ∧ ρ[i]? = some (some d) := fun {i d} e => by
    by_cases hi : i ∈ vs
    · exact (wipeD_in hi e).elim
    · rw [wipeD_out hi] at e
      exact ⟨hi, e⟩
  refine ⟨?_, fun i d h1 h2 => ?_, fun i d h1 h2 => ?_, s.bh, s.dis⟩
  · rw [wipeD_len', ← s.len, ← wipe_length (σ := σ') (vs := vs), h, wipe_length]
  · obtain ⟨g1, g2⟩ := go h2
    rw [at_ g1]
    exact s.dat i d h1 g2
  · obtain ⟨g1, g2⟩ := go h2
    rw [at_ g1]
    exact s.own i d h1 g2
def ZGw (K : Fg) (O : Nat → Bool) (vs : List Nat) (g : TG) (gz : PyData → En → Option En) : Prop := ∀ d ρ ρ', gz d ρ = some ρ' → ∀ σ v B H W, Ex B H → SDo K O σ B H ρ W → Da K B v d → ∀ Q : L2.St → Hp → Prop, (∀ σ', SDo K O σ' B H ρ' W → L2.wipe σ' vs = L2.wipe σ vs → Q σ' H) → g v σ H Q
def ZGsw (K : Fg) (O : Nat → Bool) (vs : List Nat) (g : TGs) (gz : List (PyData → En → Option En)) : Prop := ∀ ds ρ ρ', gTs gz ds ρ = some ρ' → ∀ σ xs B H W, Ex B H → SDo K O σ B H ρ W → Das K B xs ds → ∀ Q : L2.St → Hp → Prop, (∀ σ', SDo K O σ' B H ρ' W → L2.wipe σ' vs = L2.wipe σ vs → Q σ' H) → g xs σ H Q
theorem zgw_name {vs : List Nat} {j : Nat} (hj : j ∈ vs := by decide) (hO : O j = false := by rfl) : ZGw K O vs (gName j) (gN j) := fun d ρ ρ' h σ v B H W s sd hd Q q => by
  cases h
  exact q _ (sd.put j hO hd) (wipe_at hj)
theorem zgsw_nil {vs : List Nat} : ZGsw K O vs gNil [] := fun ds ρ ρ' h σ xs B H W s sd hd Q q => by
  cases ds with
  | nil =>
    cases h
    cases hd
    exact ⟨rfl, q σ sd rfl⟩
  | cons _ _ => exact nomatch h
theorem zgsw_cons {vs : List Nat} {g1 : TG} {gs : TGs} {z1 : PyData → En → Option En} {zs : List (PyData → En → Option En)} (h1 : ZGw K O vs g1 z1) (h2 : ZGsw K O vs gs zs) : ZGsw K O vs (gCons g1 gs) (z1 :: zs) := fun ds ρ ρ' h σ xs B H W s sd hd Q q => by
  cases ds with
  | nil => exact nomatch h
  | cons d ds =>
    obtain ⟨ρ1, e, h'⟩ := gTs_cons h
    obtain ⟨v, r, rfl, a, t⟩ := hd.inv1
    exact ⟨v, r, rfl, h1 d ρ ρ1 e σ v B H W s sd a _ fun σ' s' k1 => h2 ds ρ1 ρ' h' σ' r B H W s s' t Q fun σ2 s2 k2 => q σ2 s2 (k2.trans k1)⟩
theorem zgw_tup {vs : List Nat} {gs : TGs} {zs : List (PyData → En → Option En)} {n : Nat} (h : ZGsw K O vs gs zs) (hn : zs.length = n := by rfl) : ZGw K O vs (gTup K n gs) (gT zs) := fun d ρ ρ' e σ v B H W s sd hd Q q => by
  cases d with
  | tuple ds =>
    have e' : gTs zs ds ρ = some ρ' := e
    cases hd with
    | tup ha hs => exact ⟨_, _, rfl, SqT.of (s _ _ ha), hs.len.trans ((gTs_len e').trans hn), h ds ρ ρ' e' σ _ B H W s sd hs Q q⟩
  | _ => exact nomatch e
theorem lcItems_cons {vs : List Nat} {d : PyData} {ds : List PyData} {out : List PyData × En} (h : lcItems vs gz ft fe (d :: ds) ρ = some out) : ∃ ρ1 o ρ2 rs ρ3, gz d ρ = some ρ1 ∧ lcOne ft fe ρ1 = some (o, ρ2) ∧ lcItems vs gz ft fe ds (wipeD ρ2 vs) = some (rs, ρ3) ∧ out = (match (generalizing := false) o with | some y => y :: rs | none => rs, ρ3) := by
  unfold lcItems at h
  split at h
  · exact nomatch h
  · next ρ1 e1 =>
    split at h
    · exact nomatch h
    · next o ρ2 e2 =>
      split at h
      · exact nomatch h
      · next rs ρ3 e3 => exact ⟨ρ1, o, ρ2, rs, ρ3, e1, e2, e3, (Option.some.inj h).symm⟩
theorem lcOne_no {ρ1 ρ2 : En} (h : lcOne ft fe ρ1 = some (none, ρ2)) : ft ρ1 = .b false ρ2 := by
  unfold lcOne at h
  split at h
  · split at h
    · exact nomatch (congrArg Prod.fst (Option.some.inj h))
    · exact nomatch h
  · next e =>
    cases h
    exact e
  · exact nomatch h
theorem lcOne_yes {ρ1 ρ3 : En} {y : PyData} (h : lcOne ft fe ρ1 = some (some y, ρ3)) : ∃ ρ2, ft ρ1 = .b true ρ2 ∧ fe ρ2 = .v y ρ3 := by
  unfold lcOne at h
  split at h
  · next ρ2 e =>
    split at h
    · next y' ρ3' e2 =>
      cases h
      exact ⟨ρ2, e, e2⟩
    · exact nomatch h
  · exact nomatch (congrArg Prod.fst (Option.some.inj h))
  · exact nomatch h
def LIy (K : Fg) (O : Nat → Bool) (σ : L2.St) (B H : Hp) (W : OW) (D : Addr) (vs : List Nat) (gz : PyData → En → Option En) (ft : En → TR) (fe : En → ER) (ds ys : List PyData) (ρe : En) (i : Nat) (H' : Hp) : Prop :=
  ∃ B' ρ' W' acc out rest, Go W B H W' B' H' ∧ SDo K O (L2.wipe σ vs) B' H' ρ' W' ∧ ¬ WA W' D ∧ B' D = none ∧ H' D = some (.lst acc) ∧ Das K B' acc out ∧ lcItems vs gz ft fe (ds.drop i) ρ' = some (rest, ρe) ∧ out ++ rest = ys ∧ out.length ≤ i ∧ wipeD ρ' vs = ρ'
theorem Go.keep {W W1 : OW} {B H B1 H1 : Hp} (l : Go W B H W1 B1 H1) {D : Addr} {o : HO} (h : H D = some o) (n : ¬ WA W D) (b : B D = none) : H1 D = some o ∧ ¬ WA W1 D ∧ B1 D = none :=
  ⟨l.ex D o h n, fun z => (l.own D z).elim n (fun z => by rw [h] at z; cases z), l.old D b (fun z => by rw [h] at z; cases z) n⟩
theorem ly_turn {vs : List Nat} (hg : ZGw K O vs tg gz) (ht : YT K cl E' 0 O tt ft) (he : YE K cl E' 0 O te fe) {σ : L2.St} {B H H' : Hp} {D : Addr} {ds ys : List PyData} {ρe : En} {i : Nat} (hD : H D = none) (hz : ds.length ≤ 40000) (w : LIy K O σ B H W D vs gz ft fe ds ys ρe i H') {d : PyData} (hi : ds[i]? = some d) {v : V} {H'' : Hp} (hd : ∀ B', Ex B B' → Ex B' H' → ∃ B'', Le B' H' B'' H'' ∧ Da K B'' v d) :
    tg v (L2.wipe σ vs) H'' fun σ2 H2 => L2.wipe σ2 vs = L2.wipe σ vs ∧ tt σ2 H2 fun b H3 =>
      if b = true then te σ2 H3 fun y H4 => ∃ acc, H4 D = some (.lst acc) ∧ acc.length < sizeLine ∧ LIy K O σ B H W D vs gz ft fe ds ys ρe (i + 1) (upd H4 D (.lst (acc ++ [y]))) else LIy K O σ B H W D vs gz ft fe ds ys ρe (i + 1) H3 := by
  obtain ⟨B', ρ', W', acc, out, rest, l, s, o, nD, eD, a, hr, ho, hl, hwp⟩ := w
  have il : i < ds.length := (List.getElem?_eq_some_iff.mp hi).1
  rw [drop_cons hi] at hr
  obtain ⟨ρ1, o1, ρ2, rs, ρ3, e1, e2, e4, er⟩ := lcItems_cons hr
  obtain ⟨B1, l1, d1⟩ := hd B' l.ek l.sub
  have s1 := s.le l1
  obtain ⟨eD1, o1', nD1⟩ := (l1.o (W := W')).keep eD o nD
  refine hg d ρ' ρ1 e1 (L2.wipe σ vs) v B1 H'' W' l1.sub s1 d1 _ fun σ2 s2 k2 => ⟨k2.trans (wipe_none vs), ?_⟩
  have kk : L2.wipe σ2 vs = L2.wipe σ vs := k2.trans (wipe_none vs)
  have lA : Go W B H W' B1 H'' := l.tr l1.o
  have at1 := ht ρ1
  have back : L2.wipe (L2.wipe σ vs) vs = L2.wipe σ2 vs := by rw [wipe_none, kk]
  cases o1 with
  | none =>
    rw [lcOne_no e2] at at1
    refine at1.2 σ2 B1 H'' W' l1.sub s2 _ fun B3 H3 W3 l3 s3 => ?_
    obtain ⟨e3, o3, n3⟩ := l3.keep eD1 o1' nD1
    have er : (rest, ρe) = (rs, ρ3) := er
    cases er
    exact ⟨B3, wipeD ρ2 vs, W3, acc, out, rest, lA.tr l3, s3.wiped back, o3, n3, e3, a.ex (l1.ek.trans l3.ek), e4, ho, by omega, wipeD_two⟩
  | some y =>
    obtain ⟨ρt, q1, q2⟩ := lcOne_yes e2
    have b1 := he ρt
    rw [q1] at at1
    rw [q2] at b1
    have er : (rest, ρe) = (y :: rs, ρ3) := er
    cases er
    refine at1.2 σ2 B1 H'' W' l1.sub s2 _ fun B3 H3 W3 l3 s3 => ?_
    show te σ2 H3 _
    obtain ⟨e3, o3, n3⟩ := l3.keep eD1 o1' nD1
    refine b1.2 σ2 B3 H3 W3 l3.sub s3 _ fun u B4 H4 W4 l4 s4 d4 => ?_
    obtain ⟨e4', o4, n4⟩ := l4.keep e3 o3 n3
    have l14 : Go W B H W4 B4 H4 := (lA.tr l3).tr l4
    have lD : Go W B H W4 B4 (upd H4 D (.lst (acc ++ [u]))) := by
      refine ⟨⟨fun b x hb nb => ?_, fun b hb => ?_, l14.ek, fun b x hb => ?_, l14.old⟩, l14.own⟩
      · rw [upd_ne (fun z => by rw [z, hD] at hb; cases hb)]
        exact l14.ex b x hb nb
      · by_cases z : b = D
        · rw [z, upd_same]
          exact fun z => nomatch z
        · rw [upd_ne z]
          exact l14.dom b hb
      · rw [upd_ne (ne_of_none hb n4)]
        exact l14.sub b x hb
    have sD : SDo K O σ2 B4 (upd H4 D (.lst (acc ++ [u]))) ρ2 W4 := s4.up (X := fun p => p = D) ⟨fun b x hb nb => by rw [upd_ne nb]; exact hb, fun b hb => by
        by_cases z : b = D
        · rw [z, upd_same]
          exact fun z => nomatch z
        · rw [upd_ne z]
          exact hb, Ex.refl B4, fun b x hb => by rw [upd_ne (ne_of_none hb n4)]; exact l4.sub b x hb, fun b h1 _ _ => h1⟩ fun p z => by
        rw [z]
        exact o4
    exact ⟨acc, e4', Evl.sz_lt (by rw [a.len]; omega), B4, wipeD ρ2 vs, W4, acc ++ [u], out ++ [y], rs, lD, sD.wiped back, o4, n4, upd_same, (a.ex ((l1.ek.trans l3.ek).trans l4.ek)).app (.cons d4 .nil), e4, by rw [← ho, List.append_assoc]; rfl, by rw [List.length_append, List.length_singleton]; omega, wipeD_two⟩
theorem ye_lc {ti : TI} {fi : En → IRz} {vs : List Nat} (hi : YI K cl E m O ti fi) (hg : ZGw K O vs tg gz) (ht : YT K cl E' 0 O tt ft) (he : YE K cl E' 0 O te fe) (hb : Blk O vs = true := by rfl) : YE K cl E m O (tLc ti tg tt te vs) (eLc fi vs gz ft fe) := fun ρ => by
  have a := hi ρ
  unfold eLc
  cases h : fi ρ with
  | st => trivial
  | x c i =>
    rw [h] at a
    exact ⟨a.1, fun σ B H W s sd v hv w Q => a.2 σ B H W s sd v hv w _⟩
  | vs ds ρ1 =>
    rw [h] at a
    show EOy K cl E m O _ ρ (match decide (ds.length ≤ 40000) with | true => (match lcItems vs gz ft fe ds (wipeD ρ1 vs) with | some (ys, ρ2) => .o (.list ys) ρ2 | none => .st) | false => .st)
    cases h2 : decide (ds.length ≤ 40000) with
    | false => trivial
    | true =>
      have hz := of_decide_eq_true h2
      show EOy K cl E m O _ ρ (match lcItems vs gz ft fe ds (wipeD ρ1 vs) with | some (ys, ρ2) => .o (.list ys) ρ2 | none => .st)
      cases h3 : lcItems vs gz ft fe ds (wipeD ρ1 vs) with
      | none => trivial
      | some out =>
        obtain ⟨ys, ρe⟩ := out
        refine ⟨trivial, fun σ B H W s sd Q q => a.2 σ B H W s sd _ fun J B1 H1 W1 l1 s1 hw D hD => ?_⟩
        have hoD : ¬ WA W1 D := fun ⟨i, z⟩ => (s1.bh i D z).2 hD
        refine ⟨fun i n H' => n = ds.length - i ∧ LIy K O σ B1 H1 W1 D vs gz ft fe ds ys ρe i H', ⟨ds.length, rfl, B1, wipeD ρ1 vs, W1, [], [], ys, ⟨⟨fun b x hb _ => Ex.new hD b x hb, fun b hb => ?_, Ex.refl B1, l1.sub.trans (Ex.new hD), fun _ h _ _ => h⟩, fun _ z => .inl z⟩, ?_, hoD, Evl.fresh_back l1.sub hD, upd_same, .nil, by rw [List.drop_zero]; exact h3, rfl, Nat.le_refl _, wipeD_two⟩, ?_⟩
        · by_cases z : b = D
          · rw [z, upd_same]
            exact fun z => nomatch z
          · rw [upd_ne z]
            exact hb
        · exact (s1.le ⟨Ex.new hD, Ex.refl B1, l1.sub.trans (Ex.new hD), fun _ h _ => h⟩).wiped (wipe_none vs)
        rintro i n H' ⟨rfl, w⟩
        obtain ⟨B', ρ', W', acc, out, rest, l, s', o, nD, eD, a', hr, ho, hl, hwp⟩ := id w
        obtain ⟨w1, w2⟩ := hw i B' H' l.ek l.sub
        cases hd : ds[i]? with
        | none =>
          refine .inl ⟨w1 hd, ?_⟩
          rw [drop_all (List.getElem?_eq_none_iff.mp hd)] at hr
          have hr : ([], ρ') = (rest, ρe) := Option.some.inj hr
          cases hr
          rw [List.append_nil] at ho
          subst ho
          refine q D (fun a => a = D) B' H' W' (l1.tr l) ?_ ⟨rfl, acc, eD, a'⟩ fun b hb => ?_
          · have w9 := s'.wiped (σ' := σ) (vs := vs) (wipe_none vs).symm
            rwa [hwp] at w9
          · subst hb
            exact ⟨nD, (by rw [eD]; exact fun z => nomatch z), o, .inr (l1.toLeO.back hD)⟩
        | some d =>
          obtain ⟨w3, w4⟩ := w2 d hd
          have il : i < ds.length := (List.getElem?_eq_some_iff.mp hd).1
          refine .inr ⟨w3, LIy K O σ B1 H1 W1 D vs gz ft fe ds ys ρe (i + 1), fun H2 z => ⟨ds.length - (i + 1), by omega, rfl, z⟩, fun x H2 hy => ?_⟩
          exact ly_turn hg ht he hD hz w hd fun B2 k2 s2 => by
            obtain ⟨_, w5⟩ := (hw i B2 H' k2 s2).2 d hd
            exact w5 x H2 hy
end
end TD

set_option maxHeartbeats 4000000
namespace TD
open PySem PySem.Spec PyProof.Rows L2
open Evl (Ex)
section
variable {K : Fg} {cl : Nat → Addr} {E E' : XK} {m m' : Nat} {O : Nat → Bool} {ta tb tc te : TE} {fa fb fc fe : En → ER} {tt tu : TT} {ft fu : En → TR} {al : TA} {fl : En → AR} {ks : List AK} {ρ ρ' ρ1 : En} {t u : TS} {f g : En → SR} {r : R2} {W W1 : OW}
def ArgsY (K : Fg) (op : Option Nat) (B H : Hp) (A : Addr → Prop) (vs : List V) (ds : List PyData) : Prop :=
  vs.length = ds.length ∧ (∀ (j : Nat) (d : PyData), ds[j]? = some d → ∃ v, vs[j]? = some v ∧ (op ≠ some j → Da K B v d) ∧ (op = some j → ∃ p, v = .ref p ∧ Own K B H p A d)) ∧ ∀ a, A a → B a = none ∧ H a ≠ none
def AV (op : Option Nat) (vs : List V) (p : Addr) : Prop := ∃ j, op = some j ∧ vs[j]? = some (.ref p)
def Then (A : Addr → Prop) (H : Hp) (A' : Addr → Prop) (B' H' : Hp) : Prop := ∀ a, A' a → B' a = none ∧ H' a ≠ none ∧ (A a ∨ H a = none)
def SpY (K : Fg) (cl : Nat → Addr) (op : Option Nat) (F : List PyData → FR) : Sp := fun vs H Q E => ∃ B ds A, Ex B H ∧ ArgsY K op B H A vs ds ∧ (op = none → ∀ a, ¬ A a) ∧ match F ds with
  | .st => False
  | .v d e => ∀ v B' H' A', LeO A B H B' H' → Da K B' v d → (∀ p, AV op vs p → Own K B' H' p A' e) → Then A H A' B' H' → Q v H'
  | .o d e => ∀ p A2 B' H' A', LeO A B H B' H' → Own K B' H' p A2 d → (∀ a, A2 a → B' a = none ∧ H' a ≠ none ∧ ¬ A' a ∧ (A a ∨ H a = none)) → (∀ p, AV op vs p → Own K B' H' p A' e) → Then A H A' B' H' → Q (.ref p) H'
  | .x c j => ∃ v, vs[j]? = some v ∧ ∀ x B' H', LeO A B H B' H' → H' x = some (xdV v) → E (.ref (cl c)) (some x) H'
def endOf (op : Option Nat) (ρ : En) : PyData := match op with
  | some j => match ρ[j]? with
    | some (some e) => e
    | _ => .none
  | none => .none
def stands (op : Option Nat) (ρ : En) : Bool := match op with
  | some j => match ρ[j]? with
    | some (some _) => true
    | _ => false
  | none => true
def finY (op : Option Nat) : SR → FR
  | .ret d ρ => match stands op ρ with
    | true => .v d (endOf op ρ)
    | false => .st
  | .reto d ρ => match stands op ρ with
    | true => .o d (endOf op ρ)
    | false => .st
  | .nx ρ => match stands op ρ with
    | true => .v .none (endOf op ρ)
    | false => .st
  | .x c i => .x c i
  | _ => .st
def fnY (n N : Nat) (op : Option Nat) (f : En → SR) (ds : List PyData) : FR := match decide (ds.length = n) with
  | false => .st
  | true => finY op (f (ds.map some ++ List.replicate (N - n) none))
def ownArg : Nat → List AK → Option (Nat × Nat)
  | _, [] => none
  | j, .o i :: _ => some (j, i)
  | j, _ :: ks => ownArg (j + 1) ks
def eCall (F : List PyData → FR) (ks : List AK) (fa : En → AR) (ρ : En) : ER := aE (fa ρ) fun ds ρ1 => match ownArg 0 ks with
  | none => match F ds with
    | .v d _ => .v d ρ1
    | .o d _ => .o d ρ1
    | .st => .st
    | .x c j => match ks[j]? with
      | some (.s i) => .x c i
      | _ => .st
  | some (j, i) => match ρ1[i]? with
    | some (some c) => match F (ds.set j c) with
      | .v d e => .v d (ρ1.set i (some e))
      | .o d e => .o d (ρ1.set i (some e))
      | .st => .st
      | .x c j => match ks[j]? with
        | some (.s i) => .x c i
        | _ => .st
    | _ => .st
theorem ArgOk.at {B : Hp} {σ : L2.St} : ∀ {ks : List AK} {ds : List PyData} {vs : List V} {j : Nat} {d : PyData}, ArgOk K O σ B ks ds vs → ds[j]? = some d → ∃ v k, vs[j]? = some v ∧ ks[j]? = some k ∧ (match k with
    | .d => Da K B v d
    | .s i => Da K B v d ∧ σ[i]? = some (some v)
    | .o i => σ[i]? = some (some v))
  | [], [], [], _, _, _, e => nomatch e
  | .d :: _, _ :: _, _ :: _, 0, _, h, e => by
    cases e
    exact ⟨_, _, rfl, rfl, h.1⟩
  | .s i :: _, _ :: _, _ :: _, 0, _, h, e => by
    cases e
    exact ⟨_, _, rfl, rfl, h.1, h.2.1⟩
  | .o i :: _, _ :: _, _ :: _, 0, _, h, e => by
    cases e
    exact ⟨_, _, rfl, rfl, h.1⟩
  | .d :: ks, _ :: _, _ :: _, j + 1, _, h, e => ArgOk.at (ks := ks) (j := j) h.2 e
  | .s _ :: ks, _ :: _, _ :: _, j + 1, _, h, e => ArgOk.at (ks := ks) (j := j) h.2.2 e
  | .o _ :: ks, _ :: _, _ :: _, j + 1, _, h, e => ArgOk.at (ks := ks) (j := j) h.2 e
theorem ArgOk.len {B : Hp} {σ : L2.St} : ∀ {ks : List AK} {ds : List PyData} {vs : List V}, ArgOk K O σ B ks ds vs → vs.length = ds.length ∧ ks.length = ds.length
  | [], [], [], _ => ⟨rfl, rfl⟩
  | .d :: ks, _ :: _, _ :: _, h => let ⟨a, b⟩ := ArgOk.len (ks := ks) h.2; ⟨congrArg (· + 1) a, congrArg (· + 1) b⟩
  | .s _ :: ks, _ :: _, _ :: _, h => let ⟨a, b⟩ := ArgOk.len (ks := ks) h.2.2; ⟨congrArg (· + 1) a, congrArg (· + 1) b⟩
  | .o _ :: ks, _ :: _, _ :: _, h => let ⟨a, b⟩ := ArgOk.len (ks := ks) h.2; ⟨congrArg (· + 1) a, congrArg (· + 1) b⟩
def okArgs (O : Nat → Bool) (oj : Option (Nat × Nat)) (ks : List AK) : Bool := ks.zipIdx.all fun q => match q.1 with
  | .o i => O i && decide (oj = some (q.2, i))
  | _ => match oj with
    | some p => decide (p.1 ≠ q.2)
    | none => true
theorem okArgs.at {oj : Option (Nat × Nat)} (h : okArgs O oj ks = true) {j : Nat} {k : AK} (e : ks[j]? = some k) : match k with
    | .o i => O i = true ∧ oj = some (j, i)
    | _ => ∀ p, oj = some p → p.1 ≠ j := by
  have hm : (k, j) ∈ ks.zipIdx := List.mem_of_getElem? (i := j) (by rw [List.getElem?_zipIdx, e, Nat.zero_add]; rfl)
  have w := List.all_eq_true.mp h _ hm
  cases k with
  | o i =>
    have w : (O i && decide (oj = some (j, i))) = true := w
    rw [Bool.and_eq_true, decide_eq_true_eq] at w
    exact w
  | d =>
    intro p hp
    rw [hp] at w
    exact of_decide_eq_true w
  | s i =>
    intro p hp
    rw [hp] at w
    exact of_decide_eq_true w
theorem ye_callG {F : List PyData → FR} {Ew : L2.St → XK} {op : Option Nat} (h : YA K cl E m O al ks fl) (hk : okArgs O (ownArg 0 ks) ks = true) (hop : op = (ownArg 0 ks).map (·.1)) (hx : ∀ (j i : Nat), ks[j]? = some (AK.s i) → i < m ∧ ∀ σ c d H, E c d H → Ew σ c d H) : YE K cl E m O (tCallS (SpY K cl op F) Ew al) (eCall F ks fl) := fun ρ =>
  ay_E (h ρ) (fun σ H Q z => z _) fun ds ρ1 m1 hal => by
    -- the outcome for one list of arguments
    have key : ∀ (ds' : List PyData) (k : PyData → En), (∀ σ B H W, Ex B H → SDo K O σ B H ρ W → ∀ vs B1 H1 W1, Go W B H W1 B1 H1 → SDo K O σ B1 H1 ρ1 W1 → ArgOk K O σ B1 ks ds vs → ∃ A, ArgsY K op B1 H1 A vs ds' ∧ (op = none → ∀ a, ¬ A a) ∧ (∀ p, A p → WA W1 p) ∧ ∀ e B2 H2 A', LeO A B1 H1 B2 H2 → (∀ p, AV op vs p → Own K B2 H2 p A' e) → Then A H1 A' B2 H2 → ∃ W2, SDo K O σ B2 H2 (k e) W2 ∧ Go W1 B1 H1 W2 B2 H2 ∧ ∀ a, WA W2 a → A' a ∨ (WA W1 a ∧ ¬ A a)) →
        EOy K cl E m O (tCallS (SpY K cl op F) Ew al) ρ (match F ds' with
          | .v d e => .v d (k e)
          | .o d e => .o d (k e)
          | .st => .st
          | .x c j => match ks[j]? with
            | some (.s i) => .x c i
            | _ => .st) := by
      intro ds' k hA
      cases hF : F ds' with
      | st => trivial
      | v d e =>
        refine ⟨trivial, fun σ B H W s sd Q q => hal σ B H W s sd _ fun vs B1 H1 W1 l1 s1 a1 => ?_⟩
        obtain ⟨A, a2, a0, a3, a4⟩ := hA σ B H W s sd vs B1 H1 W1 l1 s1 a1
        refine ⟨B1, ds', A, l1.sub, a2, a0, ?_⟩
        rw [hF]
        intro v B2 H2 A' l2 d2 o2 t2
        obtain ⟨W2, s2, g2, _⟩ := a4 e B2 H2 A' l2 o2 t2
        exact q v B2 H2 W2 (l1.tr g2) s2 d2
      | o d e =>
        refine ⟨trivial, fun σ B H W s sd Q q => hal σ B H W s sd _ fun vs B1 H1 W1 l1 s1 a1 => ?_⟩
        obtain ⟨A, a2, a0, a3, a4⟩ := hA σ B H W s sd vs B1 H1 W1 l1 s1 a1
        refine ⟨B1, ds', A, l1.sub, a2, a0, ?_⟩
        rw [hF]
        intro p A2 B2 H2 A' l2 ow n2 o2 t2
        obtain ⟨W2, s2, g2, w2⟩ := a4 e B2 H2 A' l2 o2 t2
        refine q p A2 B2 H2 W2 (l1.tr g2) s2 ow fun a z => ?_
        obtain ⟨n1, n3, n4, n5⟩ := n2 a z
        exact ⟨n1, n3, fun z => (w2 a z).elim n4 fun ⟨⟨i, z⟩, y⟩ => n5.elim y (s1.bh i a z).2, n5.elim (fun y => l1.own a (a3 a y)) fun y => .inr (l1.toLeO.back y)⟩
      | x c j =>
        show EOy K cl E m O _ ρ (match ks[j]? with | some (.s i) => .x c i | _ => .st)
        split
        · next i hj =>
          obtain ⟨hi, hE⟩ := hx j i hj
          refine ⟨hi, fun σ B H W s sd v hv w Q => hal σ B H W s sd _ fun vs B1 H1 W1 l1 s1 a1 => ?_⟩
          obtain ⟨A, a2, a0, a3, a4⟩ := hA σ B H W s sd vs B1 H1 W1 l1 s1 a1
          refine ⟨B1, ds', A, l1.sub, a2, a0, ?_⟩
          rw [hF]
          obtain ⟨el, ek⟩ := a1.len
          have jl : j < ds.length := by
            rw [← ek]
            exact (List.getElem?_eq_some_iff.mp hj).1
          obtain ⟨u, k2, hu, hk2, ha⟩ := a1.at (List.getElem?_eq_getElem jl)
          rw [hj] at hk2
          cases hk2
          have : u = v := by
            have := ha.2
            rw [hv] at this
            cases this
            rfl
          exact ⟨v, this ▸ hu, fun x B2 H2 l2 hx2 => hE σ _ _ _ (w x B2 H2 (l1.toLeO.tr (l2.to fun p z => .inl (a3 p z)) l1.own) hx2)⟩
        · trivial
    have hk' := hk
    cases ho : ownArg 0 ks with
    | none =>
      rw [ho] at hop hk'
      have hop : op = none := hop
      subst hop
      refine key ds (fun _ => ρ1) fun σ B H W s sd vs B1 H1 W1 l1 s1 a1 => ⟨fun _ => False, ⟨a1.len.1, fun j d hd => ?_, fun _ z => z.elim⟩, fun _ _ z => z, fun _ z => z.elim, fun e B2 H2 A' l2 o2 t2 => ⟨W1, s1.up l2 fun p z => z.elim, ⟨l2.to fun _ z => z.elim, fun _ z => .inl z⟩, fun _ z => .inr ⟨z, fun y => y⟩⟩⟩
      obtain ⟨v, k, hv, hkk, ha⟩ := a1.at hd
      refine ⟨v, hv, fun _ => ?_, fun z => nomatch z⟩
      have w := okArgs.at hk' hkk
      cases k with
      | d => exact ha
      | s i => exact ha.1
      | o i => exact nomatch w.2
    | some ji =>
      obtain ⟨j0, i0⟩ := ji
      rw [ho] at hop hk'
      have hop : op = some j0 := hop
      subst hop
      show EOy K cl E m O _ ρ (match ρ1[i0]? with | some (some c) => (match F (ds.set j0 c) with | .v d e => .v d (ρ1.set i0 (some e)) | .o d e => .o d (ρ1.set i0 (some e)) | .st => .st | .x c j => (match ks[j]? with | some (.s i) => .x c i | _ => .st)) | _ => .st)
      split
      · next c hc =>
        refine key (ds.set j0 c) (fun e => ρ1.set i0 (some e)) fun σ B H W s sd vs B1 H1 W1 l1 s1 a1 => ?_
        obtain ⟨el, ek⟩ := a1.len
        -- where the changed argument stands
        have hsome : ∃ k, ks[j0]? = some k ∧ (match k with | .o i => i = i0 ∧ O i0 = true | _ => False) := by
          have key2 : ∀ (ks : List AK) (n j i : Nat), ownArg n ks = some (j, i) → ∃ t, j = n + t ∧ ks[t]? = some (.o i) := by
            intro ks
            induction ks with
            | nil => exact fun _ _ _ h => nomatch h
            | cons k ks ih =>
              intro n j i h
              cases k with
              | o i' =>
                have h : some (n, i') = some (j, i) := h
                cases h
                exact ⟨0, rfl, rfl⟩
              | d =>
                obtain ⟨t, e1, e2⟩ := ih (n + 1) j i h
                exact ⟨t + 1, by omega, e2⟩
              | s i' =>
                obtain ⟨t, e1, e2⟩ := ih (n + 1) j i h
                exact ⟨t + 1, by omega, e2⟩
          obtain ⟨t, e1, e2⟩ := key2 ks 0 j0 i0 ho
          rw [Nat.zero_add] at e1
          subst e1
          have w := okArgs.at hk' e2
          exact ⟨_, e2, rfl, w.1⟩
        obtain ⟨k0, hk0, hki⟩ := hsome
        cases k0 with
        | d => exact hki.elim
        | s i => exact hki.elim
        | o i =>
          obtain ⟨rfl, hOi⟩ := hki
          have jl : j0 < ds.length := by
            rw [← ek]
            exact (List.getElem?_eq_some_iff.mp hk0).1
          obtain ⟨u, k2, hu, hk2, ha⟩ := a1.at (List.getElem?_eq_getElem jl)
          rw [hk0] at hk2
          cases hk2
          have ha : σ[i]? = some (some u) := ha
          obtain ⟨p, e1, e3⟩ := s1.own i c hOi hc
          rw [ha] at e1
          cases e1
          refine ⟨W1 i, ⟨by rw [List.length_set]; exact el, fun j d hd => ?_, fun a z => s1.bh i a z⟩, (fun z => nomatch z), fun q z => ⟨i, z⟩, fun e B2 H2 A' l2 o2 t2 => ?_⟩
          · by_cases q : j = j0
            · subst q
              rw [List.getElem?_set_self jl] at hd
              cases hd
              exact ⟨_, hu, fun z => (z rfl).elim, fun _ => ⟨p, rfl, e3⟩⟩
            · rw [List.getElem?_set_ne (Ne.symm q)] at hd
              obtain ⟨v, k, hv, hkk, hav⟩ := a1.at hd
              refine ⟨v, hv, fun _ => ?_, fun z => (q (Option.some.inj z).symm).elim⟩
              have w := okArgs.at hk' hkk
              cases k with
              | d => exact hav
              | s i => exact hav.1
              | o i2 =>
                cases w.2
                exact (q rfl).elim
          · obtain ⟨s2, g2⟩ := s1.chgG i hOi hc ha l2 (A := A') t2 (o2 p ⟨j0, rfl, hu⟩)
            refine ⟨_, s2, g2, fun a ⟨t, z⟩ => ?_⟩
            rcases z with ⟨_, z⟩ | ⟨n, z⟩
            · exact .inl z
            · exact .inr ⟨⟨t, z⟩, fun y => n (s1.dis t i a z y)⟩
      · trivial
theorem ye_call {F : List PyData → FR} {op : Option Nat} (h : YA K cl E m O al ks fl) (hk : okArgs O (ownArg 0 ks) ks = true := by rfl) (hop : op = (ownArg 0 ks).map (·.1) := by rfl) (hm : ks.all (fun k => match k with
    | .s i => decide (i < m)
    | _ => true) = true := by rfl) : YE K cl E m O (tCallS (SpY K cl op F) (WE fun c d _ H => E c d H) al) (eCall F ks fl) := ye_callG h hk hop fun j i e => ⟨by
    have w := List.all_eq_true.mp hm _ (List.mem_of_getElem? e)
    exact of_decide_eq_true w, fun _ _ _ _ z => z⟩
theorem ye_call0 {F : List PyData → FR} {op : Option Nat} {Ew : L2.St → XK} (h : YA K cl E m O al ks fl) (hk : okArgs O (ownArg 0 ks) ks = true := by rfl) (hop : op = (ownArg 0 ks).map (·.1) := by rfl) (hs : ks.all (fun k => match k with
    | .s _ => false
    | _ => true) = true := by rfl) : YE K cl E m O (tCallS (SpY K cl op F) Ew al) (eCall F ks fl) := ye_callG h hk hop fun j i e => by
    have w := List.all_eq_true.mp hs _ (List.mem_of_getElem? e)
    exact nomatch w
end
end TD

set_option maxHeartbeats 4000000
namespace TD
open PySem PySem.Spec PyProof.Rows L2
open PySem.W (alike alikeAll dataLt lt_data ge_data)
open Evl (Ex)
def gI (g : Int → Int → Int) : PyData → PyData → Option PyData
  | .int i, .int j => some (.int (g i j))
  | _, _ => none
def gB (g : Int → Int → Bool) : PyData → PyData → Option PyData
  | .int i, .int j => some (.bool (g i j))
  | _, _ => none
def gEq : PyData → PyData → Option PyData
  | .int i, .int j => some (.bool (decide (i = j)))
  | .str i, .str j => some (.bool (decide (i = j)))
  | .bool i, .bool j => some (.bool (i == j))
  | _, _ => none
def gIxL : PyData → PyData → Option PyData
  | .list ds, .int (.ofNat i) => ds[i]?
  | _, _ => none
def gIxT : PyData → PyData → Option PyData
  | .tuple ds, .int (.ofNat i) => ds[i]?
  | _, _ => none
def gCat : PyData → PyData → Option PyData
  | .list ds, .list es => match decide (ds.length + es.length ≤ 100000) with
    | true => some (.list (ds ++ es))
    | false => none
  | _, _ => none
def gLen : List PyData → Option PyData
  | [.list ds] => some (.int ds.length)
  | [.tuple ds] => some (.int ds.length)
  | _ => none
def boolsOf : List PyData → Option (List Bool)
  | [] => some []
  | .bool b :: ds => match boolsOf ds with
    | some bs => some (b :: bs)
    | none => none
  | _ => none
def gAll : List PyData → Option PyData
  | [.list ds] => match boolsOf ds with
    | some bs => some (.bool (bs.all id))
    | none => none
  | _ => none
section
variable {K : Fg}
theorem o_I {g : Int → Int → Int} : Op2 K (rI0 fun i j => .int (g i j)) (gI g) := fun x y z h => by
  unfold gI at h
  split at h
  · cases h
    exact r_Ii
  · exact nomatch h
theorem o_B {g : Int → Int → Bool} : Op2 K (rI0 fun i j => .bl (g i j)) (gB g) := fun x y z h => by
  unfold gB at h
  split at h
  · cases h
    exact r_Ib
  · exact nomatch h
theorem o_eq : Op2 K rEq gEq := fun x y z h => by
  unfold gEq at h
  split at h
  · cases h
    exact r_eqI
  · cases h
    exact r_eqS
  · cases h
    exact r_eqB
  · exact nomatch h
theorem o_ixL : Op2 K (rIxL K) gIxL := fun x y z h => by
  unfold gIxL at h
  split at h
  · exact r_ixL h
  · exact nomatch h
theorem o_ixT : Op2 K (rIxT K) gIxT := fun x y z h => by
  unfold gIxT at h
  split at h
  · exact r_ixT h
  · exact nomatch h
theorem o_cat : Op2 K rCat gCat := fun x y z h => by
  unfold gCat at h
  split at h
  · next ds es =>
    split at h
    · next e =>
      cases h
      exact r_cat (of_decide_eq_true e)
    · exact nomatch h
  · exact nomatch h
theorem c_len : OpC K (rLen K) gLen := fun xs z h => by
  unfold gLen at h
  split at h
  · cases h
    exact rc_lenL
  · cases h
    exact rc_lenT
  · exact nomatch h
theorem boolsOf_cons {b : Bool} {ds : List PyData} {bs : List Bool} (h : boolsOf (.bool b :: ds) = some bs) : ∃ cs, boolsOf ds = some cs ∧ bs = b :: cs := by
  have h' : (match boolsOf ds with | some bs => some (b :: bs) | none => none) = some bs := h
  cases e : boolsOf ds with
  | none => rw [e] at h'; exact nomatch h'
  | some cs => rw [e] at h'; exact ⟨cs, rfl, (Option.some.inj h').symm⟩
theorem boolsOf_eq : ∀ {ds : List PyData} {bs : List Bool}, boolsOf ds = some bs → ds = bs.map PyData.bool
  | [], bs, h => by
    cases h
    rfl
  | .bool b :: ds, bs, h => by
    obtain ⟨cs, e, rfl⟩ := boolsOf_cons h
    rw [boolsOf_eq e]
    rfl
  | .none :: _, _, h => nomatch h
  | .int _ :: _, _, h => nomatch h
  | .str _ :: _, _, h => nomatch h
  | .list _ :: _, _, h => nomatch h
  | .tuple _ :: _, _, h => nomatch h
  | .dict _ :: _, _, h => nomatch h
theorem c_all : OpC K (rAll K) gAll := fun xs z h => by
  unfold gAll at h
  split at h
  · split at h
    · next bs e =>
      cases h
      rw [boolsOf_eq e]
      exact rc_all
    · exact nomatch h
  · exact nomatch h
def gIc (c : Int → Int → Bool) (g : Int → Int → Int) : PyData → PyData → Option PyData
  | .int i, .int j => match c i j with
    | true => some (.int (g i j))
    | false => none
  | _, _ => none
theorem o_Ic {C : Int → Int → Prop} {c : Int → Int → Bool} {g : Int → Int → Int} (h : ∀ i j, c i j = true → C i j) : Op2 K (rI C fun i j => .int (g i j)) (gIc c g) := fun x y z e => by
  unfold gIc at e
  split at e
  · next i j =>
    split at e
    · next hc =>
      cases e
      exact r_IC (h i j hc)
    · exact nomatch e
  · exact nomatch e
end
section
variable {K : Fg} {cl : Nat → Addr} {E : XK} {m : Nat} {O : Nat → Bool} {ta tb te tk : TE} {fa fb fe fk : En → ER} {al : TA} {fl : En → AR} {ks : List AK} {t : TS} {f : En → SR} {ρ ρ1 : En} {r : R2} {W : OW}
def eIsi (T : String) (fa : En → ER) (ρ : En) : ER := eThen (fa ρ) fun x ρ1 => .v (.bool (isT T x)) ρ1
theorem ye_isi {T : String} (ha : YE K cl E m O ta fa) (hT : T = "int" ∨ T = "bool" ∨ T = "list" ∨ T = "tuple" ∨ T = "str" := by simp) : YE K cl E m O (tCB (rIsi K) (tCons ta (tCons (tC (.ty T)) tNil))) (eIsi T fa) := fun ρ =>
  ey_then (ha ρ) (fun σ H Q z => z _) fun x ρ1 m1 hx => ⟨m1, fun σ B H W s sd Q q => hx σ B H W s sd _ fun v B1 H1 W1 l1 s1 d1 => ⟨v, .ty T, _, _, isT T x, rfl, .ty T, da_ty (d1.ex l1.sub), kitT hT, q _ B1 H1 W1 l1 s1 (.bl _)⟩⟩
theorem Das.set {B : Hp} {v : V} {d : PyData} : ∀ {vs : List V} {ds : List PyData} {n : Nat}, Das K B vs ds → Da K B v d → Das K B (vs.set n v) (ds.set n d)
  | [], [], n, _, _ => by
    rw [List.set_nil, List.set_nil]
    exact .nil
  | u :: vs, e :: ds, 0, h, hd => by
    cases h with
    | cons a t => exact .cons hd t
  | u :: vs, e :: ds, n + 1, h, hd => by
    cases h with
    | cons a t => exact .cons a (Das.set t hd)
end
section
variable {P : Program} {w : World} {K : Fg} {mg : Str → Option Value} {base : Heap} {x : Str} {ps N : List Str} {k m : Nat} {st : Stmt} {cl : Nat → Addr} {O : Nat → Bool}
theorem fy_fn {f : En → SR} {f' : Addr} {fd : FuncData} (op : Option Nat) (F : Fun K x x st f' fd) (S : FnScope N ps (defScope st))
    (hO : ∀ j, j < ps.length → (O j = true ↔ op = some j)) (hop : ∀ j, op = some j → j < m ∧ j < ps.length)
    (body : ∀ (f' : Addr) (cdv : Value) (A : Around) (outer : List Env) (s : Shared) (H : Hp) (E : XK), A.guards = some [] → Room k (A.deeper (envOfC x (defScope st) s.heap.objs.size f' cdv)) →
      Takes (cxOf (L2.CX P w) P w K mg base N x (defScope st) f' cdv A outer s H E) (fun c d _ H => E c d H) →
      ∃ t, PSs (cxOf (L2.CX P w) P w K mg base N x (defScope st) f' cdv A outer s H E) (defBody st) t ∧ YS K cl E m O t f) : FnG P w K mg base (L2.CX P w) (k + 1) f' fd ps (SpY K cl op (fnY ps.length N.length op f)) := by
  have len : ∀ {ds : List PyData}, fnY ps.length N.length op f ds ≠ .st → ds.length = ps.length := fun {ds} n => by
    unfold fnY at n
    split at n
    · exact (n rfl).elim
    · next e => exact of_decide_eq_true e
  refine fnG F S ?_ ?_
  · rintro vs H Q E ⟨B, ds, A, _, ⟨hl, _⟩, _, r⟩
    refine hl.trans (len fun z => ?_)
    rw [z] at r
    exact r
  intro cdv A outer s H vs Q E gu hr ⟨B, ds, A0, sx, ⟨hl, hargs, hA⟩, hno, r⟩
  obtain ⟨t, ht, hy⟩ := body f' cdv A outer s H E gu hr (takes_of rfl rfl rfl rfl)
  refine ⟨t, ht, ?_⟩
  have hds : ds.length = ps.length := len fun z => by rw [z] at r; exact r
  have hvl : vs.length = ps.length := hl.trans hds
  -- the slots at the start
  have ent : ∀ {i : Nat} {d : PyData}, (ds.map some ++ List.replicate (N.length - ps.length) none)[i]? = some (some d) → i < ds.length ∧ ds[i]? = some d := fun {i d} e => by
    by_cases hi : i < ds.length
    · rw [List.getElem?_append_left (by rw [List.length_map]; exact hi), List.getElem?_map] at e
      obtain ⟨d2, e1, e2⟩ := Option.map_eq_some_iff.mp e
      cases e2
      exact ⟨hi, e1⟩
    · rw [List.getElem?_append_right (by rw [List.length_map]; omega), List.getElem?_replicate] at e
      split at e <;> cases e
  have sta : ∀ {i : Nat} {v : V}, i < ds.length → vs[i]? = some v → (L2.start N vs)[i]? = some (some v) := fun {i v} hi e => by
    unfold L2.start
    rw [List.getElem?_append_left (by rw [List.length_map]; omega), List.getElem?_map, e]
    rfl
  have sd : SDo K O (L2.start N vs) B H (ds.map some ++ List.replicate (N.length - ps.length) none) (fun i a => op = some i ∧ A0 a) := by
    refine ⟨by unfold L2.start; rw [List.length_append, List.length_append, List.length_map, List.length_map, List.length_replicate, List.length_replicate, hvl, hds], fun i d h1 h2 => ?_, fun i d h1 h2 => ?_, fun i a h => hA a h.2, fun i j a h1 h2 => Option.some.inj (h1.1.symm.trans h2.1)⟩
    · obtain ⟨hi, e⟩ := ent h2
      obtain ⟨v, e1, e2, e3⟩ := hargs i d e
      exact ⟨v, sta hi e1, .inl (e2 fun z => by
        have := (hO i (by omega)).mpr z
        rw [h1] at this
        exact nomatch this)⟩
    · obtain ⟨hi, e⟩ := ent h2
      obtain ⟨v, e1, e2, e3⟩ := hargs i d e
      have e6 := (hO i (by omega)).mp h1
      obtain ⟨p, rfl, e5⟩ := e3 e6
      exact ⟨p, sta hi e1, e5.mono fun a z => ⟨e6, z⟩⟩
  have waA : ∀ p, WA (fun i a => op = some i ∧ A0 a) p → A0 p := fun p ⟨_, _, z⟩ => z
  -- the changed argument at the end
  have fin : ∀ {ρ' : En} {σ' : L2.St} {B' H' : Hp} {W' : OW}, stands op ρ' = true → SDo K O σ' B' H' ρ' W' → (∀ i, i < m → σ'[i]? = (L2.start N vs)[i]?) → Go (fun i a => op = some i ∧ A0 a) B H W' B' H' → ∃ A' : Addr → Prop, (∀ p, AV op vs p → Own K B' H' p A' (endOf op ρ')) ∧ Then A0 H A' B' H' ∧ ∀ a, A' a → WA W' a := fun {ρ' σ' B' H' W'} hst s' k l => by
    cases op with
    | none => exact ⟨fun _ => False, (fun p ⟨j, e, _⟩ => nomatch e), (fun a z => z.elim), fun _ z => z.elim⟩
    | some j =>
      refine ⟨W' j, fun p ⟨j', e, hv⟩ => ?_, fun a z => ⟨(s'.bh j a z).1, (s'.bh j a z).2, (l.own a ⟨j, z⟩).imp (waA a) id⟩, fun a z => ⟨j, z⟩⟩
      cases e
      obtain ⟨jm, jl⟩ := hop j rfl
      unfold stands at hst
      unfold endOf
      cases e : ρ'[j]? with
      | none =>
        simp only [e] at hst
        exact nomatch hst
      | some o =>
        cases o with
        | none =>
          simp only [e] at hst
          exact nomatch hst
        | some c =>
          have hOj := (hO j jl).mpr rfl
          obtain ⟨p', e1, e3⟩ := s'.own j c hOj e
          have e4 := (k j jm).trans (sta (by omega) hv)
          rw [e4] at e1
          cases e1
          simp only [e]
          exact e3
  have hz := hy (ds.map some ++ List.replicate (N.length - ps.length) none)
  have rF : fnY ps.length N.length op f ds = finY op (f (ds.map some ++ List.replicate (N.length - ps.length) none)) := by
    unfold fnY
    rw [show decide (ds.length = ps.length) = true from decide_eq_true hds]
  rw [rF] at r
  refine hz.2 _ B H _ _ sx sd ?_
  cases e : f (ds.map some ++ List.replicate (N.length - ps.length) none) with
  | st => rw [e] at r; exact r
  | br _ => rw [e] at r; exact r.elim
  | ct _ => rw [e] at r; exact r.elim
  | ret d ρ' =>
    rw [e] at r
    cases e2 : stands op ρ' with
    | false =>
      rw [show finY op (.ret d ρ') = .st by simp only [finY, e2]] at r
      exact r.elim
    | true =>
      rw [show finY op (.ret d ρ') = .v d (endOf op ρ') by simp only [finY, e2]] at r
      intro v σ' B' H' W' l s' k hd
      obtain ⟨A', f1, f2, _⟩ := fin e2 s' k l
      exact r v B' H' A' (l.toLeO.to fun p z => .inl (waA p z)) hd f1 f2
  | nx ρ' =>
    rw [e] at r
    cases e2 : stands op ρ' with
    | false =>
      rw [show finY op (.nx ρ') = .st by simp only [finY, e2]] at r
      exact r.elim
    | true =>
      rw [show finY op (.nx ρ') = .v .none (endOf op ρ') by simp only [finY, e2]] at r
      intro σ' B' H' W' l s' k
      obtain ⟨A', f1, f2, _⟩ := fin e2 s' k l
      exact r .non B' H' A' (l.toLeO.to fun p z => .inl (waA p z)) .non f1 f2
  | reto d ρ' =>
    rw [e] at r
    cases e2 : stands op ρ' with
    | false =>
      rw [show finY op (.reto d ρ') = .st by simp only [finY, e2]] at r
      exact r.elim
    | true =>
      rw [show finY op (.reto d ρ') = .o d (endOf op ρ') by simp only [finY, e2]] at r
      intro p A2 σ' B' H' W' l s' k ow n
      obtain ⟨A', f1, f2, f3⟩ := fin e2 s' k l
      exact r p A2 B' H' A' (l.toLeO.to fun p z => .inl (waA p z)) ow (fun a z => let ⟨n1, n2, n3, n4⟩ := n a z; ⟨n1, n2, fun y => n3 (f3 a y), n4.imp (waA a) id⟩) f1 f2
  | x c i =>
    rw [e] at r
    obtain ⟨v, hv, hx⟩ := r
    have hi : i < ds.length := by
      rw [← hl]
      exact (List.getElem?_eq_some_iff.mp hv).1
    exact ⟨v, sta hi hv, fun x B' H' l => hx x B' H' (l.to fun p z => .inl (waA p z))⟩
theorem fy_mk {f : En → SR} (op : Option Nat) (a : At K mg x st) (S : FnScope N ps (defScope st))
    (hb : ∀ (kV doc pm : Value) (an : Option Addr) (cdv ct : Value) (us : List Value), us.length = ps.length → bindArgs (PySem.W.fnOf x x (defArgs st) (defBody st) (defScope st) .none kV doc pm an cdv ct) ⟨us, []⟩ = pure (ps.zip us))
    (hO : ∀ j, j < ps.length → (O j = true ↔ op = some j)) (hop : ∀ j, op = some j → j < m ∧ j < ps.length)
    (body : ∀ (f' : Addr) (cdv : Value) (A : Around) (outer : List Env) (s : Shared) (H : Hp) (E : XK), A.guards = some [] → Room k (A.deeper (envOfC x (defScope st) s.heap.objs.size f' cdv)) →
      Takes (cxOf (L2.CX P w) P w K mg base N x (defScope st) f' cdv A outer s H E) (fun c d _ H => E c d H) →
      ∃ t, PSs (cxOf (L2.CX P w) P w K mg base N x (defScope st) f' cdv A outer s H E) (defBody st) t ∧ YS K cl E m O t f) : Fx P w K mg base x ps (k + 1) (SpY K cl op (fnY ps.length N.length op f)) := by
  obtain ⟨f', fd, F, hm⟩ := a
  exact ⟨f', fd, hm, F.kp, F.binds hb, fy_fn op F S hO hop body⟩
end
end TD

set_option maxHeartbeats 4000000
namespace TD
open PySem PySem.Spec PyProof.Rows L2
section
variable {P : Program} {w : World} {A : Around} {E : Value → Shared → Prop} {s : Shared}
def EnO (h : Heap) (e it : Addr) (i : Int) (old : Value) (a : Addr) : Prop := ∃ b : Bool, h.get? e = some { cls := Value.type "enumerate", data := Data.fields #[rawInt ↑a, Value.bool b, Value.ref it, rawInt i, Value.none, old] }
theorem EnO.type {e it a : Addr} {i : Int} {old : Value} (he : EnO s.heap e it i old a) : s.TypeIs (.ref e) "enumerate" := let ⟨_, h⟩ := he; ⟨_, h, rfl⟩
def EnG (items : Array Value) (h : Heap) (as : List Addr) : Prop := ∀ (j : Nat) (T : Addr), as[j]? = some T → ∃ (u : Tok) (x : Value), items[j]? = some x ∧ h.get? T = some { cls := Value.type "tuple", data := Data.seq #[Value.int (↑j) u, x] }
theorem EnG.keep {items : Array Value} {h h' : Heap} {as : List Addr} (g : EnG items h as) (k : ∀ (b : Addr) (o : Obj), b ∈ as → h.get? b = some o → h'.get? b = some o) : EnG items h' as := fun j T e => by
  obtain ⟨u, x, e1, e2⟩ := g j T e
  exact ⟨u, x, e1, k T _ (List.mem_of_getElem? e) e2⟩
theorem EnG.more {items : Array Value} {h : Heap} {as : List Addr} {T : Addr} {u : Tok} {x : Value} (g : EnG items h as) (hx : items[as.length]? = some x) (ht : h.get? T = some { cls := Value.type "tuple", data := Data.seq #[Value.int (↑as.length) u, x] }) : EnG items h (as ++ [T]) := fun j T' e => by
  by_cases z : j < as.length
  · rw [List.getElem?_append_left z] at e
    exact g j T' e
  · rw [List.getElem?_append_right (by omega)] at e
    have : j = as.length := by
      rcases Nat.lt_or_ge (j - as.length) 1 with w | w
      · omega
      · rw [List.getElem?_eq_none (by simpa using w)] at e
        cases e
    subst this
    simp at e
    subst e
    exact ⟨u, x, hx, ht⟩
theorem update_get {h : Heap} {S b : Addr} {acc : Array Value} {c : Nat} (hS : h.get? S = some { cls := Value.type "list", data := Data.seq acc c }) (f : Array Value → Array Value) : ∃ c', (h.update S (Obj.mapSeq f)).get? S = some { cls := Value.type "list", data := Data.seq (f acc) c' } := ⟨_, Heap.get?_update_self (Obj.mapSeq f) hS rfl⟩
end
end TD

set_option maxHeartbeats 4000000
namespace TD
open PySem PySem.Spec PyProof.Rows L2
open Evl (Ex)
def Fp0 (X : Cx) (b : Addr) : Prop := b ≠ X.env.locals ∧ b ∉ X.fs ∧ (b ∈ X.ex ∨ X.s_0.heap.objs.size ≤ b) ∧ ∀ (x : Str) (c : Addr), List.lookup x X.env.cells = some c → c ≠ b
def itH (l : Addr) : Addr → HO := fun it => .ext fun h => h.IsListIter it l 0
theorem itH_ok {P : Program} {w : World} {H : Hp} {h : Heap} {it l : Addr} (z : h.IsListIter it l 0) : ObjOk P w H h it (itH l it) := ⟨z, let ⟨o, p, _⟩ := z; ⟨o, p⟩, fun _ _ ⟨o, p, q, r⟩ st => ⟨o, st o p, q, r⟩⟩
def noA (H : Hp) (a : Addr) : Hp := fun b => if b = a then none else H b
theorem noA_ne {H : Hp} {a b : Addr} (n : b ≠ a) : noA H a b = H b := if_neg n
theorem noA_self {H : Hp} {a : Addr} : noA H a a = none := if_pos rfl
section
variable {X : Cx} {pins : List (Addr × Obj)} {σ : L2.St} {H : Hp} {s : Shared} {a : Addr} {φ : Heap → Prop}
theorem paired_imp {α β : Type} {R S : α → β → Prop} (h : ∀ a b, R a b → S a b) : ∀ {xs : List α} {ys : List β}, Paired R xs ys → Paired S xs ys
  | _, _, .nil => .nil
  | _, _, .cons p q => .cons (h _ _ p) (paired_imp h q)
theorem objOk_no {P : Program} {w : World} {h : Heap} (ha : H a = some (.ext φ)) : ∀ {o : HO} {b : Addr}, ObjOk P w H h b o → ObjOk P w (noA H a) h b o := by
  intro o
  induction o with
  | frz o u ih => exact fun {b} z => ⟨z.1, ih z.2⟩
  | dT kvs =>
    intro b z
    obtain ⟨z1, z2, xs, z3, z4⟩ := z
    refine ⟨z1, z2, xs, paired_imp (fun p q r => ⟨r.1, ?_, r.2.2⟩) z3, z4⟩
    rw [noA_ne (fun w => by rw [w, ha] at r; exact nomatch r.2.1)]
    exact r.2.1
  | ins C dx fs =>
    intro b z
    obtain ⟨z1, z2⟩ := z
    refine ⟨?_, z2⟩
    rw [noA_ne (fun w => by rw [w, ha] at z1; exact nomatch z1)]
    exact z1
  | _ => exact fun {b} z => z
theorem Inv.forget (I : Inv X pins σ H s) (ha : H a = some (.ext φ)) : Inv X pins σ (noA H a) s := by
  have sub : ∀ {b : Addr} {o : HO}, noA H a b = some o → H b = some o := fun {b o} z => by
    by_cases w : b = a
    · rw [w, noA_self] at z
      exact nomatch z
    · rwa [noA_ne w] at z
  have none : ∀ {b : Addr}, H b = .none → noA H a b = .none := fun {b} z => by
    by_cases w : b = a
    · rw [w, noA_self]
    · rwa [noA_ne w]
  have ne : ∀ {b : Addr} {o : HO}, H b = some o → (∀ ψ, o ≠ .ext ψ) → noA H a b = some o := fun {b o} z n => by
    rw [noA_ne (fun w => by
      rw [w, ha] at z
      exact n φ (Option.some.inj z).symm)]
    exact z
  refine { ok := I.ok, os := I.os, bare := I.bare, base := ?_, loc := I.loc, cell := I.cell, free := none I.free, freeC := fun x c e => none (I.freeC x c e), pin := fun p hp => ?_, hok := fun b o z => objOk_no ha (I.hok b o (sub z)), len := I.len }
  · refine { keep := I.base.keep, slot := I.base.slot, free := fun b u e n hx => none (I.base.free b u e n hx), there := I.base.there, tups := fun b xs e => ne (I.base.tups b xs e) (fun _ z => nomatch z), frzs := fun b u v e => ne (I.base.frzs b u v e) (fun _ z => nomatch z), tbls := fun b ps e => ?_ }
    obtain ⟨m, q⟩ := I.base.tbls b ps e
    exact ⟨m, ne q (fun _ z => nomatch z)⟩
  · obtain ⟨p1, p2, p3⟩ := I.pin p hp
    exact ⟨p1, none p2, p3⟩
theorem Inv.adopt' {o : HO} {s' : Shared} {H' : Hp} (I : Inv X pins σ H s) (new : s.heap.get? a = none) (J : Inv X pins σ H' s') (nH : H' a = none) (ok : ObjOk X.prog X.w (upd H' a o) s'.heap a o) : Inv X pins σ (upd H' a o) s' := by
  have nL : X.env.locals ≠ a := fun z => by
    obtain ⟨m, ⟨es, ep, o, ho, _⟩, _⟩ := I.loc
    rw [z, new] at ho
    exact nomatch ho
  have other : ∀ {b : Addr}, b ≠ a → upd H' a o b = H' b := fun hb => upd_ne hb
  have had : ∀ {b : Addr} {u : HO}, H' b = some u → b ≠ a := fun e z => by
    subst z
    rw [nH] at e
    cases e
  refine { ok := J.ok, os := J.os, bare := J.bare, base := ?_, loc := J.loc, cell := J.cell, free := ?_, freeC := ?_, pin := ?_, hok := J.hok.laidN (fun _ _ e => e) nH ok, len := J.len }
  · refine { keep := J.base.keep, slot := J.base.slot, free := ?_, there := J.base.there, tups := ?_, frzs := ?_, tbls := ?_ }
    · intro b u e n hx
      rw [other (fun z => by
        subst z
        obtain ⟨o', q⟩ := I.base.there b u e hx
        rw [new] at q
        cases q)]
      exact J.base.free b u e n hx
    · intro b xs e
      have q := J.base.tups b xs e
      rwa [other (had q)]
    · intro b u v e
      have q := J.base.frzs b u v e
      rwa [other (had q)]
    · intro b ps e
      obtain ⟨m, q⟩ := J.base.tbls b ps e
      exact ⟨m, by rwa [other (had q)]⟩
  · rw [other nL]
    exact J.free
  · intro x c e
    rw [other (fun z => by
      obtain ⟨v, o, ho, _⟩ := I.cell x c e
      rw [z, new] at ho
      cases ho)]
    exact J.freeC x c e
  · intro p hp
    obtain ⟨p1, p2, p3⟩ := J.pin p hp
    refine ⟨p1, ?_, p3⟩
    rw [other (fun z => by
      have q := (I.pin p hp).1
      rw [z, new] at q
      cases q)]
    exact p2
theorem vals_at : ∀ {xs : List V} {us : List Value} {j : Nat} {x : V}, Vals xs us → xs[j]? = some x → ∃ u, us[j]? = some u ∧ L2.RelV x u
  | _, _, j, x, .nil, e => nomatch e
  | _, _, 0, x, .cons h t, e => by
    cases e
    exact ⟨_, rfl, h⟩
  | _, _, j + 1, x, .cons h t, e => vals_at (j := j) t e
theorem Inv.adopts {s' : Shared} (I : Inv X pins σ H s) : ∀ (as : List (Addr × List V)) {H' : Hp}, Inv X pins σ H' s' → (∀ q ∈ as, s.heap.get? q.1 = none ∧ H' q.1 = none) → (as.map (·.1)).Nodup → (∀ q ∈ as, ∀ H'' : Hp, ObjOk X.prog X.w H'' s'.heap q.1 (.tup q.2)) → ∃ H'', Inv X pins σ H'' s' ∧ (∀ b, b ∉ as.map (·.1) → H'' b = H' b) ∧ ∀ q ∈ as, H'' q.1 = some (.tup q.2)
  | [], H', J, _, _, _ => ⟨H', J, fun _ _ => rfl, fun _ z => nomatch z⟩
  | q :: as, H', J, h1, h2, h3 => by
    have nd := List.nodup_cons.mp h2
    have J1 := Inv.adopt' (a := q.1) (o := .tup q.2) I (h1 q List.mem_cons_self).1 J (h1 q List.mem_cons_self).2 (h3 q List.mem_cons_self _)
    obtain ⟨H'', J2, k1, k2⟩ := Inv.adopts I as J1 (fun r hr => ⟨(h1 r (List.mem_cons_of_mem _ hr)).1, by
      rw [upd_ne (fun z => nd.1 (by
        have w := List.mem_map_of_mem (f := fun x : Addr × List V => x.1) hr
        have w2 : r.1 ∈ as.map (·.1) := w
        rw [z] at w2
        exact w2))]
      exact (h1 r (List.mem_cons_of_mem _ hr)).2⟩) nd.2 (fun r hr => h3 r (List.mem_cons_of_mem _ hr))
    refine ⟨H'', J2, fun b hb => ?_, fun r hr => ?_⟩
    · have nb : b ≠ q.1 ∧ b ∉ as.map (·.1) := ⟨fun z => hb (by rw [z]; exact List.mem_cons_self), fun z => hb (List.mem_cons_of_mem _ z)⟩
      rw [k1 b nb.2, upd_ne nb.1]
    · rcases List.mem_cons.mp hr with z | z
      · rw [z, k1 q.1 nd.1, upd_same]
      · exact k2 r z
end
end TD

set_option maxHeartbeats 4000000
namespace TD
open PySem PySem.Spec PyProof.Rows L2
open Evl (Ex)
theorem das_of {K : Fg} {B : Hp} : ∀ {vs : List V} {ds : List PyData}, vs.length = ds.length → (∀ (j : Nat) (v : V) (d : PyData), vs[j]? = some v → ds[j]? = some d → Da K B v d) → Das K B vs ds
  | [], [], _, _ => .nil
  | v :: vs, d :: ds, e, h => .cons (h 0 v d rfl rfl) (das_of (Nat.succ.inj e) fun j v d a b => h (j + 1) v d a b)
  | [], _ :: _, e, _ => nomatch e
  | _ :: _, [], e, _ => nomatch e
section
variable {K : Fg} {cl : Nat → Addr} {E : XK} {m : Nat} {O : Nat → Bool} {ta tb tc te : TE} {fa fb fc fe : En → ER} {tt tu : TT} {ft fu : En → TR} {al : TA} {fl : En → AR} {ks : List AK} {ρ ρ' ρ1 : En} {t u : TS} {f g : En → SR} {tg : TG} {gz : PyData → En → Option En} {W W1 : OW}
theorem upd_none {H : Hp} {a b : Addr} {o : HO} (h : upd H a o b = none) : b ≠ a ∧ H b = none := by
  by_cases z : b = a
  · rw [z, upd_same] at h
    exact nomatch h
  · rw [upd_ne z] at h
    exact ⟨z, h⟩
theorem ye_cf {R : List PyData → PyData → Prop} {Ew : XK} {g : List PyData → Option PyData} (hg : ∀ ds d, g ds = some d → R ds d) (h : YA K cl E m O al ks fl) (hd : dats ks = true := by rfl) : YE K cl E m O (tCall (SpR K R) [] Ew al) (eCB g fl) := fun ρ =>
  ay_E (h ρ) (fun σ H Q z => z _) fun ds ρ1 m1 hx => ey_of m1 fun d hd2 σ B H W s sd Q q => hx σ B H W s sd _ fun vs B1 H1 W1 l1 s1 a1 => by
    show SpR K R (vs ++ []) H1 Q Ew
    rw [List.append_nil]
    exact ⟨B1, ds, d, l1.sub, a1.das hd, hg ds d hd2, fun z B3 H3 l3 d3 => q z B3 H3 _ (l1.mo l3.o m1) (s1.le l3) d3⟩
end
end TD

set_option maxHeartbeats 4000000
namespace TD
open PySem PySem.Spec PyProof.Rows L2
open Evl (Ex)
section
variable {K : Fg} {cl : Nat → Addr} {E : XK} {m : Nat} {O : Nat → Bool} {ta tb tc te : TE} {fa fb fc fe : En → ER} {tt tu : TT} {ft fu : En → TR} {al : TA} {fl : En → AR} {ks : List AK} {ρ ρ' ρ1 : En} {t u : TS} {f g : En → SR} {tg : TG} {gz : PyData → En → Option En} {W W1 : OW}
def isKeyD : PyData → Option Key
  | .int i => some (.inl i)
  | .str s => some (.inr s)
  | _ => none
theorem isKeyD_eq {d : PyData} {k : Key} (h : isKeyD d = some k) : d = keyD k := by
  cases d <;> simp [isKeyD] at h <;> subst h <;> rfl
theorem isKeyD_keyD {k : Key} : isKeyD (keyD k) = some k := by
  cases k <;> rfl
theorem da_key {B : Hp} {v : V} {k : Key} (h : Da K B v (keyD k)) : v = kV k := by
  cases k with
  | inl i => cases h; rfl
  | inr s => cases h; rfl
theorem das_keys {B : Hp} : ∀ {k : List Key} {vs : List V}, Das K B vs (k.map keyD) → vs = k.map kV
  | [], _, .nil => rfl
  | k :: ks, _, .cons h t => by rw [da_key h, das_keys t]; rfl
def keysOf : List PyData → Option (List Key)
  | [] => some []
  | d :: ds => match isKeyD d, keysOf ds with
    | some k, some ks => some (k :: ks)
    | _, _ => none
theorem keysOf_eq : ∀ {ds : List PyData} {ks : List Key}, keysOf ds = some ks → ds = ks.map keyD
  | [], _, h => by
    cases h
    rfl
  | d :: ds, ks, h => by
    unfold keysOf at h
    cases e1 : isKeyD d with
    | none => rw [e1] at h; exact nomatch h
    | some k =>
      cases e2 : keysOf ds with
      | none => rw [e1, e2] at h; exact nomatch h
      | some ks2 =>
        rw [e1, e2] at h
        cases h
        rw [isKeyD_eq e1, keysOf_eq e2]
        rfl
theorem keysOf_map : ∀ {ks : List Key}, keysOf (ks.map keyD) = some ks
  | [] => rfl
  | k :: ks => by
    show (match isKeyD (keyD k), keysOf (ks.map keyD) with
      | some k, some ks => some (k :: ks)
      | _, _ => none) = _
    rw [isKeyD_keyD, keysOf_map]
def isKeysD : PyData → Option (List Key)
  | .tuple ds => keysOf ds
  | _ => none
def encT (k : List Key) : PyData := .tuple (k.map keyD)
theorem isKeysD_encT {k : List Key} : isKeysD (encT k) = some k := keysOf_map
theorem isKeysD_eq {d : PyData} {k : List Key} (h : isKeysD d = some k) : d = encT k := by
  cases d <;> simp [isKeysD] at h
  rw [keysOf_eq h]
  rfl
def getBy {κ : Type} [DecidableEq κ] (dec : PyData → Option κ) (kvs : List (PyData × PyData)) (k : κ) : Option PyData := (kvs.find? fun q => decide (dec q.1 = some k)).map (·.2)
def putBy {κ : Type} [DecidableEq κ] (dec : PyData → Option κ) (enc : κ → PyData) (kvs : List (PyData × PyData)) (k : κ) (d : PyData) : List (PyData × PyData) :=
  if (kvs.any fun q => decide (dec q.1 = some k)) = true then kvs.map fun q => if dec q.1 = some k then (q.1, d) else q else kvs ++ [(enc k, d)]
section
variable {κ : Type} [DecidableEq κ] {dec : PyData → Option κ} {enc : κ → PyData}
theorem get_by (hde : ∀ k, dec (enc k) = some k) {B : Hp} {k : κ} : ∀ {ws : List (κ × V)} {ds : List PyData}, Das K B (ws.map (·.2)) ds → (valV ws k = none ∧ getBy dec ((ws.map fun q => enc q.1).zip ds) k = none) ∨ ∃ v d, valV ws k = some v ∧ getBy dec ((ws.map fun q => enc q.1).zip ds) k = some d ∧ Da K B v d
  | [], _, .nil => .inl ⟨rfl, rfl⟩
  | w :: ws, _, .cons (d := d) (ds := ds) h t => by
    have ih := get_by hde (k := k) t
    have e1 : valV (w :: ws) k = if w.1 = k then some w.2 else valV ws k := by
      unfold valV
      rw [List.find?_cons]
      by_cases z : w.1 = k
      · rw [decide_eq_true z, if_pos z]
        rfl
      · rw [decide_eq_false z, if_neg z]
    have e2 : getBy dec (((w :: ws).map fun q => enc q.1).zip (d :: ds)) k = if w.1 = k then some d else getBy dec ((ws.map fun q => enc q.1).zip ds) k := by
      show ((((enc w.1, d) :: ((ws.map fun q => enc q.1).zip ds))).find? fun q => decide (dec q.1 = some k)).map (·.2) = _
      rw [List.find?_cons]
      by_cases z : w.1 = k
      · rw [decide_eq_true (show dec (enc w.1) = some k by rw [hde, z]), if_pos z]
        rfl
      · rw [decide_eq_false (show ¬ dec (enc w.1) = some k by rw [hde]; exact fun w => z (Option.some.inj w)), if_neg z]
        rfl
    rw [e1, e2]
    by_cases z : w.1 = k
    · rw [if_pos z, if_pos z]
      exact .inr ⟨_, _, rfl, rfl, h⟩
    · rw [if_neg z, if_neg z]
      exact ih
theorem put_by (hde : ∀ k, dec (enc k) = some k) {B : Hp} {k : κ} {v : V} {d : PyData} (hd : Da K B v d) {ws : List (κ × V)} {ds : List PyData} (h : Das K B (ws.map (·.2)) ds) : ∃ ds', Das K B ((putK ws k v).map (·.2)) ds' ∧ putBy dec enc ((ws.map fun q => enc q.1).zip ds) k d = ((putK ws k v).map fun q => enc q.1).zip ds' := by
  have any_eq : ∀ {ws : List (κ × V)} {ds : List PyData}, Das K B (ws.map (·.2)) ds → (((ws.map fun q => enc q.1).zip ds).any fun q => decide (dec q.1 = some k)) = ws.any fun q => decide (q.1 = k) := by
    intro ws
    induction ws with
    | nil => exact fun _ => rfl
    | cons w ws ih =>
      intro ds h
      cases h with
      | @cons _ _ d ds h t =>
        show (decide (dec (enc w.1) = some k) || (((ws.map fun q => enc q.1).zip ds).any fun q => decide (dec q.1 = some k))) = (decide (w.1 = k) || _)
        rw [ih t, hde]
        congr 1
        exact decide_eq_decide.mpr ⟨fun z => Option.some.inj z, fun z => by rw [z]⟩
  have map_eq : ∀ {ws : List (κ × V)} {ds : List PyData}, Das K B (ws.map (·.2)) ds → ∃ ds', Das K B ((ws.map fun q => if q.1 = k then (q.1, v) else q).map (·.2)) ds' ∧ (((ws.map fun q => enc q.1).zip ds).map fun q => if dec q.1 = some k then (q.1, d) else q) = ((ws.map fun q => if q.1 = k then (q.1, v) else q).map fun q => enc q.1).zip ds' := by
    intro ws
    induction ws with
    | nil => exact fun _ => ⟨[], .nil, rfl⟩
    | cons w ws ih =>
      intro ds h
      cases h with
      | @cons _ _ d0 ds h t =>
        obtain ⟨ds', q1, q2⟩ := ih t
        by_cases z : w.1 = k
        · refine ⟨d :: ds', ?_, ?_⟩
          · show Das K B ((if w.1 = k then (w.1, v) else w).2 :: _) _
            rw [if_pos z]
            exact .cons hd q1
          · show (if dec (enc w.1) = some k then (enc w.1, d) else (enc w.1, d0)) :: (((ws.map fun q => enc q.1).zip ds).map fun q => if dec q.1 = some k then (q.1, d) else q) = (enc (if w.1 = k then (w.1, v) else w).1, d) :: ((ws.map fun q => if q.1 = k then (q.1, v) else q).map fun q => enc q.1).zip ds'
            rw [q2, hde, if_pos z, if_pos (by rw [z])]
        · refine ⟨d0 :: ds', ?_, ?_⟩
          · show Das K B ((if w.1 = k then (w.1, v) else w).2 :: _) _
            rw [if_neg z]
            exact .cons h q1
          · show (if dec (enc w.1) = some k then (enc w.1, d) else (enc w.1, d0)) :: (((ws.map fun q => enc q.1).zip ds).map fun q => if dec q.1 = some k then (q.1, d) else q) = (enc (if w.1 = k then (w.1, v) else w).1, d0) :: ((ws.map fun q => if q.1 = k then (q.1, v) else q).map fun q => enc q.1).zip ds'
            rw [q2, hde, if_neg z, if_neg (fun w => z (Option.some.inj w))]
  unfold putBy putK
  rw [any_eq h]
  cases e : ws.any fun q => decide (q.1 = k) with
  | true => exact map_eq h
  | false =>
    refine ⟨ds ++ [d], ?_, ?_⟩
    · show Das K B ((ws ++ [(k, v)]).map (·.2)) _
      rw [List.map_append]
      exact h.app (.cons hd .nil)
    · show _ ++ _ = ((ws ++ [(k, v)]).map fun q => enc q.1).zip (ds ++ [d])
      rw [List.map_append, List.zip_append (by rw [List.length_map, ← h.len, List.length_map])]
      rfl
theorem putBy_len {B : Hp} {ws : List (κ × V)} {ds : List PyData} (h : Das K B (ws.map (·.2)) ds) : ((ws.map fun q => enc q.1).zip ds).length = ws.length := by
  rw [List.length_zip, List.length_map, ← h.len, List.length_map, Nat.min_self]
end
end
end TD

set_option maxHeartbeats 4000000
namespace TD
open PySem PySem.Spec PyProof.Rows L2
open Evl (Ex)
section
variable {K : Fg} {cl : Nat → Addr} {E : XK} {m : Nat} {O : Nat → Bool} {ta tb tc te tk tx : TE} {fa fb fc fe fk fx : En → ER} {tt tu : TT} {ft fu : En → TR} {al : TA} {fl : En → AR} {ks : List AK} {ρ ρ' ρ1 : En} {t u : TS} {f g : En → SR} {tg : TG} {gz : PyData → En → Option En} {W W1 : OW}
def lookD (kvs : List (PyData × PyData)) (k : PyData) : Option (Option PyData) := (isKeyD k).map fun q => getBy isKeyD kvs q
def lookT (kvs : List (PyData × PyData)) (k : PyData) : Option (Option PyData) := (isKeysD k).map fun q => getBy isKeysD kvs q
theorem da_tup {B : Hp} {v : V} {ds : List PyData} (h : Da K B v (.tuple ds)) : ∃ a xs, v = .ref a ∧ B a = some (.tup xs) ∧ Das K B xs ds := by
  cases h with
  | tup h1 h2 => exact ⟨_, _, rfl, h1, h2⟩
def OpDa (K : Fg) (B : Hp) : Option PyData → Option V → Prop
  | some d, some v => Da K B v d
  | none, none => True
  | _, _ => False
theorem dget_K {B : Hp} {H : Hp} {a : Addr} {ws : List (Key × V)} {ds : List PyData} {y : V} {k : PyData} {o : Option PyData} (ha : H a = some (.dK ws)) (hv : Das K B (ws.map (·.2)) ds) (hy : Da K B y k) (h : lookD ((ws.map fun q => keyD q.1).zip ds) k = some o) : ∃ ov, DGet H a y ov ∧ OpDa K B o ov := by
  obtain ⟨q, e1, e2⟩ := Option.map_eq_some_iff.mp h
  have := isKeyD_eq e1
  subst this
  refine ⟨valV ws q, .inl ⟨ws, q, .inl ha, da_key hy, rfl⟩, ?_⟩
  rcases get_by (dec := isKeyD) (enc := keyD) (fun k => isKeyD_keyD) (k := q) hv with ⟨g1, g2⟩ | ⟨v, d, g1, g2, g3⟩
  · rw [g2] at e2
    subst e2
    rw [g1]
    trivial
  · rw [g2] at e2
    subst e2
    rw [g1]
    exact g3
theorem dget_T {B : Hp} {H : Hp} {a : Addr} {ws : List (List Key × V)} {ds : List PyData} {y : V} {k : PyData} {o : Option PyData} (sx : Ex B H) (ha : H a = some (.dT ws)) (hv : Das K B (ws.map (·.2)) ds) (hy : Da K B y k) (h : lookT ((ws.map fun q => encT q.1).zip ds) k = some o) : ∃ ov, DGet H a y ov ∧ OpDa K B o ov := by
  obtain ⟨q, e1, e2⟩ := Option.map_eq_some_iff.mp h
  have := isKeysD_eq e1
  subst this
  obtain ⟨b, xs, rfl, hb, hxs⟩ := da_tup hy
  rw [das_keys hxs] at hb
  refine ⟨valV ws q, .inr ⟨ws, q, b, .inl ha, rfl, sx _ _ hb, rfl⟩, ?_⟩
  rcases get_by (dec := isKeysD) (enc := encT) (fun k => isKeysD_encT) (k := q) hv with ⟨g1, g2⟩ | ⟨v, d, g1, g2, g3⟩
  · rw [g2] at e2
    subst e2
    rw [g1]
    trivial
  · rw [g2] at e2
    subst e2
    rw [g1]
    exact g3
def lookO (i : Nat) (ρ : En) (k : PyData) : Option (Option PyData) := match ρ[i]? with
  | some (some (.dict kvs)) => lookD kvs k
  | some (some (.tuple [.dict kvs])) => lookT kvs k
  | _ => none
theorem look_own {i : Nat} {σ : L2.St} {B H : Hp} {y : V} {k : PyData} {o : Option PyData} (sx : Ex B H) (sd : SDo K O σ B H ρ W) (hO : O i = true) (hy : Da K B y k) (h : lookO i ρ k = some o) : ∃ p ov, σ[i]? = some (some (.ref p)) ∧ DGet H p y ov ∧ OpDa K B o ov := by
  unfold lookO at h
  split at h
  · next kvs e =>
    obtain ⟨p, a, b, ws, ds, c, hv, rfl⟩ := sd.own i _ hO e
    obtain ⟨ov, g1, g2⟩ := dget_K c hv hy h
    exact ⟨p, ov, a, g1, g2⟩
  · next kvs e =>
    obtain ⟨p, a, b, ws, ds, c, hv, rfl⟩ := sd.own i _ hO e
    obtain ⟨ov, g1, g2⟩ := dget_T sx c hv hy h
    exact ⟨p, ov, a, g1, g2⟩
  · exact nomatch h
def eDInO (neg : Bool) (i : Nat) (fk : En → ER) (ρ : En) : ER := eThen (fk ρ) fun k ρ1 => match lookO i ρ1 k with
  | some o => .v (.bool (neg != o.isSome)) ρ1
  | none => .st
theorem opda_is {B : Hp} {o : Option PyData} {ov : Option V} (h : OpDa K B o ov) : ov.isSome = o.isSome := by
  cases o <;> cases ov <;> first | rfl | exact h.elim
theorem ye_dinO {i : Nat} (hk : YE K cl E m O tk fk) (hO : O i = true := by rfl) : YE K cl E m O (tDIn tk (tVar i)) (eDInO false i fk) := fun ρ =>
  ey_then (hk ρ) (fun σ H Q z => z _) fun k ρ1 m1 hx => by
    split
    · next o h =>
      refine ⟨m1, fun σ B H W s sd Q q => hx σ B H W s sd _ fun y B1 H1 W1 l1 s1 d1 => ?_⟩
      obtain ⟨p, ov, e1, g1, g2⟩ := look_own l1.sub s1 hO d1 h
      refine ⟨.ref p, e1, p, ov, rfl, g1, q _ B1 H1 W1 l1 s1 ?_⟩
      rw [opda_is g2]
      cases o.isSome <;> exact .bl _
    · trivial
def putO (i : Nat) (ρ : En) (k d : PyData) : Option PyData := match ρ[i]? with
  | some (some (.dict kvs)) => match isKeyD k, decide (kvs.length ≤ 90000) with
    | some q, true => some (.dict (putBy isKeyD keyD kvs q d))
    | _, _ => none
  | some (some (.tuple [.dict kvs])) => match isKeysD k, decide (kvs.length ≤ 90000) with
    | some q, true => some (tD (putBy isKeysD encT kvs q d))
    | _, _ => none
  | _ => none
theorem put_own {i : Nat} {σ : L2.St} {B H : Hp} {y v : V} {k d c : PyData} (sx : Ex B H) (sd : SDo K O σ B H ρ W) (hO : O i = true) (hy : Da K B y k) (hv : Da K B v d) (h : putO i ρ k d = some c) : ∃ p o e, ρ[i]? = some (some e) ∧ σ[i]? = some (some (.ref p)) ∧ DPut H p y v (upd H p o) ∧ Own K B (upd H p o) p (W i) c := by
  unfold putO at h
  split at h
  · next kvs e =>
    obtain ⟨p, a, b, ws, ds, hp, hw, rfl⟩ := sd.own i _ hO e
    split at h
    · next q hq hz =>
      cases h
      have hl := of_decide_eq_true hz
      rw [putBy_len hw] at hl
      have := isKeyD_eq hq
      subst this
      obtain ⟨ds', g1, g2⟩ := put_by (dec := isKeyD) (enc := keyD) (fun k => isKeyD_keyD) (k := q) hv hw
      exact ⟨p, .dK (putK ws q v), _, e, a, .inl ⟨ws, q, hp, da_key hy, Nat.lt_of_le_of_lt hl (by decide), rfl⟩, b, putK ws q v, ds', upd_same, g1, g2⟩
    · exact nomatch h
  · next kvs e =>
    obtain ⟨p, a, b, ws, ds, hp, hw, rfl⟩ := sd.own i _ hO e
    split at h
    · next q hq hz =>
      cases h
      have hl := of_decide_eq_true hz
      rw [show (ws.map fun q => PyData.tuple (q.1.map keyD)) = ws.map fun q => encT q.1 from rfl, putBy_len hw] at hl
      have := isKeysD_eq hq
      subst this
      obtain ⟨bb, xs, rfl, hb, hxs⟩ := da_tup hy
      rw [das_keys hxs] at hb
      obtain ⟨ds', g1, g2⟩ := put_by (dec := isKeysD) (enc := encT) (fun k => isKeysD_encT) (k := q) hv hw
      exact ⟨p, .dT (putK ws q v), _, e, a, .inr ⟨ws, q, bb, hp, rfl, sx _ _ hb, Nat.lt_of_le_of_lt hl (by decide), rfl⟩, b, putK ws q v, ds', upd_same, g1, g2⟩
    · exact nomatch h
  · exact nomatch h
end
end TD

set_option maxHeartbeats 4000000
namespace TD
open PySem PySem.Spec PyProof.Rows L2
open Evl (Ex)
section
variable {K : Fg} {cl : Nat → Addr} {E : XK} {m : Nat} {O : Nat → Bool} {ta tb tc te tk tx : TE} {fa fb fc fe fk fx : En → ER} {tt tu : TT} {ft fu : En → TR} {al : TA} {fl : En → AR} {ks : List AK} {ρ ρ' ρ1 : En} {t u : TS} {f g : En → SR} {tg : TG} {gz : PyData → En → Option En} {W W1 : OW}
def gRepr : List PyData → Option PyData
  | [d] => match d.showable && (decide (d.depth ≤ 100) && decide (sz d ≤ 16000000)) with
    | true => some (.str d.shown)
    | false => none
  | _ => none
def sB : Option (En → ER) → En → Option (Option Int × En)
  | none, ρ => some (none, ρ)
  | some f, ρ => match f ρ with
    | .v (.int i) ρ1 => some (some i, ρ1)
    | _ => none
def YB (K : Fg) (cl : Nat → Addr) (E : XK) (m : Nat) (O : Nat → Bool) (to : TO) (fo : Option (En → ER)) : Prop := ∀ ρ r, sB fo ρ = some r → Mo O ρ r.2 ∧ ∀ σ B H W, Ex B H → SDo K O σ B H ρ W → ∀ Q : Option Int → Hp → Prop, (∀ B' H' W', Go W B H W' B' H' → SDo K O σ B' H' r.2 W' → Q r.1 H') → to σ H Q
theorem yb_none : YB K cl E m O (fun _ H Q => Q none H) none := fun ρ r h => by
  cases h
  exact ⟨Mo.rfl', fun σ B H W s sd Q q => q B H W (Go.rfl' s) sd⟩
theorem yb_some (ha : YE K cl E m O ta fa) : YB K cl E m O (tPart ta) (some fa) := fun ρ r h => by
  have a := ha ρ
  have h' : (match fa ρ with | .v (.int i) ρ1 => some (some i, ρ1) | _ => none) = some r := h
  split at h'
  · next i ρ1 e =>
    cases h'
    rw [e] at a
    exact ⟨a.1, fun σ B H W s sd Q q => a.2 σ B H W s sd _ fun v B1 H1 W1 l1 s1 d1 => by
      cases d1
      exact ⟨i, rfl, q B1 H1 W1 l1 s1⟩⟩
  · exact nomatch h'
def eSl (fa : En → ER) (lo hi : Option (En → ER)) (ρ : En) : ER := match fa ρ with
  | .v (.list ds) ρ1 => match sB lo ρ1 with
    | some (l, ρ2) => match sB hi ρ2 with
      | some (u, ρ3) => .v (.list (cutD ds l u)) ρ3
      | none => .st
    | none => .st
  | _ => .st
theorem ye_sl {tl th : TO} {lo hi : Option (En → ER)} (ha : YE K cl E m O ta fa) (hl : YB K cl E m O tl lo) (hh : YB K cl E m O th hi) : YE K cl E m O (tSl (rSlL K) ta tl th) (eSl fa lo hi) := fun ρ => by
  have a := ha ρ
  unfold eSl
  cases e : fa ρ with
  | st => trivial
  | o _ _ => trivial
  | x _ _ => trivial
  | v d ρ1 =>
    rw [e] at a
    cases d with
    | list ds =>
      dsimp only
      cases e1 : sB lo ρ1 with
      | none => trivial
      | some r1 =>
        dsimp only
        cases e2 : sB hi r1.2 with
        | none => trivial
        | some r2 =>
          have b := hl ρ1 r1 e1
          have c := hh r1.2 r2 e2
          refine ⟨(a.1.tr b.1).tr c.1, fun σ B H W s sd Q q => a.2 σ B H W s sd _ fun v B1 H1 W1 l1 s1 d1 => b.2 σ B1 H1 W1 l1.sub s1 _ fun B2 H2 W2 l2 s2 => c.2 σ B2 H2 W2 l2.sub s2 _ fun B3 H3 W3 l3 s3 => ?_⟩
          have d3 := (d1.ex l2.ek).ex l3.ek
          cases d3 with
          | @lst p xs _ hp hs =>
            refine ⟨p, xs, rfl, SqL.of (l3.sub _ _ hp), fun t ht => ?_⟩
            have l4 := Le.new (o := .lst (cutV xs r1.1 r2.1)) l3.sub ht
            exact q _ _ _ _ (((l1.mo l2 a.1).mo l3 (a.1.tr b.1)).mo l4.o ((a.1.tr b.1).tr c.1)) (s3.le l4) (.lst upd_same ((hs.cut r1.1 r2.1).ex l4.ek))
    | _ => trivial
end
end TD

set_option maxHeartbeats 4000000
namespace TD
open PySem PySem.Spec PyProof.Rows L2
open Evl (Ex)
section
variable (P : Program) (w : World) (K : Fg) (mg : Str → Option Value) (base : Heap)
end
section
variable {P : Program} {w : World} {K : Fg} {mg : Str → Option Value} {base : Heap} {x : Str} {ps ks N : List Str} {is : List Nat} {k m : Nat} {st : Stmt} {cl : Nat → Addr} {O : Nat → Bool}
end
section
variable {X : Cx} {x : Str} {ps ks : List Str} {is : List Nat} {k : Nat} {sp : Sp} {p pos : Pos} {tk : TA} {kws : List Keyword}
end
section
variable {K : Fg} {cl : Nat → Addr} {E : XK} {m : Nat} {O : Nat → Bool} {al : TA} {fl : En → AR} {ks : List AK} {ρ ρ' ρ1 : En}
end
end TD

set_option maxHeartbeats 4000000
namespace TD
open PySem PySem.Spec PyProof.Rows L2
open Evl (Ex)
mutual
def noDic : PyData → Bool
  | .list ds => noDics ds
  | .tuple ds => noDics ds
  | .dict _ => false
  | _ => true
def noDics : List PyData → Bool
  | [] => true
  | d :: ds => noDic d && noDics ds
end
mutual
theorem Da.dp {K : Fg} {H : Hp} : ∀ {v : V} {d : PyData}, Da K H v d → noDic d = true → Dp K H v d
  | _, _, .non, _ => .non
  | _, _, .bl b, _ => .bl b
  | _, _, .int i, _ => .int i
  | _, _, .str x, _ => .str x
  | _, _, .lst h t, n => .lst (SqL.of h) (t.dps (by simpa [noDic] using n))
  | _, _, .tup h t, n => .tup (SqT.of h) (t.dps (by simpa [noDic] using n))
  | _, _, .dic h t, n => by simp [noDic] at n
theorem Das.dps {K : Fg} {H : Hp} : ∀ {vs : List V} {ds : List PyData}, Das K H vs ds → noDics ds = true → DpAll K H vs ds
  | _, _, .nil, _ => .nil
  | _, _, .cons h t, n => by
    have n' := Bool.and_eq_true_iff.mp (show (noDic _ && noDics _) = true by simpa [noDics] using n)
    exact .cons (h.dp n'.1) (t.dps n'.2)
end
section
variable {K : Fg} {cl : Nat → Addr} {E : XK} {m : Nat} {O : Nat → Bool} {ta tb tc te tk tx : TE} {fa fb fc fe fk fx : En → ER} {tt tu : TT} {ft fu : En → TR} {al : TA} {fl : En → AR} {ks : List AK} {ρ ρ' ρ1 : En} {t u : TS} {f g : En → SR} {tg : TG} {gz : PyData → En → Option En} {W W1 : OW}
end
end TD

set_option maxHeartbeats 4000000
namespace TD
open PySem PySem.Spec PyProof.Rows L2
open Evl (Ex)
def cMul (i j : Int) : Bool := (decide (-2 ^ 64 < i) && decide (i < 2 ^ 64)) || (decide (-2 ^ 64 < j) && decide (j < 2 ^ 64))
theorem cMul_ok (i j : Int) (h : cMul i j = true) : CMul i j := by
  unfold cMul at h
  simp only [Bool.or_eq_true, Bool.and_eq_true, decide_eq_true_eq] at h
  exact h
theorem op_powB {X : Cx} : OpR X (binaryOp .Pow) (rI (fun i j => i = 10 ^ 60 ∧ j = 10) fun i j => .int (i ^ j.toNat)) := opI fun i j t u s Q E hc q => by
  obtain ⟨rfl, rfl⟩ := hc
  exact PySem.AutoIntOps.pow_4 (by decide) (by decide) (by decide) (by decide) (by decide +kernel) q
theorem pg_tupK {X : Cx} {K : Fg} {es : List Expr} {k : Nat} {t : TGs} {n : Nat} {pos : Pos} (hK : X.K = K) (hc : X.calm = true) (h : PGs X es t)
    (hn : (assignEach es X.env).length = n := by rfl) (hst : (assignEach es X.env).findIdx? (·.1) = none := by rfl) : PG X (.Tuple es k pos) (gTup K n t) := hK ▸ pg_tup hc h hn hst
theorem sl_listK {X : Cx} {K : Fg} (hK : X.K = K) : SlR X (rSlL K) := hK ▸ sl_list
def stB (i : Nat) : Stmt → List Stmt
  | .If _ a b _ => if i = 0 then a else b
  | .For _ _ a _ _ => a
  | .While _ a _ _ => a
  | _ => []
end TD

set_option maxHeartbeats 4000000
namespace TD
open PySem PySem.Spec PyProof.Rows L2
open Evl (Ex)
section
variable {K : Fg} {cl : Nat → Addr} {E E' : XK} {m : Nat} {O : Nat → Bool} {ta tb tc te : TE} {fa fb fc fe : En → ER} {tt tt1 : TT} {ft ft1 : En → TR} {al : TA} {fl : En → AR} {ks : List AK} {ρ ρ' ρ1 : En} {t u : TS} {f g : En → SR} {tg tg1 : TG} {gz gz1 : PyData → En → Option En} {W W1 : OW}
end
end TD

set_option maxHeartbeats 4000000
namespace TD
open PySem PySem.Spec PyProof.Rows L2
section
variable {fa fb fc fe fk : En → ER} {fl fr : En → AR} {ft fu : En → TR} {f g : En → SR} {ρ ρ1 ρ2 ρ3 : En} {d e x y z c : PyData} {ds xs ys zs : List PyData} {i j : Nat} {ks : List AK} {r : SR} {gz : PyData → En → Option En}
def isMark : PyData → Bool
  | .tuple [.dict [(.none, _)]] => true
  | _ => false
theorem zVar (h : ρ[i]? = some (some d)) (n : isMark d = false := by rfl) : eVar i ρ = .v d ρ := by
  unfold eVar
  rw [h]
  split
  · next x e =>
    cases e
    exact nomatch n
  · next e =>
    cases e
    rfl
  · next w => exact (w d rfl).elim
theorem zFzV (h : fa ρ = .v d ρ1) : eFz fa ρ = .v d ρ1 := by
  unfold eFz
  rw [h]
theorem zCons (h : fa ρ = .v d ρ1) (h2 : fr ρ1 = .vs ds ρ2) : aCons fa fr ρ = .vs (d :: ds) ρ2 := by
  unfold aCons
  rw [h]
  dsimp only
  unfold aThen
  rw [h2]
theorem zOne (h : fa ρ = .v d ρ1) : aCons fa aNil ρ = .vs [d] ρ1 := zCons h rfl
theorem zTwo (h : fa ρ = .v d ρ1) (h2 : fb ρ1 = .v e ρ2) : aCons fa (aCons fb aNil) ρ = .vs [d, e] ρ2 := zCons h (zOne h2)
theorem zOp {q : PyData → PyData → Option PyData} (h : fa ρ = .v x ρ1) (h2 : fb ρ1 = .v y ρ2) (h3 : q x y = some z) : eOp q fa fb ρ = .v z ρ2 := by
  unfold eOp eThen
  rw [h]
  dsimp only
  rw [h2]
  dsimp only
  rw [h3]
  rfl
theorem zCB {q : List PyData → Option PyData} (h : fl ρ = .vs xs ρ1) (h3 : q xs = some z) : eCB q fl ρ = .v z ρ1 := by
  unfold eCB aE
  rw [h]
  dsimp only
  rw [h3]
  rfl
theorem zCallV {F : List PyData → FR} (h : fl ρ = .vs ds ρ1) (h2 : F ds = .v d e) (hk : ownArg 0 ks = none := by rfl) : eCall F ks fl ρ = .v d ρ1 := by
  unfold eCall aE
  rw [h]
  dsimp only
  rw [hk]
  dsimp only
  rw [h2]
theorem zVal {b : Bool} (h : fa ρ = .v (.bool b) ρ1) : tVal' fa ρ = .b b ρ1 := by
  unfold tVal'
  rw [h]
theorem zOrF {b : Bool} (h : ft ρ = .b false ρ1) (h2 : fu ρ1 = .b b ρ2) : tOrZ ft fu ρ = .b b ρ2 := by
  unfold tOrZ
  rw [h]
  exact h2
theorem zNot {b : Bool} (h : ft ρ = .b b ρ1) : tNotZ ft ρ = .b (!b) ρ1 := by
  unfold tNotZ
  rw [h]
theorem zSeq (h : f ρ = .nx ρ1) (h2 : g ρ1 = r) : sSeq f g ρ = r := by
  unfold sSeq
  rw [h]
  exact h2
theorem zRetV (h : fa ρ = .v d ρ1) : sRet fa ρ = .ret d ρ1 := by
  unfold sRet
  rw [h]
theorem zSIfT (h : ft ρ = .b true ρ1) (h2 : f ρ1 = r) : sIf ft f g ρ = r := by
  unfold sIf
  rw [h]
  exact h2
theorem zFn {n N : Nat} {op : Option Nat} (hl : ds.length = n) (h : finY op (f (ds.map some ++ List.replicate (N - n) none)) = q) : fnY n N op f ds = q := by
  unfold fnY
  rw [decide_eq_true hl]
  exact h
end
end TD

set_option maxHeartbeats 4000000
namespace TD
open PySem PySem.Spec PyProof.Rows L2
structure Pl (k w : Nat) (d : PyData) : Prop where
  nd : noDic d = true
  lay : d.canLay0 = true
  sh : d.showable = true
  dp : d.depth ≤ k
  up : sz d ≤ w
theorem Pl.up' {k k' w w' : Nat} {d : PyData} (h : Pl k w d) (hk : k ≤ k') (hw : w ≤ w') : Pl k' w' d := ⟨h.nd, h.lay, h.sh, Nat.le_trans h.dp hk, Nat.le_trans h.up hw⟩
theorem Pl.shaped {k w : Nat} {d : PyData} (h : Pl k w d) (hk : k ≤ 64) : SeqAt.shaped d = true := by
  unfold SeqAt.shaped
  rw [h.lay, decide_eq_true (Nat.le_trans h.dp hk)]
  rfl
theorem Pl.repr {k w : Nat} {d : PyData} (h : Pl k w d) (hk : k ≤ 100) (hw : w ≤ 16000000) : gRepr [d] = some (.str d.shown) := by
  show (match d.showable && (decide (d.depth ≤ 100) && decide (sz d ≤ 16000000)) with
    | true => some (PyData.str d.shown)
    | false => none) = _
  rw [h.sh, decide_eq_true (Nat.le_trans h.dp hk), decide_eq_true (Nat.le_trans h.up hw)]
  rfl
section
variable {fa fb fc : En → ER} {fe : En → ER} {fk : En → ER} {ρ ρ1 ρ2 ρ3 : En} {d x y z : PyData} {ds : List PyData} {i : Nat}
end
end TD

set_option maxHeartbeats 4000000
namespace TD
open PySem PySem.Spec PyProof.Rows L2
open Evl (Ex)
section
variable {K : Fg} {cl : Nat → Addr} {E : XK} {m : Nat} {O : Nat → Bool} {tk : TE} {fk : En → ER}
end
end TD

set_option maxHeartbeats 4000000
namespace TD
open PySem PySem.Spec PyProof.Rows L2
section
variable {P : Program} {w : World} {A : Around} {E : Value → Shared → Prop} {s : Shared}
theorem zip_len : typeLookup (Value.type "zip") (Str.ofString "__len__") = pure none := by rfl
theorem zip_hint : typeLookup (Value.type "zip") (Str.ofString "__length_hint__") = pure none := by rfl
theorem hint_zip {e : Addr} {Q : Bool → Shared → Prop} (h : s.TypeIs (.ref e) "zip") (q : Q true s) : wpAny (model P w) A (Builtin.List.listLengthHint (.ref e)) Q E s := by
  unfold Builtin.List.listLengthHint
  refine wpAny_bind (wpAny_specialOf h zip_len ?_)
  exact wpAny_bind (wpAny_specialOf h zip_hint (wpAny_pure q))
def ZpG (xs ys : Array Value) (h : Heap) (as : List Addr) : Prop := ∀ (j : Nat) (T : Addr), as[j]? = some T → ∃ (x y : Value), xs[j]? = some x ∧ ys[j]? = some y ∧ h.get? T = some { cls := Value.type "tuple", data := Data.seq #[x, y] }
theorem ZpG.keep {xs ys : Array Value} {h h' : Heap} {as : List Addr} (g : ZpG xs ys h as) (k : ∀ (b : Addr) (o : Obj), b ∈ as → h.get? b = some o → h'.get? b = some o) : ZpG xs ys h' as := fun j T e => by
  obtain ⟨x, y, e1, e2, e3⟩ := g j T e
  exact ⟨x, y, e1, e2, k T _ (List.mem_of_getElem? e) e3⟩
theorem ZpG.more {xs ys : Array Value} {h : Heap} {as : List Addr} {T : Addr} {x y : Value} (g : ZpG xs ys h as) (hx : xs[as.length]? = some x) (hy : ys[as.length]? = some y) (ht : h.get? T = some { cls := Value.type "tuple", data := Data.seq #[x, y] }) : ZpG xs ys h (as ++ [T]) := fun j T' e => by
  by_cases z : j < as.length
  · rw [List.getElem?_append_left z] at e
    exact g j T' e
  · rw [List.getElem?_append_right (by omega)] at e
    have : j = as.length := by
      rcases Nat.lt_or_ge (j - as.length) 1 with w | w
      · omega
      · rw [List.getElem?_eq_none (by simpa using w)] at e
        cases e
    subst this
    simp at e
    subst e
    exact ⟨x, y, hx, hy, ht⟩
def ZpA (h : Heap) (z TI TO : Addr) (i : Nat) : Prop := (i = 0 ∧ IsZip h z TI TO Value.none ∧ IsPair h TO Value.none Value.none) ∨ ∃ T f o, IsZipHeld h z TI TO T f ∧ h.get? T = some o
structure ZpD (S z TI TO i1 i2 l1 l2 : Addr) : Prop where
  ap : ZipApart z TI TO i1 i2 l1 l2
  Sz : S ≠ z
  STI : S ≠ TI
  STO : S ≠ TO
  S1 : S ≠ i1
  S2 : S ≠ i2
  l1S : l1 ≠ S
  l2S : l2 ≠ S
theorem zip_loop {xs ys : Array Value} {S z TI TO i1 i2 l1 l2 : Addr} (hA : A.handled = none) (D : ZpD S z TI TO i1 i2 l1 l2) (hn : xs.size ≤ sizeLine) (res : Value) {h0 : Heap} {R : Result → Shared → Prop} (n0 : S < h0.objs.size ∧ z < h0.objs.size ∧ TI < h0.objs.size ∧ TO < h0.objs.size ∧ i1 < h0.objs.size ∧ i2 < h0.objs.size ∧ l1 < h0.objs.size ∧ l2 < h0.objs.size)
    (done : ∀ (h' : Heap) (tk : Nat) (acc : Array Value) (c : Nat) (as : List Addr), (∀ (b : Addr) (o : Obj), b ≠ S → b ≠ z → b ≠ TO → b ≠ i1 → b ≠ i2 → h0.get? b = some o → h'.get? b = some o) → h'.get? S = some { cls := Value.type "list", data := Data.seq acc c } → as.length = min xs.size ys.size → ZpG xs ys h' as → acc.toList = as.map Value.ref → as.Nodup → (∀ T ∈ as, h0.objs.size ≤ T) → R (Except.ok (Flow.ret res)) { heap := h', gens := s.gens, drawn := s.drawn, toks := tk, os := s.os }) :
    ∀ (k i : Nat) (h : Heap) (tk c : Nat) (acc : Array Value) (as : List Addr), min xs.size ys.size - i = k → i ≤ min xs.size ys.size → h.IsListIter i1 l1 i → h.IsListIter i2 l2 i → h.IsList l1 xs → h.IsList l2 ys → ZpA h z TI TO i → IsPair h TI (.ref i1) (.ref i2) → (∀ (b : Addr) (o : Obj), b ≠ S → b ≠ z → b ≠ TO → b ≠ i1 → b ≠ i2 → h0.get? b = some o → h.get? b = some o) → h.get? S = some { cls := Value.type "list", data := Data.seq acc c } → acc.toList = as.map Value.ref → as.length = i → ZpG xs ys h as → as.Nodup → (∀ T ∈ as, h0.objs.size ≤ T) → h0.objs.size ≤ h.objs.size →
      codeAny (model P w) A (Code.builtin "list.extend.loop" { pos := [Value.ref S, Value.ref z, res] }) R { heap := h, gens := s.gens, drawn := s.drawn, toks := tk, os := s.os } := by
  obtain ⟨nS, nz, nTI, nTO, n1, n2, nl1, nl2⟩ := n0
  have ap := D.ap
  intro k
  induction k with
  | zero =>
    intro i h tk c acc as hk hi hit1 hit2 hl1 hl2 hzp hTI keep hS hacc has hG nd big sz
    have hi2 : i = min xs.size ys.size := by omega
    have hx : xs[i]? = none ∨ ys[i]? = none := by
      rcases Nat.le_total xs.size ys.size with w | w
      · exact .inl (Array.getElem?_eq_none (by omega))
      · exact .inr (Array.getElem?_eq_none (by omega))
    refine codeAny_builtin F.entry_extend_loop ?_
    unfold Builtin.«list.extend.loop»
    have old : ∀ {b c : Addr}, b ∈ as → c < h0.objs.size → b ≠ c := fun hb hc q => by
      have := big _ hb
      rw [q] at this
      exact Nat.lt_irrefl _ (Nat.lt_of_lt_of_le hc this)
    have fin : ∀ h' : Heap, (∀ (c : Addr) (o : Obj), c ≠ z → c ≠ TO → c ≠ i1 → c ≠ i2 → h.get? c = some o → h'.get? c = some o) → R (Except.ok (Flow.ret res)) { heap := h', gens := s.gens, drawn := s.drawn, toks := tk, os := s.os } := fun h' ex => done h' tk acc c as (fun b o b1 b2 b3 b4 b5 q => ex b o b2 b3 b4 b5 (keep b o b1 b2 b3 b4 b5 q)) (ex S _ D.Sz D.STO D.S1 D.S2 hS) (by omega) (hG.keep fun b o hb q => ex b o (old hb nz) (old hb nTO) (old hb n1) (old hb n2) q) hacc nd big
    refine wpAny_bind ?_
    rcases hzp with ⟨h0', hz, hTO⟩ | ⟨T, f, o, hz, hT⟩
    · subst h0'
      exact wpAny_pyNext_zip_end hA ap hz hTI hTO hit1 hit2 hl1 hl2 hx fun h' ex => wpAny_pure (fin h' ex)
    · exact wpAny_pyNext_zip_end_held hA ap hz hT hTI hit1 hit2 hl1 hl2 hx fun h' ex => wpAny_pure (fin h' fun c o a1 a2 a3 a4 q => ex c o a1 a3 a4 q)
  | succ k ih =>
    intro i h tk c acc as hk hi hit1 hit2 hl1 hl2 hzp hTI keep hS hacc has hG nd big sz
    have hlt : i < xs.size ∧ i < ys.size := by omega
    have elder : ∀ T ∈ as, T < h.objs.size := fun T hT => by
      obtain ⟨j, hj⟩ := List.getElem?_of_mem hT
      obtain ⟨x, y, _, _, e2⟩ := hG j T hj
      exact Heap.lt_size e2
    obtain ⟨x, hx⟩ : ∃ x, xs[i]? = some x := ⟨_, Array.getElem?_eq_getElem hlt.1⟩
    obtain ⟨y, hy⟩ : ∃ y, ys[i]? = some y := ⟨_, Array.getElem?_eq_getElem hlt.2⟩
    refine codeAny_builtin F.entry_extend_loop ?_
    unfold Builtin.«list.extend.loop»
    have asz : acc.size = as.length := by
      have := congrArg List.length hacc
      rwa [Array.length_toList, List.length_map] at this
    have old : ∀ {b c : Addr}, b ∈ as → c < h0.objs.size → b ≠ c := fun hb hc q => by
      have := big _ hb
      rw [q] at this
      exact Nat.lt_irrefl _ (Nat.lt_of_lt_of_le hc this)
    have step : ∀ (h' : Heap) (T' : Addr) (f : Bool), IsZipHeld h' z TI TO T' f → (∃ o, h'.get? T' = some o) → h'.IsListIter i1 l1 (i + 1) → h'.IsListIter i2 l2 (i + 1) → IsPair h' h.objs.size x y → (∀ (b : Addr) (o : Obj), b ≠ z → b ≠ TO → b ≠ i1 → b ≠ i2 → h.get? b = some o → h'.get? b = some o) → h.objs.size ≤ h'.objs.size →
        wpAny (model P w) (A.under (Code.builtin "list.extend.loop" { pos := [Value.ref S, Value.ref z, res] })) (do
          Builtin.List.listUpdate (Value.ref S) fun x_1 => x_1.push (Value.ref h.objs.size)
          again (Code.builtin "list.extend.loop" { pos := [Value.ref S, Value.ref z, res] })) (fun fin s' => match fin with
            | Fin.done f => R (Except.ok f) s'
            | Fin.again c' => c'.quiet = true ∧ codeAny (model P w) A c' R s') (fun e s' => R (Except.error e) s') { heap := h', gens := s.gens, drawn := s.drawn, toks := tk, os := s.os } := by
      intro h' T' f hz ⟨oa, ha⟩ hit1' hit2' ht kp sz'
      have hS' := kp S _ D.Sz D.STO D.S1 D.S2 hS
      refine wpAny_bind (listUpdate_at (f := fun x_1 => x_1.push (Value.ref h.objs.size)) hS' rfl ?_ (by omega) (by simp; omega))
      obtain ⟨c', hS2⟩ := update_get hS' (fun x_1 => x_1.push (Value.ref h.objs.size)) (b := S)
      have k2 : ∀ (b : Addr) (o : Obj), b ≠ S → h'.get? b = some o → (h'.update S (Obj.mapSeq fun x_1 => x_1.push (Value.ref h.objs.size))).get? b = some o := fun b o n q => Heap.get?_update_of_ne _ (Ne.symm n) q
      have TS : h.objs.size ≠ S := Nat.ne_of_gt (Nat.lt_of_lt_of_le nS sz)
      have itk : ∀ {it l : Addr} {n : Nat}, it ≠ S → h'.IsListIter it l n → (h'.update S (Obj.mapSeq fun x_1 => x_1.push (Value.ref h.objs.size))).IsListIter it l n := fun ne ⟨o, o1, o2, o3⟩ => ⟨o, k2 _ o ne o1, o2, o3⟩
      refine wpAny_pure ⟨Code.quiet_builtin _ (by decide +kernel), ih (i + 1) _ tk c' _ (as ++ [h.objs.size]) (by omega) (by omega) (itk (Ne.symm D.S1) hit1') (itk (Ne.symm D.S2) hit2') ?_ ?_ (.inr ⟨T', f, ?_⟩) ?_ (fun b o b1 b2 b3 b4 b5 q => k2 b o b1 (kp b o b2 b3 b4 b5 (keep b o b1 b2 b3 b4 b5 q))) hS2 ?_ ?_ ?_ ?_ ?_ ?_⟩
      · obtain ⟨o, o1, o2, o3⟩ := hl1
        exact ⟨o, k2 l1 o D.l1S (kp l1 o ap.l1z ap.l1TO ap.l1i1 ap.l1i2 o1), o2, o3⟩
      · obtain ⟨o, o1, o2, o3⟩ := hl2
        exact ⟨o, k2 l2 o D.l2S (kp l2 o ap.l2z ap.l2TO ap.l2i1 ap.l2i2 o1), o2, o3⟩
      · have hal : ∃ o, (h'.update S (Obj.mapSeq fun x_1 => x_1.push (Value.ref h.objs.size))).get? T' = some o := by
          by_cases q : T' = S
          · rw [q]
            exact ⟨_, hS2⟩
          · exact ⟨_, k2 T' _ q ha⟩
        obtain ⟨o', ho'⟩ := hal
        exact ⟨o', k2 z _ (Ne.symm D.Sz) hz, ho'⟩
      · exact k2 TI _ (Ne.symm D.STI) (kp TI _ ap.TIz ap.TITO ap.TIi1 ap.TIi2 hTI)
      · rw [Array.toList_push, hacc, List.map_append]
        rfl
      · rw [List.length_append, has]
        rfl
      · exact (hG.keep fun b o hb q => k2 b o (old hb nS) (kp b o (old hb nz) (old hb nTO) (old hb n1) (old hb n2) q)).more (by rw [has]; exact hx) (by rw [has]; exact hy) (k2 h.objs.size _ TS ht)
      · refine List.nodup_append.mpr ⟨nd, List.pairwise_singleton _ _, fun a ha b hb => ?_⟩
        rw [List.mem_singleton.mp hb]
        exact Nat.ne_of_lt (elder a ha)
      · intro b hb
        rcases List.mem_append.mp hb with q | q
        · exact big b q
        · rw [List.mem_singleton.mp q]
          exact sz
      · exact Nat.le_trans sz (Nat.le_trans sz' (Nat.le_of_eq (Heap.size_update ..).symm))
    refine wpAny_bind ?_
    rcases hzp with ⟨h0', hz, hTO⟩ | ⟨T, f, o, hz, hT⟩
    · subst h0'
      refine wpAny_pyNext_zip_item ap hz hTI hTO hit1 hit2 hl1 hl2 hx hy fun h' e1 e2 e3 e4 e5 e6 e7 => ?_
      exact step h' h.objs.size false e1 ⟨_, e5⟩ e3 e4 e5 e7 (by
        have e6' : h'.objs.size = h.objs.size + 1 := e6
        omega)
    · refine wpAny_pyNext_zip_item_held ap hz hT hTI hit1 hit2 hl1 hl2 hx hy fun h' e1 e2 e3 e4 e5 e6 => ?_
      refine step h' T true e1 ?_ e2 e3 e4 (fun b o b1 b2 b3 b4 q => e6 b o b1 b3 b4 q) (by
        have e5' : h'.objs.size = h.objs.size + 1 := e5
        omega)
      by_cases q : T = z
      · exact ⟨_, by rw [q]; exact e1⟩
      · by_cases q1 : T = i1
        · obtain ⟨o', o1, _⟩ := e2
          exact ⟨o', by rw [q1]; exact o1⟩
        · by_cases q2 : T = i2
          · obtain ⟨o', o1, _⟩ := e3
            exact ⟨o', by rw [q2]; exact o1⟩
          · exact ⟨_, e6 T o q q1 q2 hT⟩
theorem zip_init {xs ys : Array Value} {S z TI TO i1 i2 l1 l2 : Addr} (hA : A.handled = none) (D : ZpD S z TI TO i1 i2 l1 l2) (hn : xs.size ≤ sizeLine) {R : Result → Shared → Prop} (hS : s.heap.get? S = some { cls := Value.type "list", data := Data.seq #[] }) (hz : IsZip s.heap z TI TO Value.none) (hTI : IsPair s.heap TI (.ref i1) (.ref i2)) (hTO : IsPair s.heap TO Value.none Value.none) (hit1 : s.heap.IsListIter i1 l1 0) (hit2 : s.heap.IsListIter i2 l2 0) (hl1 : s.heap.IsList l1 xs) (hl2 : s.heap.IsList l2 ys)
    (done : ∀ (h' : Heap) (tk : Nat) (acc : Array Value) (c : Nat) (as : List Addr), (∀ (b : Addr) (o : Obj), b ≠ S → b ≠ z → b ≠ TO → b ≠ i1 → b ≠ i2 → s.heap.get? b = some o → h'.get? b = some o) → h'.get? S = some { cls := Value.type "list", data := Data.seq acc c } → as.length = min xs.size ys.size → ZpG xs ys h' as → acc.toList = as.map Value.ref → as.Nodup → (∀ T ∈ as, s.heap.objs.size ≤ T) → R (Except.ok (Flow.ret Value.none)) { heap := h', gens := s.gens, drawn := s.drawn, toks := tk, os := s.os }) :
    wpAny (model P w) A.in1 (Builtin.«list.__init__» { pos := [Value.ref S, Value.ref z] }) (fun fin s' => match fin with
      | Fin.done f => R (Except.ok f) s'
      | Fin.again c' => c'.quiet = true ∧ codeAny (model P w) A c' R s') (fun e s' => R (Except.error e) s') s := by
  unfold Builtin.«list.__init__»
  have ap := D.ap
  have ty : s.TypeIs (.ref z) "zip" := ⟨_, hz, rfl⟩
  refine wpAny_bind (listItems_at hS rfl ?_)
  refine wpAny_bind (listUpdate_at (f := fun x => #[]) hS rfl ?_ (by decide) (by decide))
  obtain ⟨c1, h1S⟩ := update_get (b := S) hS (fun x => #[])
  generalize hh1 : s.heap.update S (Obj.mapSeq fun x => #[]) = h1 at *
  have k1 : ∀ (b : Addr) (o : Obj), b ≠ S → s.heap.get? b = some o → h1.get? b = some o := fun b o n z => by
    rw [← hh1]
    exact Heap.get?_update_of_ne _ (Ne.symm n) z
  have n1 : h1.objs.size = s.heap.objs.size := by
    rw [← hh1]
    exact Heap.size_update ..
  refine wpAny_bind (wpAny_pure (a := ()) ?_)
  show wpAny (model P w) A.in1 (Builtin.List.listExtendWith (.ref S) (.ref z) Value.none) _ _ _
  unfold Builtin.List.listExtendWith
  have he1 := k1 z _ (Ne.symm D.Sz) hz
  refine wpAny_bind (wpAny_typeOf (T := "zip") ⟨_, he1, rfl⟩ ?_)
  rw [if_neg (by
    have q : (S == z) = false := by
      rw [beq_eq_false_iff_ne]
      exact D.Sz
    simp only [Builtin.List.listSameRef, q]
    decide)]
  refine wpAny_bind (wpAny_pyIter_zip he1 ?_)
  refine wpAny_bind (wpAny_holding (hint_zip ⟨_, he1, rfl⟩ ?_))
  refine wpAny_bind (wpAny_rule ?_)
  unfold Builtin.List.listTouch
  refine wpAny_bind (wpAny_bind (listUpdate_at (f := fun x => x.push Value.none) h1S rfl ?_ (by decide) (by decide)))
  obtain ⟨c2, h2S⟩ := update_get (b := S) h1S (fun x => x.push Value.none)
  generalize hh2 : h1.update S (Obj.mapSeq fun x => x.push Value.none) = h2 at *
  have k2 : ∀ (b : Addr) (o : Obj), b ≠ S → h1.get? b = some o → h2.get? b = some o := fun b o n z => by
    rw [← hh2]
    exact Heap.get?_update_of_ne _ (Ne.symm n) z
  have n2 : h2.objs.size = h1.objs.size := by
    rw [← hh2]
    exact Heap.size_update ..
  refine listUpdate_at (f := fun x => x.pop) h2S rfl ?_ (by decide) (by decide)
  obtain ⟨c3, h3S⟩ := update_get (b := S) h2S (fun x => x.pop)
  generalize hh3 : h2.update S (Obj.mapSeq fun x => x.pop) = h3 at *
  have k3 : ∀ (b : Addr) (o : Obj), b ≠ S → h2.get? b = some o → h3.get? b = some o := fun b o n z => by
    rw [← hh3]
    exact Heap.get?_update_of_ne _ (Ne.symm n) z
  have n3 : h3.objs.size = h2.objs.size := by
    rw [← hh3]
    exact Heap.size_update ..
  have kk : ∀ (b : Addr) (o : Obj), b ≠ S → s.heap.get? b = some o → h3.get? b = some o := fun b o n z => k3 b o n (k2 b o n (k1 b o n z))
  have nn : h3.objs.size = s.heap.objs.size := by omega
  have lt : ∀ {b : Addr} {o : Obj}, s.heap.get? b = some o → b < h3.objs.size := fun z => by
    rw [nn]
    exact Heap.lt_size z
  obtain ⟨o1, p1, p2, p3⟩ := hit1
  obtain ⟨o2, q1, q2, q3⟩ := hit2
  obtain ⟨o3, r1, r2, r3⟩ := hl1
  obtain ⟨o4, t1, t2, t3⟩ := hl2
  refine wpAny_pure ⟨Code.quiet_builtin _ (by decide +kernel), ?_⟩
  refine zip_loop (s := s) hA D hn Value.none (h0 := h3) ⟨lt hS, lt hz, lt hTI, lt hTO, lt p1, lt q1, lt r1, lt t1⟩ (fun h' tk acc c as a1 a2 a3 a4 a5 a6 a7 => done h' tk acc c as (fun b o b1 b2 b3 b4 b5 z => a1 b o b1 b2 b3 b4 b5 (kk b o b1 z)) a2 a3 a4 a5 a6 (fun T hT => by
    have := a7 T hT
    rw [nn] at this
    exact this)) _ 0 h3 s.toks c3 #[] [] rfl (Nat.zero_le _) ⟨o1, kk i1 o1 (Ne.symm D.S1) p1, p2, p3⟩ ⟨o2, kk i2 o2 (Ne.symm D.S2) q1, q2, q3⟩ ⟨o3, kk l1 o3 D.l1S r1, r2, r3⟩ ⟨o4, kk l2 o4 D.l2S t1, t2, t3⟩ (.inl ⟨rfl, kk z _ (Ne.symm D.Sz) hz, kk TO _ (Ne.symm D.STO) hTO⟩) (kk TI _ (Ne.symm D.STI) hTI) (fun b o _ _ _ _ _ z => z) h3S rfl rfl (fun j T z => nomatch z) List.nodup_nil (fun T z => nomatch z) (Nat.le_refl _)
end
end TD

set_option maxHeartbeats 4000000
namespace TD
open PySem PySem.Spec PyProof.Rows L2
open Evl (Ex)
def zH (TI TO : Addr) : Addr → HO := fun z => .ext fun h => IsZip h z TI TO Value.none
def pH (a b : Value) : Addr → HO := fun t => .ext fun h => IsPair h t a b
theorem zH_ok {P : Program} {w : World} {H : Hp} {h : Heap} {z TI TO : Addr} (q : IsZip h z TI TO Value.none) : ObjOk P w H h z (zH TI TO z) := ⟨q, ⟨_, q⟩, fun _ _ q st => st _ q⟩
theorem pH_ok {P : Program} {w : World} {H : Hp} {h : Heap} {t : Addr} {a b : Value} (q : IsPair h t a b) : ObjOk P w H h t (pH a b t) := ⟨q, ⟨_, q⟩, fun _ _ q st => st _ q⟩
theorem list_of_zip {P : Program} {w : World} {A : Around} {E : Value → Shared → Prop} {s : Shared} {xs ys : Array Value} {z TI TO i1 i2 l1 l2 : Addr} (hA : A.handled = none) (hn : xs.size ≤ sizeLine) (ap : ZipApart z TI TO i1 i2 l1 l2) (hz : IsZip s.heap z TI TO Value.none) (hTI : IsPair s.heap TI (.ref i1) (.ref i2)) (hTO : IsPair s.heap TO Value.none Value.none) (hit1 : s.heap.IsListIter i1 l1 0) (hit2 : s.heap.IsListIter i2 l2 0) (hl1 : s.heap.IsList l1 xs) (hl2 : s.heap.IsList l2 ys) {Q : Value → Shared → Prop}
    (done : ∀ (h' : Heap) (tk : Nat) (S : Addr) (acc : Array Value) (c : Nat) (as : List Addr), (∀ (b : Addr) (o : Obj), b ≠ z → b ≠ TO → b ≠ i1 → b ≠ i2 → s.heap.get? b = some o → h'.get? b = some o) → s.heap.objs.size ≤ S → S ∉ as → h'.get? S = some { cls := Value.type "list", data := Data.seq acc c } → as.length = min xs.size ys.size → ZpG xs ys h' as → acc.toList = as.map Value.ref → as.Nodup → (∀ T ∈ as, s.heap.objs.size ≤ T) → Q (.ref S) { heap := h', gens := s.gens, drawn := s.drawn, toks := tk, os := s.os }) :
    wpAny (model P w) A (call (Value.type "list") [Value.ref z]) Q E s := by
  refine callType_codes F.called_list (F.typeCall_list_1 _) F.entry_list_init (code_list_new (.ref z) (E := E) (Q₁ := fun ob t => ob = .ref s.heap.objs.size ∧ t = { heap := s.heap.push { cls := Value.type "list", data := Data.seq #[] }, gens := s.gens, drawn := s.drawn, toks := s.toks, os := s.os }) ⟨rfl, rfl⟩) fun obj s1 hq => ?_
  obtain ⟨rfl, rfl⟩ := hq
  have hS : (s.heap.push { cls := Value.type "list", data := Data.seq #[] }).get? s.heap.objs.size = some { cls := Value.type "list", data := Data.seq #[] } := Heap.get?_push_size _ rfl
  refine ⟨⟨_, hS, rfl⟩, F.args_list_init_2 _ _, ?_⟩
  obtain ⟨o1, p1, p2, p3⟩ := hit1
  obtain ⟨o2, q1, q2, q3⟩ := hit2
  obtain ⟨o3, r1, r2, r3⟩ := hl1
  obtain ⟨o4, t1, t2, t3⟩ := hl2
  have kk : ∀ (b : Addr) (o : Obj), s.heap.get? b = some o → (s.heap.push { cls := Value.type "list", data := Data.seq #[] }).get? b = some o := fun b o z => Heap.get?_push_of_some _ z
  have sz : (s.heap.push { cls := Value.type "list", data := Data.seq #[] }).objs.size = s.heap.objs.size + 1 := Heap.size_push ..
  have nS : ∀ {b : Addr} {o : Obj}, s.heap.get? b = some o → s.heap.objs.size ≠ b := fun z w => by
    have := Heap.lt_size z
    rw [w] at this
    exact Nat.lt_irrefl _ this
  refine zip_init (A := A.in1) (z := z) (TI := TI) (TO := TO) (i1 := i1) (i2 := i2) (l1 := l1) (l2 := l2) (xs := xs) (ys := ys) hA ⟨ap, nS hz, nS hTI, nS hTO, nS p1, nS q1, Ne.symm (nS r1), Ne.symm (nS t1)⟩ hn hS (kk _ _ hz) (kk _ _ hTI) (kk _ _ hTO) ⟨o1, kk _ _ p1, p2, p3⟩ ⟨o2, kk _ _ q1, q2, q3⟩ ⟨o3, kk _ _ r1, r2, r3⟩ ⟨o4, kk _ _ t1, t2, t3⟩ fun h' tk acc c as a1 a2 a3 a4 a5 a6 a7 => ?_
  have a7' : ∀ T ∈ as, s.heap.objs.size + 1 ≤ T := fun T hT => by
    have := a7 T hT
    rw [← sz]
    exact this
  refine ⟨rfl, done h' tk s.heap.objs.size acc c as (fun b o n1 n2 n3 n4 z => a1 b o (Ne.symm (nS z)) n1 n2 n3 n4 (kk b o z)) (Nat.le_refl _) (fun z => ?_) a2 a3 a4 a5 a6 fun T hT => ?_⟩
  · have := a7' _ z
    omega
  · have := a7' T hT
    omega
def rZip (K : Fg) (N : Addr → Prop) : List V → Hp → VK → Prop := fun xs H Q => ∃ l1 l2 ys1 ys2, xs = [.ref l1, .ref l2] ∧ SqL K H l1 ys1 ∧ SqL K H l2 ys2 ∧ ∀ z TI TO i1 i2, N z → N TI → N TO → N i1 → N i2 → ZipApart z TI TO i1 i2 l1 l2 → H z = none → H TI = none → H TO = none → H i1 = none → H i2 = none → l1 ≠ TI → l2 ≠ TI →
  Q (.ref z) (upd (upd (upd (upd (upd H i1 (itH l1 i1)) i2 (itH l2 i2)) TI (pH (.ref i1) (.ref i2) TI)) TO (pH Value.none Value.none TO)) z (zH TI TO z))
def rListZip (K : Fg) (N : Addr → Prop) : List V → Hp → VK → Prop := fun xs H Q => ∃ z TI TO i1 i2 l1 l2 ys1 ys2, xs = [.ref z] ∧ N z ∧ N TI ∧ N TO ∧ N i1 ∧ N i2 ∧ ZipApart z TI TO i1 i2 l1 l2 ∧ l1 ≠ TI ∧ l2 ≠ TI ∧ H z = some (zH TI TO z) ∧ H TI = some (pH (.ref i1) (.ref i2) TI) ∧ H TO = some (pH Value.none Value.none TO) ∧ H i1 = some (itH l1 i1) ∧ H i2 = some (itH l2 i2) ∧ SqL K H l1 ys1 ∧ SqL K H l2 ys2 ∧
  ∀ (p : Addr) (as : List Addr) (H' : Hp), (∀ b o, b ≠ z → b ≠ TI → b ≠ TO → b ≠ i1 → b ≠ i2 → H b = some o → H' b = some o) → H p = none → p ∉ as → (∀ T ∈ as, H T = none) → H' p = some (.lst (as.map V.ref)) → as.length = min ys1.length ys2.length → (∀ (j : Nat) (T : Addr) (x y : V), as[j]? = some T → ys1[j]? = some x → ys2[j]? = some y → H' T = some (.tup [x, y])) → Q (.ref p) H'
section
variable {X : Cx}
theorem call_zipR (hc : X.calm = true) : CallR X (.type "zip") (rZip X.K (Fp0 X)) := by
  rintro pins s σ H xs us Q I hv ⟨l1, l2, ys1, ys2, rfl, hq1, hq2, q⟩
  obtain ⟨its1, a1, a2, a3⟩ := I.list hq1
  obtain ⟨its2, b1, b2, b3⟩ := I.list hq2
  cases hv with
  | cons hu hr =>
  cases hr with
  | cons hu2 hr =>
  cases hr
  cases (show _ = Value.ref l1 from hu)
  cases (show _ = Value.ref l2 from hu2)
  have hl1 : s.heap.IsList l1 its1.toArray := by
    obtain ⟨o, n, a, b, _, d⟩ := a2
    exact ⟨o, a, b, n, d⟩
  have hl2 : s.heap.IsList l2 its2.toArray := by
    obtain ⟨o, n, a, b, _, d⟩ := b2
    exact ⟨o, a, b, n, d⟩
  have get0 : ∀ {b : Addr}, s.heap.objs.size ≤ b → s.heap.get? b = none := fun {b} hb => by
    cases e : s.heap.get? b with
    | none => rfl
    | some o => exact (Nat.lt_irrefl _ (Nat.lt_of_le_of_lt hb (Heap.lt_size e))).elim
  refine call_zip_2 hl1 hl2 fun h' e1 e2 e3 e4 e5 e6 e7 => ?_
  have gone : ∀ {b : Addr}, s.heap.objs.size ≤ b → H b = none := fun {b} hb => I.hok.fresh hb
  generalize hn : s.heap.objs.size = n at *
  have le1 : n ≤ n + 1 := by omega
  have le2 : n ≤ n + 2 := by omega
  have le3 : n ≤ n + 3 := by omega
  have le4 : n ≤ n + 4 := by omega
  have n01 : n + 1 ≠ n := by omega
  have n02 : n + 2 ≠ n := by omega
  have n12 : n + 2 ≠ n + 1 := by omega
  have n03 : n + 3 ≠ n := by omega
  have n13 : n + 3 ≠ n + 1 := by omega
  have n23 : n + 3 ≠ n + 2 := by omega
  have n04 : n + 4 ≠ n := by omega
  have n14 : n + 4 ≠ n + 1 := by omega
  have n24 : n + 4 ≠ n + 2 := by omega
  have n34 : n + 4 ≠ n + 3 := by omega
  have I1 : Inv X pins σ (upd H n (itH l1 n)) { heap := h', gens := s.gens, drawn := s.drawn, toks := s.toks, os := s.os } := I.laid e7 (Nat.le_of_eq hn) (itH_ok e4)
  have I2 := Inv.adopt' (a := n + 1) (o := itH l2 (n + 1)) I (get0 le1) I1 (by rw [upd_ne n01]; exact gone le1) (itH_ok e5)
  have I3 := Inv.adopt' (a := n + 2) (o := pH (.ref n) (.ref (n + 1)) (n + 2)) I (get0 le2) I2 (by rw [upd_ne n12, upd_ne n02]; exact gone le2) (pH_ok e2)
  have I4 := Inv.adopt' (a := n + 3) (o := pH Value.none Value.none (n + 3)) I (get0 le3) I3 (by rw [upd_ne n23, upd_ne n13, upd_ne n03]; exact gone le3) (pH_ok e3)
  have I5 := Inv.adopt' (a := n + 4) (o := zH (n + 2) (n + 3) (n + 4)) I (get0 le4) I4 (by rw [upd_ne n34, upd_ne n24, upd_ne n14, upd_ne n04]; exact gone le4) (zH_ok e1)
  have nl1 : ∀ {b : Addr}, n ≤ b → l1 ≠ b := fun hb z => by
    obtain ⟨o, ho, _⟩ := hl1
    rw [z, get0 hb] at ho
    exact nomatch ho
  have nl2 : ∀ {b : Addr}, n ≤ b → l2 ≠ b := fun hb z => by
    obtain ⟨o, ho, _⟩ := hl2
    rw [z, get0 hb] at ho
    exact nomatch ho
  have fp : ∀ {b : Addr}, n ≤ b → Fp0 X b := fun hb => let ⟨_, f1, f2, f3, f4, _⟩ := I.fpOk (H' := H) (by rw [hn]; exact hb) (gone hb); ⟨f1, f2, f3, f4⟩
  exact ⟨.ref (n + 4), _, I5, rfl, q (n + 4) (n + 2) (n + 3) n (n + 1) (fp le4) (fp le2) (fp le3) (fp (Nat.le_refl _)) (fp le1) ⟨Ne.symm n24, Ne.symm n34, Ne.symm n04, Ne.symm n14, Ne.symm n23, n02, n12, n03, n13, Ne.symm n01, nl1 le4, nl1 le3, nl1 (Nat.le_refl _), nl1 le1, nl2 le4, nl2 le3, nl2 (Nat.le_refl _), nl2 le1⟩ (gone le4) (gone le2) (gone le3) (gone (Nat.le_refl _)) (gone le1) (nl1 le2) (nl2 le2)⟩
theorem call_listZipR (hc : X.calm = true) : CallR X (.type "list") (rListZip X.K (Fp0 X)) := by
  rintro pins s σ H xs us Q I hv ⟨z, TI, TO, i1, i2, l1, l2, ys1, ys2, rfl, fz, fTI, fTO, f1, f2, ap, l1TI, l2TI, hz, hTI, hTO, h1, h2, hq1, hq2, q⟩
  obtain ⟨its1, a1, a2, a3⟩ := I.list hq1
  obtain ⟨its2, b1, b2, b3⟩ := I.list hq2
  cases hv with
  | cons hu hr =>
  cases hr
  cases (show _ = Value.ref z from hu)
  have hl1 : s.heap.IsList l1 its1.toArray := by
    obtain ⟨o, n, a, b, _, d⟩ := a2
    exact ⟨o, a, b, n, d⟩
  have hl2 : s.heap.IsList l2 its2.toArray := by
    obtain ⟨o, n, a, b, _, d⟩ := b2
    exact ⟨o, a, b, n, d⟩
  have zz : IsZip s.heap z TI TO Value.none := (show ObjOk X.prog X.w H s.heap z (.ext fun h => IsZip h z TI TO Value.none) from I.hok z _ hz).1
  have zTI : IsPair s.heap TI (.ref i1) (.ref i2) := (show ObjOk X.prog X.w H s.heap TI (.ext fun h => IsPair h TI (.ref i1) (.ref i2)) from I.hok TI _ hTI).1
  have zTO : IsPair s.heap TO Value.none Value.none := (show ObjOk X.prog X.w H s.heap TO (.ext fun h => IsPair h TO Value.none Value.none) from I.hok TO _ hTO).1
  have z1 : s.heap.IsListIter i1 l1 0 := (show ObjOk X.prog X.w H s.heap i1 (.ext fun h => h.IsListIter i1 l1 0) from I.hok i1 _ h1).1
  have z2 : s.heap.IsListIter i2 l2 0 := (show ObjOk X.prog X.w H s.heap i2 (.ext fun h => h.IsListIter i2 l2 0) from I.hok i2 _ h2).1
  have len1 : its1.toArray.size = ys1.length := by
    rw [List.size_toArray]
    exact (Paired.length a1).symm
  have len2 : its2.toArray.size = ys2.length := by
    rw [List.size_toArray]
    exact (Paired.length b1).symm
  have hA : X.A.handled = none := I.ok.hd hc
  have get0 : ∀ {b : Addr}, s.heap.objs.size ≤ b → s.heap.get? b = none := fun {b} hb => by
    cases e : s.heap.get? b with
    | none => rfl
    | some o => exact (Nat.lt_irrefl _ (Nat.lt_of_le_of_lt hb (Heap.lt_size e))).elim
  have pn : ∀ {b : Addr} {o : HO}, H b = some o → ∀ p ∈ X.pn ++ pins, p.1 ≠ b := fun hb p hp z => by
    have w := (I.pin p hp).2.1
    rw [z, hb] at w
    exact nomatch w
  have I1 : Inv X pins σ (noA H z) s := Inv.forget I hz
  have I2 : Inv X pins σ (noA (noA H z) TI) s := Inv.forget I1 (by rw [noA_ne ap.TIz]; exact hTI)
  have I3 : Inv X pins σ (noA (noA (noA H z) TI) TO) s := Inv.forget I2 (by rw [noA_ne (Ne.symm ap.TITO), noA_ne ap.TOz]; exact hTO)
  have I4 : Inv X pins σ (noA (noA (noA (noA H z) TI) TO) i1) s := Inv.forget I3 (by rw [noA_ne (Ne.symm ap.TOi1), noA_ne (Ne.symm ap.TIi1), noA_ne ap.i1z]; exact h1)
  have I0 : Inv X pins σ (noA (noA (noA (noA (noA H z) TI) TO) i1) i2) s := Inv.forget I4 (by rw [noA_ne (Ne.symm ap.i12), noA_ne (Ne.symm ap.TOi2), noA_ne (Ne.symm ap.TIi2), noA_ne ap.i2z]; exact h2)
  generalize hG : noA (noA (noA (noA (noA H z) TI) TO) i1) i2 = G at I0
  have n1 : ∀ {b : Addr}, b ≠ z → b ≠ TI → b ≠ TO → b ≠ i1 → b ≠ i2 → G b = H b := fun c1 c2 c3 c4 c5 => by rw [← hG, noA_ne c5, noA_ne c4, noA_ne c3, noA_ne c2, noA_ne c1]
  have nG : ∀ {b : Addr}, b = z ∨ b = TI ∨ b = TO ∨ b = i1 ∨ b = i2 ∨ H b = none → G b = none := fun {b} c => by
    have st : ∀ {H : Hp} {a b : Addr}, (b = a ∨ H b = none) → noA H a b = none := fun {H a b} c => by
      by_cases w : b = a
      · rw [w, noA_self]
      · rw [noA_ne w]
        exact c.resolve_left w
    rw [← hG]
    rcases c with c | c | c | c | c | c
    · exact st (.inr (st (.inr (st (.inr (st (.inr (st (.inl c)))))))))
    · exact st (.inr (st (.inr (st (.inr (st (.inl c)))))))
    · exact st (.inr (st (.inr (st (.inl c)))))
    · exact st (.inr (st (.inl c)))
    · exact st (.inl c)
    · exact st (.inr (st (.inr (st (.inr (st (.inr (st (.inr c)))))))))
  refine list_of_zip hA (by rw [len1]; exact a3) ap zz zTI zTO z1 z2 hl1 hl2 fun h' tk S acc c as a1' a2' a3' a4 a5 a6 a7 a8 a9 => ?_
  have g1 : FpOk X pins G z := ⟨nG (.inl rfl), fz.1, fz.2.1, fz.2.2.1, fz.2.2.2, pn hz⟩
  have g3 : FpOk X pins G TO := ⟨nG (.inr (.inr (.inl rfl))), fTO.1, fTO.2.1, fTO.2.2.1, fTO.2.2.2, pn hTO⟩
  have g4 : FpOk X pins G i1 := ⟨nG (.inr (.inr (.inr (.inl rfl)))), f1.1, f1.2.1, f1.2.2.1, f1.2.2.2, pn h1⟩
  have g5 : FpOk X pins G i2 := ⟨nG (.inr (.inr (.inr (.inr (.inl rfl))))), f2.1, f2.2.1, f2.2.2.1, f2.2.2.2, pn h2⟩
  have vals : Vals (as.map V.ref) acc.toList := by
    rw [a7]
    clear a1' a2' a3' a4 a5 a6 a7 a8 a9
    induction as with
    | nil => exact .nil
    | cons a as ih => exact .cons rfl ih
  have hlen : as.length = min ys1.length ys2.length := by rw [a5, len1, len2]
  have J := I0.turnedNew (h' := h') (t' := tk) (ch := [z, TO, i1, i2]) (T := S) (ob := .lst (as.map V.ref)) (fun b o hb q => a1' b o (fun w => hb (by rw [w]; simp)) (fun w => hb (by rw [w]; simp)) (fun w => hb (by rw [w]; simp)) (fun w => hb (by rw [w]; simp)) q) (fun b hb => by
    simp only [List.mem_cons, List.not_mem_nil, or_false] at hb
    rcases hb with w | w | w | w
    · rw [w]; exact g1
    · rw [w]; exact g3
    · rw [w]; exact g4
    · rw [w]; exact g5) a2' ⟨by rw [List.length_map, hlen]; exact Nat.le_trans (Nat.min_le_left _ _) a3, acc.toList, c, vals, a4⟩
  -- the tuples
  let L : List (Addr × List V) := as.zip ((ys1.zip ys2).map fun p => [p.1, p.2])
  have hL : L.map (·.1) = as := List.map_fst_zip (by rw [List.length_map, List.length_zip, hlen]; exact Nat.le_refl _)
  have atL : ∀ {r : Addr × List V}, r ∈ L → ∃ (j : Nat) (x y : V), as[j]? = some r.1 ∧ ys1[j]? = some x ∧ ys2[j]? = some y ∧ r.2 = [x, y] := fun {r} hr => by
    obtain ⟨j, hj⟩ := List.getElem?_of_mem hr
    have e := List.getElem?_zip_eq_some.mp hj
    obtain ⟨p, hp, e2⟩ := (List.getElem?_map ..).symm.trans e.2 |> Option.map_eq_some_iff.mp
    have e3 := List.getElem?_zip_eq_some.mp hp
    exact ⟨j, p.1, p.2, e.1, e3.1, e3.2, e2.symm⟩
  have inL : ∀ {j : Nat} {T : Addr} {x y : V}, as[j]? = some T → ys1[j]? = some x → ys2[j]? = some y → (T, [x, y]) ∈ L := fun {j T x y} e1 e2 e3 => by
    refine List.mem_of_getElem? (i := j) (List.getElem?_zip_eq_some.mpr ⟨e1, ?_⟩)
    rw [List.getElem?_map, (List.getElem?_zip_eq_some (z := (x, y))).mpr ⟨e2, e3⟩]
    rfl
  have gone : ∀ {b : Addr}, s.heap.objs.size ≤ b → H b = none := fun {b} hb => I.hok.fresh hb
  obtain ⟨H'', J2, k1, k2⟩ := Inv.adopts I L J (fun r hr => by
    obtain ⟨j, x, y, e1, _, _, _⟩ := atL hr
    have hm := List.mem_of_getElem? e1
    refine ⟨get0 (a9 _ hm), ?_⟩
    rw [upd_ne (fun z => a3' (by rw [← z]; exact hm))]
    exact nG (.inr (.inr (.inr (.inr (.inr (gone (a9 _ hm)))))))) (by rw [hL]; exact a8) (fun r hr H3 => by
    obtain ⟨j, x, y, e1, e2, e3, e4⟩ := atL hr
    obtain ⟨u, v, c1, c2, c3⟩ := a6 j r.1 e1
    obtain ⟨u2, d1, d2⟩ := vals_at a1 e2
    obtain ⟨v2, d3, d4⟩ := vals_at b1 e3
    have c4 : its1[j]? = some u := by
      rw [← c1]
      exact (List.getElem?_toArray ..).symm
    have c5 : its2[j]? = some v := by
      rw [← c2]
      exact (List.getElem?_toArray ..).symm
    rw [d1] at c4
    rw [d3] at c5
    cases c4
    cases c5
    rw [e4]
    exact ⟨(show 2 ≤ sizeLine by decide), [u, v], .cons d2 (.cons d4 .nil), _, c3, rfl, _, rfl⟩)
  refine ⟨.ref S, H'', J2, rfl, q S as H'' (fun b o m1 m2 m3 m4 m5 w => ?_) (gone a2') a3' (fun T hT => gone (a9 T hT)) ?_ hlen (fun j T x y e1 e2 e3 => k2 _ (inL e1 e2 e3))⟩
  · rw [k1 b (fun v => by
      rw [hL] at v
      rw [gone (a9 b v)] at w
      exact nomatch w), upd_ne (fun v => by
      rw [v, gone a2'] at w
      exact nomatch w), n1 m1 m2 m3 m4 m5]
    exact w
  · rw [k1 S (by rw [hL]; exact a3'), upd_same]
end
end TD

set_option maxHeartbeats 4000000
namespace TD
open PySem PySem.Spec PyProof.Rows L2
open Evl (Ex)
section
variable {K : Fg} {cl : Nat → Addr} {E : XK} {m : Nat} {O : Nat → Bool} {ta tb tc te : TE} {fa fb fc fe : En → ER} {tt tu : TT} {ft fu : En → TR} {al : TA} {fl : En → AR} {ks : List AK} {ρ ρ' ρ1 : En}
theorem zipD_len : ∀ ds es : List PyData, (zipD ds es).length = min ds.length es.length
  | [], _ => by simp [zipD]
  | _ :: _, [] => by simp [zipD]
  | d :: ds, e :: es => by
    rw [zipD, List.length_cons, zipD_len ds es, List.length_cons, List.length_cons]
    omega
theorem zipD_at : ∀ {ds es : List PyData} {j : Nat} {d : PyData}, (zipD ds es)[j]? = some d → ∃ a b, d = .tuple [a, b] ∧ ds[j]? = some a ∧ es[j]? = some b
  | [], _, _, _, h => by simp [zipD] at h
  | _ :: _, [], _, _, h => by simp [zipD] at h
  | a :: ds, b :: es, 0, d, h => by
    rw [zipD] at h
    cases h
    exact ⟨a, b, rfl, rfl, rfl⟩
  | a :: ds, b :: es, j + 1, d, h => zipD_at (ds := ds) (es := es) (j := j) (by simpa [zipD] using h)
theorem zp_core {N : Addr → Prop} {B H : Hp} {l1 l2 : Addr} {vs1 vs2 : List V} {ds es : List PyData} {Q : VK} (sx : Ex B H) (hl1 : H l1 = some (.lst vs1)) (hv1 : Das K B vs1 ds) (hl2 : H l2 = some (.lst vs2)) (hv2 : Das K B vs2 es) (q : ∀ p B' H', Le B H B' H' → B' p = none → H p = none → Own K B' H' p (at1 p) (.list (zipD ds es)) → Q (.ref p) H') : rZip K N [.ref l1, .ref l2] H fun v H1 => rListZip K N [v] H1 Q := by
  refine ⟨l1, l2, vs1, vs2, rfl, SqL.of hl1, SqL.of hl2, fun z TI TO i1 i2 nz nTI nTO n1 n2 ap hz hTI hTO h1 h2 e1 e2 => ?_⟩
  generalize hG : upd (upd (upd (upd (upd H i1 (itH l1 i1)) i2 (itH l2 i2)) TI (pH (.ref i1) (.ref i2) TI)) TO (pH Value.none Value.none TO)) z (zH TI TO z) = G
  have nn : ∀ {b c : Addr} {o : HO}, H b = some o → H c = none → b ≠ c := fun z w q => by
    rw [q, w] at z
    exact nomatch z
  have k0 : ∀ {b : Addr} {o : HO}, H b = some o → G b = some o := fun {b o} w => by
    rw [← hG, upd_ne (nn w hz), upd_ne (nn w hTO), upd_ne (nn w hTI), upd_ne (nn w h2), upd_ne (nn w h1)]
    exact w
  have gz : G z = some (zH TI TO z) := by rw [← hG, upd_same]
  have gTO : G TO = some (pH Value.none Value.none TO) := by rw [← hG, upd_ne ap.TOz, upd_same]
  have gTI : G TI = some (pH (.ref i1) (.ref i2) TI) := by rw [← hG, upd_ne ap.TIz, upd_ne ap.TITO, upd_same]
  have g2 : G i2 = some (itH l2 i2) := by rw [← hG, upd_ne ap.i2z, upd_ne (Ne.symm ap.TOi2), upd_ne (Ne.symm ap.TIi2), upd_same]
  have g1 : G i1 = some (itH l1 i1) := by rw [← hG, upd_ne ap.i1z, upd_ne (Ne.symm ap.TOi1), upd_ne (Ne.symm ap.TIi1), upd_ne ap.i12, upd_same]
  refine ⟨z, TI, TO, i1, i2, l1, l2, vs1, vs2, rfl, nz, nTI, nTO, n1, n2, ap, e1, e2, gz, gTI, gTO, g1, g2, SqL.of (k0 hl1), SqL.of (k0 hl2), fun p as H' k hp pas has hH hlen tups => ?_⟩
  have up : ∀ {b : Addr} {o : HO}, H b = some o → H' b = some o := fun {b o} w => k b o (nn w hz) (nn w hTI) (nn w hTO) (nn w h1) (nn w h2) (k0 w)
  have down : ∀ {b : Addr}, G b = none → H b = none := fun {b} w => by
    rw [← hG] at w
    exact (upd_none (upd_none (upd_none (upd_none (upd_none w).2).2).2).2).2
  have hB : ∀ {b : Addr}, H b = none → B b = none := fun {b} z => by
    cases w : B b with
    | none => rfl
    | some o =>
      rw [sx b o w] at z
      exact nomatch z
  have hlv1 := hv1.len
  have hlv2 := hv2.len
  have ek : Ex B (fun b => if b ∈ as then H' b else B b) := fun b o z => by
    show (if b ∈ as then H' b else B b) = some o
    rw [if_neg (fun w => by
      have := hB (down (has b w))
      rw [this] at z
      exact nomatch z)]
    exact z
  have lL : Le B H (fun b => if b ∈ as then H' b else B b) H' := ⟨fun b o z => up z, ek, fun b o z => by
    by_cases w : b ∈ as
    · rwa [if_pos w] at z
    · rw [if_neg w] at z
      exact up (sx b o z), fun b h1 h2 => by
    show (if b ∈ as then H' b else B b) = none
    rw [if_neg (fun w => h2 (down (has b w)))]
    exact h1⟩
  refine q p _ H' lL (by
    show (if p ∈ as then H' p else B p) = none
    rw [if_neg pas]
    exact hB (down hp)) (down hp) ⟨rfl, as.map V.ref, hH, das_of (by rw [List.length_map, zipD_len, hlen, hlv1, hlv2]) fun j v d a b => ?_⟩
  rw [List.getElem?_map] at a
  obtain ⟨T, a1, rfl⟩ := Option.map_eq_some_iff.mp a
  obtain ⟨x, y, rfl, b1, b2⟩ := zipD_at b
  obtain ⟨u, hu⟩ : ∃ u, vs1[j]? = some u := ⟨_, List.getElem?_eq_getElem (by rw [hlv1]; exact (List.getElem?_eq_some_iff.mp b1).1)⟩
  obtain ⟨v, hv⟩ : ∃ v, vs2[j]? = some v := ⟨_, List.getElem?_eq_getElem (by rw [hlv2]; exact (List.getElem?_eq_some_iff.mp b2).1)⟩
  obtain ⟨x2, c1, c2⟩ := hv1.get hu
  rw [b1] at c1
  cases c1
  obtain ⟨y2, c3, c4⟩ := hv2.get hv
  rw [b2] at c3
  cases c3
  refine .tup (xs := [u, v]) ?_ (.cons (c2.ex ek) (.cons (c4.ex ek) .nil))
  show (if T ∈ as then H' T else B T) = _
  rw [if_pos (List.mem_of_getElem? a1)]
  exact tups j T u v a1 hu hv
def eListZip (fl : En → AR) (ρ : En) : ER := aE (fl ρ) fun xs ρ1 => match xs with
  | [.list ds, .list es] => .o (.list (zipD ds es)) ρ1
  | _ => .st
theorem ye_listZip {N : Addr → Prop} (h : YA K cl E m O al ks fl) (hd : dats ks = true := by rfl) : YE K cl E m O (tCB (rListZip K N) (tCons (tCB (rZip K N) al) tNil)) (eListZip fl) := fun ρ =>
  ay_E (h ρ) (fun σ H Q z => z _) fun ds ρ1 m1 hal => by
    split
    · next a b =>
      refine ⟨m1, fun σ B H W s sd Q q => hal σ B H W s sd _ fun vs B1 H1 W1 l1 s1 hA => ?_⟩
      have hv := hA.das hd
      obtain ⟨v1, r1, rfl, d1, t1⟩ := hv.inv1
      obtain ⟨v2, r2, rfl, d2, t2⟩ := t1.inv1
      cases t2
      cases d1 with
      | @lst p1 xs _ hp1 hw1 =>
      cases d2 with
      | @lst p2 ys _ hp2 hw2 =>
      exact zp_core l1.sub (l1.sub _ _ hp1) hw1 (l1.sub _ _ hp2) hw2 fun p B' H' l n1 n2 o => by
        refine q p (at1 p) B' H' W1 (l1.tr l.o) (s1.le l) o fun b hb => ?_
        have e : b = p := hb
        subst e
        exact ⟨n1, o.some, fun ⟨i, z⟩ => (s1.bh i b z).2 n2, .inr (l1.toLeO.back n2)⟩
    · trivial
end
end TD

set_option maxHeartbeats 4000000
namespace TD
open PySem PySem.Spec PyProof.Rows L2
open Evl (Ex)
theorem dput_set {X : Cx} {pins : List (Addr × Obj)} {σ : L2.St} {H H' : Hp} {s : Shared} {E : Value → Shared → Prop} {D : Addr} {y v : V} {u r : Value} {Q : Unit → Shared → Prop} (hu : X.A.units < cLine) (I : L2.Inv X pins σ H s) (g : DPut H D y v H') (ry : L2.RelV y u) (rv : L2.RelV v r) (h : ∀ t, L2.Inv X pins σ H' t → Q () t) : wpAny (model X.prog X.w) X.A (dictSet D u r) Q E s := by
  rcases g with ⟨kvs, k, e, rfl, l, rfl⟩ | ⟨kvs, k, b, e, rfl, eb, l, rfl⟩
  · exact d_dictSet I e l ry rv h
  · cases (show u = Value.ref b from ry)
    obtain ⟨n1, nm, ws, rl, dd⟩ := dt_of I.hok e
    have n2 : (L2.putK kvs k v).length ≤ sizeLine := Nat.le_trans (length_putK kvs k v) l
    refine wpAny_dictSet_heap (hsz := (Paired.length rl) ▸ n1) hu (key_of I.hok eb) dd fun h2 d2 sb => h _ ?_
    obtain ⟨o, es, ep, p1, p2, p3, p4, _, p5⟩ := d2
    exact d_write I (by rw [e]; trivial) sb ⟨o, p1⟩ ⟨n2, nm, _, (rl.put k eb rv).keeps fun c us ec => by
      rw [upd_ne (L2.ne_of ec e fun z => nomatch z)]
      exact ec, o, es, ep, p1, p2, p3, p4, p5⟩
def tDcP (o0 : HO) (wi : TI) (g : TG) (tt : TT) (tk tv : TE) (vs : List Nat) : TE := fun σ H Q => wi σ H fun J H1 => ∀ D, H1 D = none → ∃ W : Nat → Nat → Hp → Prop, (∃ m, W 0 m (upd H1 D o0)) ∧ ∀ i m G, W i m G → (J.stop i G ∧ Q (.ref D) G) ∨ (J.go i G ∧ ∃ Nx : Hp → Prop, (∀ G', Nx G' → ∃ m', m' < m ∧ W (i + 1) m' G') ∧ ∀ x G', J.yld i G x G' → g x (L2.wipe σ vs) G' fun σ2 G2 => L2.wipe σ2 vs = L2.wipe σ vs ∧ tt σ2 G2 fun b G3 => if b = true then tk σ2 G3 fun y G4 => tv σ2 G4 fun z G5 => ∃ G6, DPut G5 D y z G6 ∧ Nx G6 else Nx G3)
section
variable {X : Cx}
theorem dcP_core {pins : List (Addr × Obj)} {s0 : Shared} {σ : L2.St} {H : Hp} {Q : VK} {use : Option (Value → Sem Unit)} {Qf : Value → Shared → Prop} {o0 : HO} {kx vx tg iter : Expr} {ifs : List Expr} {scope : Scope} {own : List (Str × Nat)} {pos : Pos} {wi : TI} {g : TG} {tt : TT} {tk tv : TE} (ho : ∀ (G : Hp) (h : Heap), sysModules < h.objs.size → ObjOk X.prog X.w G (h.push { cls := .type "dict", data := .dict #[] }) h.objs.size o0) (hu : X.A.units < cLine) (hc : X.calm = true) (nd : X.N.Nodup) (hi : PI X tg iter wi) (ok : BlkOk X.N X.env.scope scope own)
    (hg : ∀ (s : Shared) (H : Hp) (C : Addr) (cl : List (Str × Addr)) (fp : List Addr), PG (X.blk s H scope (compEnvC scope cl C X.env) fp) tg g) (ht : ∀ (s : Shared) (H : Hp) (C : Addr) (cl : List (Str × Addr)) (fp : List Addr), PTs (X.blk s H scope (compEnvC scope cl C X.env) fp) ifs tt) (hk : ∀ (s : Shared) (H : Hp) (C : Addr) (cl : List (Str × Addr)) (fp : List Addr), PE (X.blk s H scope (compEnvC scope cl C X.env) fp) kx tk) (he : ∀ (s : Shared) (H : Hp) (C : Addr) (cl : List (Str × Addr)) (fp : List Addr), PE (X.blk s H scope (compEnvC scope cl C X.env) fp) vx tv) (hs : ∀ x, foldedSetIterable iter X.env x = pure x) (Iv : L2.Inv X pins σ H s0) (hyp : tDcP o0 wi g tt tk tv (own.map (·.2)) σ H Q)
    (hRR : ∀ D C s' m H', L2.Inv X pins σ H' s' → Q (.ref D) H' → s'.heap.Ns C m → FpOk X pins H' C → compPost (model X.prog X.w) X.A X.xe use Qf (.ref D) C (.ok .next) s') :
    wpAny (model X.prog X.w) X.A (comprehension (.DictComp kx vx [⟨tg, iter, ifs, 0⟩] scope pos) scope X.env (firstIterPos [⟨tg, iter, ifs, 0⟩] pos) newDict false (eval iter X.env) use) Qf X.xe s0 := by
  have clos := closure_ok (scope := scope) (env := X.env) fun y my fr => (ok.free y my fr).elim (fun k => Iv.ok.has _ (.inl k)) fun k => Iv.ok.has _ (.inr k)
  refine wpAny_comprehension_free (use := use) rfl hs clos ok.kind (fun y my lo => (ok.uniq y my).trans (congrArg some lo)) ?_
  refine thn (hi.run pins s0 σ H _ Iv hyp) fun _ _ a1 => thn a1 fun _ sA ⟨it, fp, tn, J, HA, ea, IA, T, stA, fA, q⟩ => ?_
  cases ea
  refine wpAny_newObj_type (newEnv_comp ?_)
  obtain ⟨D, hD⟩ : ∃ D, sA.heap.objs.size = D := ⟨_, rfl⟩
  rw [hD]
  obtain ⟨W, ⟨m0, w0⟩, step⟩ := q D (IA.hok.fresh (Nat.le_of_eq hD))
  -- the empty dict
  obtain ⟨sB, hsB⟩ : ∃ t : Shared, ({ sA with heap := sA.heap.push { cls := .type "dict", data := .dict #[] } } : Shared) = t := ⟨_, rfl⟩
  have hB : sB.heap = sA.heap.push { cls := .type "dict", data := .dict #[] } := by rw [← hsB]
  have szB : sB.heap.objs.size = sA.heap.objs.size + 1 := by rw [hB]; exact Heap.size_push ..
  have grow : ∀ {b : Addr} {o : Obj}, sA.heap.get? b = some o → sB.heap.get? b = some o := fun z => by rw [hB]; exact Heap.get?_push_of_some _ z
  obtain ⟨HB, eHB⟩ : ∃ G, upd HA D o0 = G := ⟨_, rfl⟩
  have IB : L2.Inv X pins σ HB sB := by
    subst eHB hsB
    exact IA.laid (t' := sA.toks) (fun _ _ z => Heap.get?_push_of_some _ z) (Nat.le_of_eq hD) (hD ▸ ho _ sA.heap IA.big)
  have old : ∀ b ∈ fp, b < sA.heap.objs.size := fun b mb => (T.obj _ _ stA b mb).elim fun _ z => Heap.lt_size z.1
  have fB : ∀ b ∈ fp, FpOk X pins HB b ∧ b < sB.heap.objs.size := fun b mb => by
    have lt := old b mb
    refine ⟨⟨?_, (fA b mb).2⟩, szB ▸ Nat.lt_succ_of_lt lt⟩
    rw [← eHB, upd_ne (hD ▸ Nat.ne_of_lt lt)]
    exact (fA b mb).1
  have stB : tn 0 sB.heap := T.keep _ _ _ stA fun _ _ _ z => grow z
  have IC := block_start IB ok nd fB
  obtain ⟨ce, hce⟩ : ∃ e, compEnvC scope (cellsFrom (sB.heap.objs.size + 1) scope.names (cloFrom X.env.cells scope.names [])) sB.heap.objs.size X.env = e := ⟨_, rfl⟩
  have cg := hg sB HB sB.heap.objs.size (cellsFrom (sB.heap.objs.size + 1) scope.names (cloFrom X.env.cells scope.names [])) fp
  have ct := ht sB HB sB.heap.objs.size (cellsFrom (sB.heap.objs.size + 1) scope.names (cloFrom X.env.cells scope.names [])) fp
  have ck := hk sB HB sB.heap.objs.size (cellsFrom (sB.heap.objs.size + 1) scope.names (cloFrom X.env.cells scope.names [])) fp
  have cv := he sB HB sB.heap.objs.size (cellsFrom (sB.heap.objs.size + 1) scope.names (cloFrom X.env.cells scope.names [])) fp
  rw [hsB]
  rw [eHB] at w0
  have cloc : ce.locals = sB.heap.objs.size := by rw [← hce]; rfl
  rw [hce] at IC cg ct ck cv
  show codeAny _ _ (.compStart (.DictComp kx vx [⟨tg, iter, ifs, 0⟩] scope pos) 0 (.ref it) (.ref D) (compEnvC scope (cellsFrom (sB.heap.objs.size + 1) scope.names (cloFrom X.env.cells scope.names [])) sB.heap.objs.size X.env)) _ { sB with heap := pushCells (sB.heap.push { cls := .type "dict", data := .dict #[] }) scope.names }
  rw [hce]
  obtain ⟨sC, hsC⟩ : ∃ t : Shared, ({ sB with heap := pushCells (sB.heap.push { cls := .type "dict", data := .dict #[] }) scope.names } : Shared) = t := ⟨_, rfl⟩
  rw [hsC] at IC ⊢
  have stC : tn 0 sC.heap := T.keep _ _ _ stB fun _ _ _ z => by rw [← hsC]; exact pushCells_keeps _ _ _ _ (Heap.get?_push_of_some _ z)
  have fps : ∀ {σ' : L2.St} {G : Hp} {t : Shared}, L2.Inv (X.blk sB HB scope ce fp) [] σ' G t → (∀ b ∈ fp, G b = none) → ∀ b ∈ fp, FpOk (X.blk sB HB scope ce fp) [] G b := fun {σ' G t} J' hn b mb => by
    have ex := J'.ok.exf b mb
    exact ⟨hn b mb, ex.1, J'.ok.exfs b mb, .inl mb, fun x c e => ex.2 x c e, fun p hp => nomatch (show p ∈ ([] : List (Addr × Obj)) from by simpa using hp)⟩
  refine codeAny_compStart_dict ?body (T.self X.A 0 _ _ _ stC ?body)
  refine compLoop_anyD (fun n t => ∃ i G, L2.Inv (X.blk sB HB scope ce fp) [] (L2.wipe σ (own.map (·.2))) G t ∧ tn i t.heap ∧ (∀ b ∈ fp, G b = none) ∧ W i n G) ?_ m0 ⟨0, HB, IC, stC, fun b mb => (fB b mb).1.1, w0⟩
  intro n t ⟨i, G, IG, stG, nG, wG⟩
  rcases step i n G wG with ⟨stop, fin⟩ | ⟨go, Nx, more, turn⟩
  · -- the end: back in the def
    refine thnF (T.done (X.blk sB HB scope ce fp) rfl rfl rfl hc i [] t _ G (fun _ _ => False) IG (fps IG nG) stG stop) fun r t2 ⟨er, I2⟩ => ?_
    subst er
    have I3 : L2.Inv X pins σ G t2 := IB.call' (ch := fp) I2.os I2.base I2.hok I2.bare fun b mb => let ⟨_, z1, z2, z3, z4, z5⟩ := (fB b mb).1; ⟨z3, z1, z4, z5⟩
    have free : G sB.heap.objs.size = none := cloc ▸ (show G ce.locals = none from I2.free)
    obtain ⟨nm, hns, _⟩ := I2.loc
    have hns : t2.heap.Ns sB.heap.objs.size nm := cloc ▸ (show t2.heap.Ns ce.locals nm from hns)
    exact hRR D _ t2 nm G I3 fin hns (IB.fpOk (Nat.le_refl _) free)
  · refine thnF (T.item (X.blk sB HB scope ce fp) rfl rfl rfl hc i [] t _ G (fun _ _ => False) IG (fps IG nG) stG go) fun r t2 ⟨u, er, a2⟩ => ?_
    subst er
    refine thnF a2 fun _ t3 ⟨x, G3, I3, rx, yx, st3, n3⟩ => ?_
    have I3' := I3.pinned (fps I3 n3) (T.obj _ _ st3)
    refine thnF (cg.run _ t3 _ G3 x u _ I3' rx (turn x G3 yx)) fun _ t4 ⟨σ4, G4, I4, w4, a4⟩ => thnF (ct.run _ t4 σ4 G4 _ I4 a4) fun b t5 ⟨G5, I5, a5⟩ => ?_
    have close : ∀ {t' : Shared} {G' : Hp}, L2.Inv (X.blk sB HB scope ce fp) ([] ++ pinsAt fp t3.heap) σ4 G' t' → Nx G' → ∃ m, m < n ∧ ∃ i G, L2.Inv (X.blk sB HB scope ce fp) [] (L2.wipe σ (own.map (·.2))) G t' ∧ tn i t'.heap ∧ (∀ b ∈ fp, G b = none) ∧ W i m G := fun {t' G'} I' nx => by
      obtain ⟨m', lt, w'⟩ := more G' nx
      have held : ∀ b ∈ fp, ∀ o, t3.heap.get? b = some o → t'.heap.get? b = some o ∧ G' b = none := fun b mb o e => by
        have z := I'.pin (b, o) (List.mem_append_right _ (List.mem_append_right _ (mem_pinsAt mb e)))
        exact ⟨z.1, z.2.1⟩
      refine ⟨m', lt, i + 1, G', (I'.unpinned (pins := [])).weak (by rw [← w4, wipe_length]) (fun j v e => ?_), T.keep _ _ _ st3 fun b mb o e => (held b mb o e).1, fun b mb => ?_, w'⟩
      · exact (wipe_some (by rw [← w4] at e; exact e)).1
      · exact (T.obj _ _ st3 b mb).elim fun o z => (held b mb o z.1).2
    cases b with
    | false => exact close I5 (by simpa using a5)
    | true =>
      have a5 := (if_pos rfl).mp a5
      refine thnF (ck.run _ t5 σ4 G5 _ I5 a5) fun _ t6 ⟨y, G6, I6, ry, a6⟩ => thnF (cv.run _ t6 σ4 G6 _ I6 a6) fun _ t7 ⟨z, G7, I7, rz, G8, dp, nx⟩ => ?_
      exact dput_set (X := X.blk sB HB scope ce fp) hu I7 dp ry rz fun t8 I8 => close I8 nx
theorem pe_dcP {o0 : HO} {kx vx tg iter : Expr} {ifs : List Expr} {scope : Scope} {own : List (Str × Nat)} {pos : Pos} {wi : TI} {g : TG} {tt : TT} {tk tv : TE} (ho : ∀ (G : Hp) (h : Heap), sysModules < h.objs.size → ObjOk X.prog X.w G (h.push { cls := .type "dict", data := .dict #[] }) h.objs.size o0) (hu : X.A.units < cLine) (hc : X.calm = true) (nd : X.N.Nodup) (hi : PI X tg iter wi) (ok : BlkOk X.N X.env.scope scope own)
    (hg : ∀ (s : Shared) (H : Hp) (C : Addr) (cl : List (Str × Addr)) (fp : List Addr), PG (X.blk s H scope (compEnvC scope cl C X.env) fp) tg g) (ht : ∀ (s : Shared) (H : Hp) (C : Addr) (cl : List (Str × Addr)) (fp : List Addr), PTs (X.blk s H scope (compEnvC scope cl C X.env) fp) ifs tt) (hk : ∀ (s : Shared) (H : Hp) (C : Addr) (cl : List (Str × Addr)) (fp : List Addr), PE (X.blk s H scope (compEnvC scope cl C X.env) fp) kx tk) (he : ∀ (s : Shared) (H : Hp) (C : Addr) (cl : List (Str × Addr)) (fp : List Addr), PE (X.blk s H scope (compEnvC scope cl C X.env) fp) vx tv) (hs : ∀ x, foldedSetIterable iter X.env x = pure x := by intro _; rfl) : PE X (.DictComp kx vx [⟨tg, iter, ifs, 0⟩] scope pos) (tDcP o0 wi g tt tk tv (own.map (·.2))) := by
  constructor
  intro pins s0 σ H Q Iv hyp
  rw [arm_eval_DictComp]
  refine dcP_core ho hu hc nd hi ok hg ht hk he hs Iv hyp fun D C t2 nm G I3 fin hns f => ⟨nm, hns, fun h2 sb => ?_⟩
  obtain ⟨f0, f1, f2, f3, f4, f5⟩ := f
  exact ⟨.ref D, G, I3.turned (t' := t2.toks) (fun b o nb z => (sb.2 b nb).trans z) f0 f1 f3 f4 f5, rfl, fin⟩
end
end TD

set_option maxHeartbeats 4000000
namespace TD
open PySem PySem.Spec PyProof.Rows L2
open Evl (Ex)
def ddD : Bool → List (PyData × PyData) → PyData
  | true, kvs => tD kvs
  | false, kvs => .dict kvs
def putKV (T : Bool) (kvs : List (PyData × PyData)) (k d : PyData) : Option (List (PyData × PyData)) := match T with
  | false => match isKeyD k, decide (kvs.length ≤ 90000) with
    | some q, true => some (putBy isKeyD keyD kvs q d)
    | _, _ => none
  | true => match isKeysD k, decide (kvs.length ≤ 90000) with
    | some q, true => some (putBy isKeysD encT kvs q d)
    | _, _ => none
def dcItems (T : Bool) (vs : List Nat) (g : PyData → En → Option En) (ft : En → TR) (fk fv : En → ER) : List PyData → List (PyData × PyData) → En → Option (List (PyData × PyData) × En)
  | [], kvs, ρ => some (kvs, ρ)
  | d :: ds, kvs, ρ => match g d ρ with
    | none => none
    | some ρ1 => match ft ρ1 with
      | .b false ρ2 => dcItems T vs g ft fk fv ds kvs (wipeD ρ2 vs)
      | .b true ρ2 => match fk ρ2 with
        | .v k ρ3 => match fv ρ3 with
          | .v x ρ4 => match putKV T kvs k x with
            | some kvs' => dcItems T vs g ft fk fv ds kvs' (wipeD ρ4 vs)
            | none => none
          | _ => none
        | _ => none
      | _ => none
def eDc (T : Bool) (fi : En → IRz) (vs : List Nat) (g : PyData → En → Option En) (ft : En → TR) (fk fv : En → ER) (ρ : En) : ER := match fi ρ with
  | .vs ds ρ1 => match dcItems T vs g ft fk fv ds [] (wipeD ρ1 vs) with
    | some (kvs, ρ2) => .o (ddD T kvs) ρ2
    | none => .st
  | .x c i => .x c i
  | .st => .st
theorem put_at {K : Fg} {T : Bool} {B H : Hp} {D : Addr} {y v : V} {kvs kvs' : List (PyData × PyData)} {k d : PyData} (sx : Ex B H) (n : B D = none) (o : Own K B H D (at1 D) (ddD T kvs)) (hy : Da K B y k) (hv : Da K B v d) (h : putKV T kvs k d = some kvs') : ∃ u, DPut H D y v (upd H D u) ∧ Own K B (upd H D u) D (at1 D) (ddD T kvs') := by
  have sd : SDo K (fun _ => true) [some (.ref D)] B H [some (ddD T kvs)] (fun i a => i = 0 ∧ a = D) := by
    refine ⟨rfl, (fun _ _ w => nomatch w), fun i e _ h2 => ?_, fun i a z => ?_, fun i j a z w => z.1.trans w.1.symm⟩
    · cases i with
      | zero =>
        cases h2
        exact ⟨D, rfl, o.mono fun a z => ⟨rfl, z⟩⟩
      | succ i => exact nomatch h2
    · obtain ⟨_, rfl⟩ := z
      exact ⟨n, o.some⟩
  have hp : putO 0 [some (ddD T kvs)] k d = some (ddD T kvs') := by
    cases T with
    | false =>
      show (match isKeyD k, decide (kvs.length ≤ 90000) with | some q, true => some (PyData.dict (putBy isKeyD keyD kvs q d)) | _, _ => none) = some (.dict kvs')
      unfold putKV at h
      dsimp only at h
      split at h
      · next q hq hz =>
        cases h
        rfl
      · exact nomatch h
    | true =>
      show (match isKeysD k, decide (kvs.length ≤ 90000) with | some q, true => some (tD (putBy isKeysD encT kvs q d)) | _, _ => none) = some (tD kvs')
      unfold putKV at h
      dsimp only at h
      split at h
      · next q hq hz =>
        cases h
        rfl
      · exact nomatch h
  obtain ⟨p, u, e, e1, e2, e3, e4⟩ := put_own sx sd rfl hy hv hp
  cases e2
  exact ⟨u, e3, e4.mono fun a z => z.2⟩
section
variable {K : Fg} {cl : Nat → Addr} {E E' : XK} {m : Nat} {O : Nat → Bool} {tk tv : TE} {fk fv : En → ER} {tt : TT} {ft : En → TR} {tg : TG} {gz : PyData → En → Option En} {ρ : En} {T : Bool} {W : OW}
theorem dc_cons {vs : List Nat} {d : PyData} {ds : List PyData} {kvs : List (PyData × PyData)} {out : List (PyData × PyData) × En} (h : dcItems T vs gz ft fk fv (d :: ds) kvs ρ = some out) : ∃ ρ1, gz d ρ = some ρ1 ∧ ((∃ ρ2, ft ρ1 = .b false ρ2 ∧ dcItems T vs gz ft fk fv ds kvs (wipeD ρ2 vs) = some out) ∨ ∃ ρ2 k ρ3 x ρ4 kvs', ft ρ1 = .b true ρ2 ∧ fk ρ2 = .v k ρ3 ∧ fv ρ3 = .v x ρ4 ∧ putKV T kvs k x = some kvs' ∧ dcItems T vs gz ft fk fv ds kvs' (wipeD ρ4 vs) = some out) := by
  unfold dcItems at h
  split at h
  · exact nomatch h
  · next ρ1 e1 =>
    refine ⟨ρ1, e1, ?_⟩
    split at h
    · next ρ2 e2 => exact .inl ⟨ρ2, e2, h⟩
    · next ρ2 e2 =>
      split at h
      · next k ρ3 e3 =>
        split at h
        · next x ρ4 e4 =>
          split at h
          · next kvs' e5 => exact .inr ⟨ρ2, k, ρ3, x, ρ4, kvs', e2, e3, e4, e5, h⟩
          · exact nomatch h
        · exact nomatch h
      · exact nomatch h
    · exact nomatch h
def LDy (K : Fg) (O : Nat → Bool) (T : Bool) (σ : L2.St) (B H : Hp) (W : OW) (D : Addr) (vs : List Nat) (gz : PyData → En → Option En) (ft : En → TR) (fk fv : En → ER) (ds : List PyData) (res : List (PyData × PyData)) (ρe : En) (i : Nat) (H' : Hp) : Prop :=
  ∃ B' ρ' W' kvs, Go W B H W' B' H' ∧ SDo K O (L2.wipe σ vs) B' H' ρ' W' ∧ ¬ WA W' D ∧ B' D = none ∧ Own K B' H' D (at1 D) (ddD T kvs) ∧ dcItems T vs gz ft fk fv (ds.drop i) kvs ρ' = some (res, ρe) ∧ wipeD ρ' vs = ρ'
theorem Go.keepO {K : Fg} {W W1 : OW} {B H B1 H1 : Hp} (l : Go W B H W1 B1 H1) {D : Addr} {d : PyData} (h : Own K B H D (at1 D) d) (n : ¬ WA W D) (b : B D = none) : Own K B1 H1 D (at1 D) d ∧ ¬ WA W1 D ∧ B1 D = none :=
  ⟨h.up l.toLeO fun a z => by rw [show a = D from z]; exact n, fun z => (l.own D z).elim n h.some, l.old D b h.some n⟩
theorem ldy_turn {vs : List Nat} (hg : ZGw K O vs tg gz) (ht : YT K cl E' 0 O tt ft) (hk : YE K cl E' 0 O tk fk) (he : YE K cl E' 0 O tv fv) {σ : L2.St} {B H H' : Hp} {D : Addr} {ds : List PyData} {res : List (PyData × PyData)} {ρe : En} {i : Nat} (hD : H D = none) (w : LDy K O T σ B H W D vs gz ft fk fv ds res ρe i H') {d : PyData} (hi : ds[i]? = some d) {v : V} {H'' : Hp} (hd : ∀ B', Ex B B' → Ex B' H' → ∃ B'', Le B' H' B'' H'' ∧ Da K B'' v d) :
    tg v (L2.wipe σ vs) H'' fun σ2 H2 => L2.wipe σ2 vs = L2.wipe σ vs ∧ tt σ2 H2 fun b H3 =>
      if b = true then tk σ2 H3 fun y H4 => tv σ2 H4 fun z H5 => ∃ H6, DPut H5 D y z H6 ∧ LDy K O T σ B H W D vs gz ft fk fv ds res ρe (i + 1) H6 else LDy K O T σ B H W D vs gz ft fk fv ds res ρe (i + 1) H3 := by
  obtain ⟨B', ρ', W', kvs, l, s, o, nD, oD, hr, hwp⟩ := w
  rw [drop_cons hi] at hr
  obtain ⟨ρ1, e1, hr⟩ := dc_cons hr
  obtain ⟨B1, l1, d1⟩ := hd B' l.ek l.sub
  have s1 := s.le l1
  obtain ⟨oD1, o1', nD1⟩ := (l1.o (W := W')).keepO oD o nD
  refine hg d ρ' ρ1 e1 (L2.wipe σ vs) v B1 H'' W' l1.sub s1 d1 _ fun σ2 s2 k2 => ⟨k2.trans (wipe_none vs), ?_⟩
  have kk : L2.wipe σ2 vs = L2.wipe σ vs := k2.trans (wipe_none vs)
  have lA : Go W B H W' B1 H'' := l.tr l1.o
  have at1' := ht ρ1
  have back : L2.wipe (L2.wipe σ vs) vs = L2.wipe σ2 vs := by rw [wipe_none, kk]
  rcases hr with ⟨ρ2, q1, hr⟩ | ⟨ρ2, k, ρ3, x, ρ4, kvs', q1, q2, q3, q4, hr⟩
  · rw [q1] at at1'
    refine at1'.2 σ2 B1 H'' W' l1.sub s2 _ fun B3 H3 W3 l3 s3 => ?_
    obtain ⟨oD3, o3, n3⟩ := l3.keepO oD1 o1' nD1
    exact ⟨B3, wipeD ρ2 vs, W3, kvs, lA.tr l3, s3.wiped back, o3, n3, oD3, hr, wipeD_two⟩
  · have bk := hk ρ2
    have bv := he ρ3
    rw [q1] at at1'
    rw [q2] at bk
    rw [q3] at bv
    refine at1'.2 σ2 B1 H'' W' l1.sub s2 _ fun B3 H3 W3 l3 s3 => ?_
    show tk σ2 H3 _
    obtain ⟨oD3, o3, n3⟩ := l3.keepO oD1 o1' nD1
    refine bk.2 σ2 B3 H3 W3 l3.sub s3 _ fun y B4 H4 W4 l4 s4 d4 => ?_
    obtain ⟨oD4, o4, n4⟩ := l4.keepO oD3 o3 n3
    refine bv.2 σ2 B4 H4 W4 l4.sub s4 _ fun z B5 H5 W5 l5 s5 d5 => ?_
    obtain ⟨oD5, o5, n5⟩ := l5.keepO oD4 o4 n4
    have l15 : Go W B H W5 B5 H5 := ((lA.tr l3).tr l4).tr l5
    obtain ⟨u, dp, oD6⟩ := put_at l5.sub n5 oD5 (d4.ex l5.ek) d5 q4
    have lD : Go W B H W5 B5 (upd H5 D u) := by
      refine ⟨⟨fun b x hb nb => ?_, fun b hb => ?_, l15.ek, fun b x hb => ?_, l15.old⟩, l15.own⟩
      · rw [upd_ne (fun z => by rw [z, hD] at hb; cases hb)]
        exact l15.ex b x hb nb
      · by_cases z : b = D
        · rw [z, upd_same]
          exact fun z => nomatch z
        · rw [upd_ne z]
          exact l15.dom b hb
      · rw [upd_ne (ne_of_none hb n5)]
        exact l15.sub b x hb
    have sD : SDo K O σ2 B5 (upd H5 D u) ρ4 W5 := s5.up (X := fun p => p = D) ⟨fun b x hb nb => by rw [upd_ne nb]; exact hb, fun b hb => by
        by_cases z : b = D
        · rw [z, upd_same]
          exact fun z => nomatch z
        · rw [upd_ne z]
          exact hb, Ex.refl B5, fun b x hb => by rw [upd_ne (ne_of_none hb n5)]; exact l5.sub b x hb, fun b h1 _ _ => h1⟩ fun p z => by
        rw [z]
        exact o5
    exact ⟨_, dp, B5, wipeD ρ4 vs, W5, kvs', lD, sD.wiped back, o5, n5, oD6, hr, wipeD_two⟩
def oD0 : Bool → HO
  | true => .dT []
  | false => .dK []
theorem own_o0 {B H : Hp} {D : Addr} : Own K B (upd H D (oD0 T)) D (at1 D) (ddD T []) := by
  cases T with
  | true => exact ⟨rfl, [], [], upd_same, .nil, rfl⟩
  | false => exact ⟨rfl, [], [], upd_same, .nil, rfl⟩
theorem o0_ok {P : Program} {w : World} (G : Hp) (h : Heap) (hb : sysModules < h.objs.size) : ObjOk P w G (h.push { cls := .type "dict", data := .dict #[] }) h.objs.size (oD0 T) := by
  cases T with
  | true => exact dt_empty h hb
  | false => exact dk_empty h hb
theorem ye_dc {ti : TI} {fi : En → IRz} {vs : List Nat} (hi : YI K cl E m O ti fi) (hg : ZGw K O vs tg gz) (ht : YT K cl E' 0 O tt ft) (hk : YE K cl E' 0 O tk fk) (he : YE K cl E' 0 O tv fv) (hb : Blk O vs = true := by rfl) : YE K cl E m O (tDcP (oD0 T) ti tg tt tk tv vs) (eDc T fi vs gz ft fk fv) := fun ρ => by
  have a := hi ρ
  unfold eDc
  cases h : fi ρ with
  | st => trivial
  | x c i =>
    rw [h] at a
    exact ⟨a.1, fun σ B H W s sd v hv w Q => a.2 σ B H W s sd v hv w _⟩
  | vs ds ρ1 =>
    rw [h] at a
    show EOy K cl E m O _ ρ (match dcItems T vs gz ft fk fv ds [] (wipeD ρ1 vs) with | some (kvs, ρ2) => .o (ddD T kvs) ρ2 | none => .st)
    cases h3 : dcItems T vs gz ft fk fv ds [] (wipeD ρ1 vs) with
    | none => trivial
    | some out =>
      obtain ⟨res, ρe⟩ := out
      refine ⟨trivial, fun σ B H W s sd Q q => a.2 σ B H W s sd _ fun J B1 H1 W1 l1 s1 hw D hD => ?_⟩
      have hoD : ¬ WA W1 D := fun ⟨i, z⟩ => (s1.bh i D z).2 hD
      refine ⟨fun i n H' => n = ds.length - i ∧ LDy K O T σ B1 H1 W1 D vs gz ft fk fv ds res ρe i H', ⟨ds.length, rfl, B1, wipeD ρ1 vs, W1, [], ⟨⟨fun b x hb _ => Ex.new hD b x hb, fun b hb => ?_, Ex.refl B1, l1.sub.trans (Ex.new hD), fun _ h _ _ => h⟩, fun _ z => .inl z⟩, ?_, hoD, Evl.fresh_back l1.sub hD, own_o0, by rw [List.drop_zero]; exact h3, wipeD_two⟩, ?_⟩
      · by_cases z : b = D
        · rw [z, upd_same]
          exact fun z => nomatch z
        · rw [upd_ne z]
          exact hb
      · exact (s1.le ⟨Ex.new hD, Ex.refl B1, l1.sub.trans (Ex.new hD), fun _ h _ => h⟩).wiped (wipe_none vs)
      rintro i n H' ⟨rfl, w⟩
      obtain ⟨B', ρ', W', kvs, l, s', o, nD, oD, hr, hwp⟩ := id w
      obtain ⟨w1, w2⟩ := hw i B' H' l.ek l.sub
      cases hd : ds[i]? with
      | none =>
        refine .inl ⟨w1 hd, ?_⟩
        rw [drop_all (List.getElem?_eq_none_iff.mp hd)] at hr
        have hr : (kvs, ρ') = (res, ρe) := Option.some.inj hr
        cases hr
        refine q D (at1 D) B' H' W' (l1.tr l) ?_ oD fun b hb => ?_
        · have w9 := s'.wiped (σ' := σ) (vs := vs) (wipe_none vs).symm
          rwa [hwp] at w9
        · have e : b = D := hb
          subst e
          exact ⟨nD, oD.some, o, .inr (l1.toLeO.back hD)⟩
      | some d =>
        obtain ⟨w3, w4⟩ := w2 d hd
        have il : i < ds.length := (List.getElem?_eq_some_iff.mp hd).1
        refine .inr ⟨w3, LDy K O T σ B1 H1 W1 D vs gz ft fk fv ds res ρe (i + 1), fun H2 z => ⟨ds.length - (i + 1), by omega, rfl, z⟩, fun x H2 hy => ?_⟩
        exact ldy_turn hg ht hk he hD w hd fun B2 k2 s2 => by
          obtain ⟨_, w5⟩ := (hw i B2 H' k2 s2).2 d hd
          exact w5 x H2 hy
end
end TD

set_option maxHeartbeats 4000000
namespace TD
open PySem PySem.Spec PyProof.Rows L2
open Evl (Ex)
section
variable {K : Fg}
end
section
variable {K : Fg} {cl : Nat → Addr} {E : XK} {m : Nat} {O : Nat → Bool} {ta tb te : TE} {fa fb fe : En → ER} {al ak : TA} {fl fk : En → AR} {ks : List AK} {ρ : En}
theorem FrA.go {W W1 W2 : OW} {H B1 H1 B2 H2 : Hp} {A : Addr → Prop} (n : FrA W H W1 B1 H1 A) (l : Go W1 B1 H1 W2 B2 H2) : FrA W H W2 B2 H2 A := fun a z =>
  let ⟨n1, n2, n3, n4⟩ := n a z
  ⟨l.old a n1 n2 n3, l.dom a n2, fun w => (l.own a w).elim n3 n2, n4⟩
end
end TD

set_option maxHeartbeats 4000000
namespace TD
open PySem PySem.Spec PyProof.Rows L2
open Evl (Ex)
section
variable {K : Fg} {cl : Nat → Addr} {E Ew : XK} {m : Nat} {O : Nat → Bool} {ta te : TE} {fa fe : En → ER} {al : TA} {fl : En → AR} {ks : List AK} {ρ : En} {W : OW}
def ownsOk (O : Nat → Bool) (ks : List AK) : Bool := ks.all fun k => match k with
  | .o i => O i
  | _ => true
theorem ownsOk.all {O : Nat → Bool} {ks : List AK} (h : ownsOk O ks = true) (i : Nat) (z : AK.o i ∈ ks) : O i = true := List.all_eq_true.mp h _ z
end
end TD

set_option maxHeartbeats 4000000
namespace TD
open PySem PySem.Spec PyProof.Rows L2
open Evl (Ex)
open PySem.W (AllAlike Sortable dataLe alike)
section
variable {K : Fg} {cl : Nat → Addr} {E : XK} {m : Nat} {O : Nat → Bool} {ρ : En}
end
end TD

set_option maxHeartbeats 4000000
namespace TD
open PySem PySem.Spec PyProof.Rows L2
open Evl (Ex)
section
variable {K : Fg} {cl : Nat → Addr} {E : XK} {m : Nat} {O : Nat → Bool} {tk : TE} {fk : En → ER} {ρ ρ1 : En}
end
section
variable {K : Fg} {cl : Nat → Addr} {E : XK} {m : Nat} {O : Nat → Bool} {ta tb : TE} {fa fb : En → ER} {ρ : En}
end
end TD

set_option maxHeartbeats 4000000
namespace TD
open PySem PySem.Spec PyProof.Rows L2
open Evl (Ex)
section
variable {K : Fg} {cl : Nat → Addr} {E : XK} {m : Nat} {O : Nat → Bool} {ta tb : TE} {fa fb : En → ER} {ρ : En}
end
end TD

set_option maxHeartbeats 4000000
namespace TD
open PySem PySem.Spec PyProof.Rows L2
open Evl (Ex)
section
variable {K : Fg} {cl : Nat → Addr} {E Ew : XK} {m : Nat} {O : Nat → Bool} {al : TA} {fl : En → AR} {ks : List AK} {ρ ρ1 : En}
end
end TD

set_option maxHeartbeats 4000000
namespace TD
open PySem PySem.Spec PyProof.Rows L2
open Evl (Ex)
def gIsB (neg : Bool) (x y : PyData) : Option PyData := match x, y with
  | .bool a, .bool b => some (.bool (neg != decide (a = b)))
  | _, _ => none
section
variable {K : Fg}
theorem o_isB : Op2 K (fun x y H Q => ∃ a b, x = .bl a ∧ y = .bl b ∧ Q (.bl (decide (a = b))) H) (gIsB false) := fun x y z h => by
  intro v w B H s h1 h2 Q q
  unfold gIsB at h
  split at h
  · cases h
    cases h1
    cases h2
    exact ⟨_, _, rfl, rfl, by simpa using q _ B H (Le.rfl' s) (.bl _)⟩
  · exact nomatch h
end
end TD

set_option maxHeartbeats 4000000
namespace TD
open PySem PySem.Spec PyProof.Rows L2
open Evl (Ex)
def plain : PyData → Option PyData
  | .list ds => some (.list ds)
  | .dict kvs => some (.dict kvs)
  | .tuple [.list ls] => some (.list ls)
  | _ => none
section
variable {K : Fg} {cl : Nat → Addr} {E E' : XK} {m : Nat} {O : Nat → Bool} {ta tb tc te tk : TE} {fa fb fc fe fk : En → ER} {tt tu : TT} {ft fu : En → TR} {al : TA} {fl : En → AR} {ks : List AK} {ρ ρ' ρ1 : En} {t u : TS} {f g : En → SR} {tg : TG} {gz : PyData → En → Option En} {W W1 : OW} {os : List Nat}
def YP (K : Fg) (O : Nat → Bool) (te : TE) (g : En → Option PyData) : Prop := ∀ ρ d, g ρ = some d → ∀ σ B H W, Ex B H → SDo K O σ B H ρ W → ∀ Q : VK, (∀ v B' H', Le B H B' H' → Da K B' v d → Q v H') → te σ H Q
theorem Rows.len {B H : Hp} {A : Addr → Prop} : ∀ {qs : List Addr} {rs : List (List PyData)}, Rows K B H A qs rs → qs.length = rs.length
  | [], [], _ => rfl
  | q :: qs, r :: rs, ⟨_, t⟩ => by rw [List.length_cons, List.length_cons, Rows.len t]
theorem Rows.get {B H : Hp} {A : Addr → Prop} : ∀ {qs : List Addr} {rs : List (List PyData)} {n : Nat} {r : List PyData}, Rows K B H A qs rs → rs[n]? = some r → ∃ q vs, qs[n]? = some q ∧ A q ∧ H q = some (.lst vs) ∧ Das K B vs r
  | q :: qs, r :: rs, 0, r', ⟨⟨h1, _, vs, h2, h3⟩, _⟩, e => by
    cases e
    exact ⟨q, vs, rfl, h1, h2, h3⟩
  | q :: qs, r :: rs, n + 1, r', ⟨_, t⟩, e => Rows.get (qs := qs) (rs := rs) (n := n) t e
  | [], [], n, r', _, e => nomatch e
theorem Rows.nd {B H : Hp} {A : Addr → Prop} : ∀ {qs : List Addr} {rs : List (List PyData)}, Rows K B H A qs rs → qs.Nodup
  | [], [], _ => List.nodup_nil
  | q :: qs, r :: rs, ⟨⟨_, h, _⟩, t⟩ => List.nodup_cons.mpr ⟨h, Rows.nd t⟩
theorem Rows.app {B H : Hp} {A : Addr → Prop} {q : Addr} {r : List PyData} {vs : List V} (hA : A q) (h : H q = some (.lst vs)) (d : Das K B vs r) : ∀ {qs : List Addr} {rs : List (List PyData)}, q ∉ qs → Rows K B H A qs rs → Rows K B H A (qs ++ [q]) (rs ++ [r])
  | [], [], _, _ => ⟨⟨hA, (fun z => nomatch z), vs, h, d⟩, trivial⟩
  | p :: qs, s :: rs, n, ⟨⟨h1, h2, us, h3, h4⟩, t⟩ => ⟨⟨h1, fun z => by
      rcases List.mem_append.mp z with z | z
      · exact h2 z
      · exact n (by rw [List.mem_singleton.mp z]; exact List.mem_cons_self), us, h3, h4⟩, Rows.app hA h d (fun z => n (List.mem_cons_of_mem _ z)) t⟩
theorem Rows.off {B H : Hp} {A : Addr → Prop} {p : Addr} {o : HO} : ∀ {qs : List Addr} {rs : List (List PyData)}, p ∉ qs → Rows K B H A qs rs → Rows K B (upd H p o) A qs rs
  | [], [], _, _ => trivial
  | q :: qs, r :: rs, n, ⟨⟨h1, h2, vs, h3, h4⟩, t⟩ => ⟨⟨h1, h2, vs, by rw [upd_ne (fun z => n (by rw [← z]; exact List.mem_cons_self))]; exact h3, h4⟩, Rows.off (fun z => n (List.mem_cons_of_mem _ z)) t⟩
theorem Rows.set {B H : Hp} {A : Addr → Prop} {q : Addr} {vs : List V} {r : List PyData} (hv : Das K B vs r) : ∀ {qs : List Addr} {rs : List (List PyData)} {n : Nat}, Rows K B H A qs rs → qs[n]? = some q → Rows K B (upd H q (.lst vs)) A qs (rs.set n r)
  | p :: qs, s :: rs, 0, ⟨⟨h1, h2, us, h3, h4⟩, t⟩, e => by
    cases e
    exact ⟨⟨h1, h2, vs, upd_same, hv⟩, t.off h2⟩
  | p :: qs, s :: rs, n + 1, ⟨⟨h1, h2, us, h3, h4⟩, t⟩, e => by
    have e' : qs[n]? = some q := e
    exact ⟨⟨h1, h2, us, by rw [upd_ne (fun z => h2 (by rw [z]; exact List.mem_of_getElem? e'))]; exact h3, h4⟩, Rows.set hv t e'⟩
  | [], [], n, _, e => nomatch e
end
end TD

set_option maxHeartbeats 4000000
namespace TD
open PySem PySem.Spec PyProof.Rows L2
open Evl (Ex)
section
variable {K : Fg} {cl : Nat → Addr} {E E' : XK} {m : Nat} {O : Nat → Bool} {ta tb tc te tk : TE} {fa fb fc fe fk : En → ER} {tt tu : TT} {ft fu : En → TR} {al : TA} {fl : En → AR} {ks : List AK} {ρ ρ' ρ1 : En} {t u : TS} {f g : En → SR} {tg : TG} {gz : PyData → En → Option En} {W W1 : OW} {os : List Nat}
theorem Rows.at_ {B H : Hp} {A A2 : Addr → Prop} : ∀ {qs : List Addr} {rs : List (List PyData)}, (∀ q ∈ qs, A2 q) → Rows K B H A qs rs → Rows K B H A2 qs rs
  | [], [], _, _ => trivial
  | q :: qs, r :: rs, h, ⟨⟨h1, h2, vs, h3, h4⟩, t⟩ => ⟨⟨h q List.mem_cons_self, h2, vs, h3, h4⟩, Rows.at_ (fun x m => h x (List.mem_cons_of_mem _ m)) t⟩
end
end TD

set_option maxHeartbeats 4000000
namespace TD
open PySem PySem.Spec PyProof.Rows L2
open Evl (Ex)
section
variable {K : Fg} {cl : Nat → Addr} {E : XK} {m : Nat} {O : Nat → Bool} {te : TE} {ρ ρ' ρ1 : En} {W W1 : OW}
theorem SDo.drop {σ : L2.St} {B H : Hp} (s : SDo K O σ B H ρ W) (j : Nat) (v : V) (hj : O j = false) : SDo K O (σ.set j (some v)) B H (ρ.set j none) W := by
  have ne : ∀ {i : Nat} {e : PyData}, (ρ.set j none)[i]? = some (some e) → i ≠ j ∧ ρ[i]? = some (some e) := fun {i e} h => by
    by_cases z : i = j
    · subst z
      by_cases l : i < ρ.length
      · rw [List.getElem?_set_self l] at h
        cases h
      · rw [List.getElem?_eq_none (by rw [List.length_set]; omega)] at h
        cases h
    · rw [List.getElem?_set_ne (Ne.symm z)] at h
      exact ⟨z, h⟩
  refine ⟨by rw [List.length_set, List.length_set]; exact s.len, fun i e h1 hi => ?_, fun i e h1 hi => ?_, s.bh, s.dis⟩
  · rw [List.getElem?_set_ne (Ne.symm (ne hi).1)]
    exact s.dat i e h1 (ne hi).2
  · rw [List.getElem?_set_ne (Ne.symm (ne hi).1)]
    exact s.own i e h1 (ne hi).2
end
end TD

set_option maxHeartbeats 4000000
namespace TD
open PySem PySem.Spec PyProof.Rows L2
open Evl (Ex)
section
variable {X : Cx} {e st : Expr} {te ts : TE} {p2 pos p : Pos} {x : Str} {k : Nat} {sp : Sp} {E : L2.St → XK}
end
section
variable {K : Fg} {cl : Nat → Addr} {E : XK} {m : Nat} {O : Nat → Bool} {ta ts : TE} {fa fs : En → ER} {ρ : En}
end
end TD

namespace TD
open PySem PySem.Spec PyProof.Rows L2
def topS (i : Nat) : Stmt := PySem.Challenge.pw_timedoors_k32_hands_refused.main.body.getD i (.Pass ⟨0, 0, 0, 0⟩)
end TD

set_option maxHeartbeats 4000000
namespace TD
open PySem PySem.Spec PyProof.Rows L2
open Evl (Ex)
structure Bl (mg : Str → Option Value) : Prop where
  isinstance : mg "isinstance" = none
  int : mg "int" = none
  bool : mg "bool" = none
  list : mg "list" = none
  tuple : mg "tuple" = none
  len : mg "len" = none
  all : mg "all" = none
section
variable {P : Program} {w : World} {K : Fg} {mg : Str → Option Value} {base : Heap}
abbrev s_is_whole : Stmt := topS 8
def R_is_whole : List PyData → PyData → Prop := fun ds d => ∃ x, ds = [x] ∧ d = .bool (isWhole x)
theorem f_is_whole (T : Bl mg) (a : At K mg "is_whole" s_is_whole) : Fc P w K mg base "is_whole" ["value"] 1 (SpR K R_is_whole) := by
  have S : FnScope ["value"] ["value"] (defScope s_is_whole) := ⟨rfl, rfl, rfl, by decide +kernel, rfl, by decide +kernel, by decide +kernel⟩
  refine fc_mk a S (fun _ _ _ _ _ _ us hl => match us, hl with | [_], _ => rfl) (by rintro _ _ ⟨x, rfl, rfl⟩; rfl) fun f cdv A outer s H E gu hr => ⟨_, (pss_one (ps_ret (pe_and (pe_callB call_isi (by rfl) T.isinstance (by decide +kernel) (pa_cons (pv 0) (pa_cons (pe_bltn (v := .ty "int") (by rfl) T.int boot_int rfl) pa_nil))) (pe_one (pe_not (pe_callB call_isi (by rfl) T.isinstance (by decide +kernel) (pa_cons (pv 0) (pa_cons (pe_bltn (v := .ty "bool") (by rfl) T.bool boot_bool rfl) pa_nil)))))))), ?_⟩
  rintro _ _ ⟨x, rfl, rfl⟩
  exact xr_ret (xs_ret (ed_and (ed_isi (ed_var rfl)) fun _ => ed_not (ed_isi (ed_var rfl))))
abbrev s_is_count : Stmt := topS 9
def R_is_count : List PyData → PyData → Prop := fun ds d => ∃ x, ds = [x] ∧ d = .bool (isCount x)
theorem f_is_count (a : At K mg "is_count" s_is_count) (c_is_whole : Fc P w K mg base "is_whole" ["value"] 1 (SpR K R_is_whole)) : Fc P w K mg base "is_count" ["value"] 2 (SpR K R_is_count) := by
  have S : FnScope ["value"] ["value"] (defScope s_is_count) := ⟨rfl, rfl, rfl, by decide +kernel, rfl, by decide +kernel, by decide +kernel⟩
  refine fc_mk a S (fun _ _ _ _ _ _ us hl => match us, hl with | [_], _ => rfl) (by rintro _ _ ⟨x, rfl, rfl⟩; rfl) fun f cdv A outer s H E gu hr => ⟨_, (pss_one (ps_ret (pe_and (pe_f c_is_whole gu (hr.mono (by decide)) (by rfl) (pa_cons (pv 0) pa_nil)) (pe_one (pe_cmpR op_ge (pv 0) pe_int (nomark _)))))), ?_⟩
  rintro _ _ ⟨x, rfl, rfl⟩
  cases hx : isWhole x with
  | false =>
    refine xr_ret (xs_ret (ed_is (ed_and (a := false) (b := false) (ed_call (ea_cons (ed_var rfl) ea_nil) ⟨x, rfl, by rw [hx]⟩) (fun z => nomatch z)) ?_))
    cases x <;> first | rfl | exact nomatch (show true = false from hx)
  | true =>
    obtain ⟨i, rfl⟩ := whole_int hx
    exact xr_ret (xs_ret (ed_and (a := true) (b := decide (0 ≤ i)) (ed_call (ea_cons (ed_var rfl) ea_nil) ⟨_, rfl, by rw [hx]⟩) (fun _ => ed_op (ed_var rfl) ed_int r_Ib)))
abbrev s_is_tuple_of : Stmt := topS 10
def R_is_tuple_of : List PyData → PyData → Prop := fun ds d => ∃ (n : Int) (x : PyData), ds = [.int n, x] ∧ d = .bool (isTup n x)
theorem f_is_tuple_of (T : Bl mg) (a : At K mg "is_tuple_of" s_is_tuple_of) : Fc P w K mg base "is_tuple_of" ["many", "value"] 1 (SpR K R_is_tuple_of) := by
  have S : FnScope ["many", "value"] ["many", "value"] (defScope s_is_tuple_of) := ⟨rfl, rfl, rfl, by decide +kernel, rfl, by decide +kernel, by decide +kernel⟩
  refine fc_mk a S (fun _ _ _ _ _ _ us hl => match us, hl with | [_, _], _ => rfl) (by rintro _ _ ⟨n, x, rfl, rfl⟩; rfl) fun f cdv A outer s H E gu hr => ?_
  have hc : (cxOf CX0 P w K mg base ["many", "value"] "is_tuple_of" (defScope s_is_tuple_of) f cdv A outer s H E).nox.calm = true := rfl
  refine ⟨_, (pss_one (ps_ret (pe_and (pe_callB call_isi (by rfl) T.isinstance (by decide +kernel) (pa_cons (pv 1) (pa_cons (pe_bltn (v := .ty "tuple") (by rfl) T.tuple boot_tuple rfl) pa_nil))) (pe_one (pe_cmpR op_eq (pe_callB call_len_seq (by rfl) T.len (by decide +kernel) (pa_cons (pv 1) pa_nil)) (pv 0) (nomark _)))))), ?_⟩
  rintro _ _ ⟨n, x, rfl, rfl⟩
  cases x with
  | tuple ds => exact xr_ret (xs_ret (ed_is (ed_and (ed_isi (ed_var rfl)) fun _ => ed_op (ed_cb (ea_cons (ed_var rfl) ea_nil) rc_lenT) (ed_var rfl) r_eqI) rfl))
  | _ => exact xr_ret (xs_ret (ed_is (ed_and (b := false) (ed_isi (ed_var rfl)) (fun z => nomatch (show false = true from z))) rfl))
abbrev s_fits_room : Stmt := topS 11
def R_fits_room : List PyData → PyData → Prop := fun ds d => ∃ (r : Int) (x : PyData), ds = [.int r, x] ∧ d = .bool (fitsRoom r x)
theorem f_fits_room (a : At K mg "fits_room" s_fits_room) (c_is_count : Fc P w K mg base "is_count" ["value"] 2 (SpR K R_is_count)) : Fc P w K mg base "fits_room" ["rooms", "value"] 3 (SpR K R_fits_room) := by
  have S : FnScope ["rooms", "value"] ["rooms", "value"] (defScope s_fits_room) := ⟨rfl, rfl, rfl, by decide +kernel, rfl, by decide +kernel, by decide +kernel⟩
  refine fc_mk a S (fun _ _ _ _ _ _ us hl => match us, hl with | [_, _], _ => rfl) (by rintro _ _ ⟨n, x, rfl, rfl⟩; rfl) fun f cdv A outer s H E gu hr => ?_
  have hc : (cxOf CX0 P w K mg base ["rooms", "value"] "fits_room" (defScope s_fits_room) f cdv A outer s H E).nox.calm = true := rfl
  refine ⟨_, (pss_one (ps_ret (pe_and (pe_f c_is_count gu (hr.mono (by decide)) (by rfl) (pa_cons (pv 1) pa_nil)) (pe_one (pe_cmpR op_lt (pv 1) (pv 0) (nomark _)))))), ?_⟩
  rintro _ _ ⟨r, x, rfl, rfl⟩
  cases x with
  | int i => exact xr_ret (xs_ret (ed_and (ed_call (ea_cons (ed_var rfl) ea_nil) ⟨_, rfl, rfl⟩) fun _ => ed_op (ed_var rfl) (ed_var rfl) r_Ib))
  | _ => exact xr_ret (xs_ret (ed_is (ed_and (b := false) (ed_call (ea_cons (ed_var rfl) ea_nil) ⟨_, rfl, rfl⟩) (fun z => nomatch (show false = true from z))) rfl))
abbrev s_fits_lights : Stmt := topS 12
def R_fits_lights : List PyData → PyData → Prop := fun ds d => ∃ (r : Int) (x : PyData), ds = [.int r, x] ∧ d = .bool (fitsLights r x)
theorem f_fits_lights (T : Bl mg) (a : At K mg "fits_lights" s_fits_lights) (c_fits_room : Fc P w K mg base "fits_room" ["rooms", "value"] 3 (SpR K R_fits_room)) : Fc P w K mg base "fits_lights" ["rooms", "value"] 4 (SpR K R_fits_lights) := by
  have S : FnScope ["rooms", "value", "ahead", "room"] ["rooms", "value"] (defScope s_fits_lights) := ⟨rfl, rfl, rfl, by decide +kernel, rfl, by decide +kernel, by decide +kernel⟩
  refine fc_mk a S (fun _ _ _ _ _ _ us hl => match us, hl with | [_, _], _ => rfl) (by rintro _ _ ⟨n, x, rfl, rfl⟩; rfl) fun f cdv A outer s H E gu hr => ?_
  have hc : (cxOf CX0 P w K mg base ["rooms", "value", "ahead", "room"] "fits_lights" (defScope s_fits_lights) f cdv A outer s H E).nox.calm = true := rfl
  refine ⟨_, (pss_cons (ps_if (pt_not (pt_val (pe_callB call_isi (by rfl) T.isinstance (by decide +kernel) (pa_cons (pv 1) (pa_cons (pe_bltn (v := .ty "list") (by rfl) T.list boot_list rfl) pa_nil))))) (pss_one (ps_ret pe_bl)) pss_nil)
  (pss_cons (ps_set (i := 2) S.nd rfl (by first | exact Or.inl rfl | exact Or.inr rfl) (pe_un un_neg pe_int))
  (pss_cons (ps_for PassesOwn.never hc (pi_list (pv 1)) (pg_name (i := 3) S.nd rfl (by first | exact Or.inl rfl | exact Or.inr rfl))
    (pss_cons (ps_if (PW.pt (pw_or (pt_not (pt_val (pe_f c_fits_room gu (hr.mono (by decide)) (by rfl) (pa_cons (pv 0) (pa_cons (pv 3) pa_nil))))) (pw_or1 (pt_cmpR op_le (pv 3) (pv 2) (nomark _))))) (pss_one (ps_ret pe_bl)) pss_nil)
  (pss_one (ps_set (i := 2) S.nd rfl (by first | exact Or.inl rfl | exact Or.inr rfl) (pv 3)))))
  (pss_one (ps_ret pe_bl))))), ?_⟩
  rintro _ _ ⟨r, x, rfl, rfl⟩
  cases x with
  | list es =>
    refine xr_ret (xs_seq (xs_if (et_not (et_B (ed_isi (ed_var rfl)))) (fun z => nomatch (show false = true from z)) fun _ => xs_next) (xs_seq (xs_asg ed_neg1) ?_))
    -- the loop: either an item is refused, or all rise
    show XS K _ [some (.int r), some (.list es), some (.int (-1)), none] _
    have key : ∀ (ds : List PyData) (a : Int) (o : Option PyData), (asc r a ds = true → ∃ b o', XF K (gName 3) (tSeq (tIfS (tOr (tNot (tB (tCall (SpR K R_fits_room) [] E0 (tCons (tVar 0) (tCons (tVar 3) tNil))))) (tTest (tOp (rI0 fun i j => .bl (decide (i ≤ j))) (tVar 3) (tVar 2)))) (tRet (tC (.bl false))) tNext) (tAsg (tVar 3) (gName 2))) ds [some (.int r), some (.list es), some (.int a), o] (.nx [some (.int r), some (.list es), some (.int b), o'])) ∧
        (asc r a ds = false → XF K (gName 3) (tSeq (tIfS (tOr (tNot (tB (tCall (SpR K R_fits_room) [] E0 (tCons (tVar 0) (tCons (tVar 3) tNil))))) (tTest (tOp (rI0 fun i j => .bl (decide (i ≤ j))) (tVar 3) (tVar 2)))) (tRet (tC (.bl false))) tNext) (tAsg (tVar 3) (gName 2))) ds [some (.int r), some (.list es), some (.int a), o] (.ret (.bool false))) := by
      intro ds
      induction ds with
      | nil => exact fun a o => ⟨fun _ => ⟨a, o, .nil⟩, fun z => nomatch (show true = false from z)⟩
      | cons x ds ih =>
        intro a o
        cases x with
        | int i =>
          have e : asc r a (.int i :: ds) = ((decide (0 ≤ i) && decide (i < r)) && (decide (a < i) && asc r i ds)) := rfl
          have t1 : ET K (tNot (tB (tCall (SpR K R_fits_room) [] E0 (tCons (tVar 0) (tCons (tVar 3) tNil))))) [some (.int r), some (.list es), some (.int a), some (.int i)] (!(decide (0 ≤ i) && decide (i < r))) :=
            et_not (et_B (ed_call (ea_cons (ed_var rfl) (ea_cons (ed_var rfl) ea_nil)) ⟨_, _, rfl, rfl⟩))
          have t2 : ET K (tTest (tOp (rI0 fun i j => .bl (decide (i ≤ j))) (tVar 3) (tVar 2))) [some (.int r), some (.list es), some (.int a), some (.int i)] (decide (i ≤ a)) := et_test (ed_op (ed_var rfl) (ed_var rfl) r_Ib)
          have t3 := et_or t1 (fun _ => t2)
          cases h1 : (decide (0 ≤ i) && decide (i < r)) with
          | false =>
            rw [h1] at e t3
            refine ⟨(fun z => nomatch (e.symm.trans z)), fun _ => .ret tg_name (xs_leave (xs_if t3 (fun _ => xs_ret ed_bl) (fun z => nomatch (show true = false from z))) trivial)⟩
          | true =>
            rw [h1] at e t3
            by_cases h2 : a < i
            · have e2 : decide (i ≤ a) = false := decide_eq_false (by omega)
              rw [decide_eq_true h2] at e
              rw [e2] at t3
              obtain ⟨k1, k2⟩ := ih i (some (.int i))
              refine ⟨fun z => ?_, fun z => ?_⟩
              · obtain ⟨b, o', f⟩ := k1 (e.symm.trans z)
                exact ⟨b, o', .go tg_name (xs_seq (xs_if t3 (fun z => nomatch (show false = true from z)) (fun _ => xs_next)) (xs_asg (ed_var rfl))) f⟩
              · exact .go tg_name (xs_seq (xs_if t3 (fun z => nomatch (show false = true from z)) (fun _ => xs_next)) (xs_asg (ed_var rfl))) (k2 (e.symm.trans z))
            · have e2 : decide (i ≤ a) = true := decide_eq_true (by omega)
              rw [decide_eq_false h2] at e
              rw [e2] at t3
              refine ⟨(fun z => nomatch (e.symm.trans z)), fun _ => .ret tg_name (xs_leave (xs_if t3 (fun _ => xs_ret ed_bl) (fun z => nomatch (show true = false from z))) trivial)⟩
        | _ =>
          refine ⟨(fun z => nomatch (show false = true from z)), fun _ => .ret tg_name (xs_leave (xs_if (et_or (b := true) (et_not (et_B (ed_call (ea_cons (ed_var rfl) (ea_cons (ed_var rfl) ea_nil)) ⟨_, _, rfl, rfl⟩))) (fun z => nomatch (show true = false from z))) (fun _ => xs_ret ed_bl) (fun z => nomatch (show true = false from z))) trivial)⟩
    obtain ⟨k1, k2⟩ := key es (-1) none
    cases h : asc r (-1) es with
    | true =>
      obtain ⟨b, o', f⟩ := k1 h
      refine xs_seq (xs_forL (ed_var rfl) f) (xs_is (xs_ret ed_bl) ?_)
      show Out.ret (.bool true) = Out.ret (.bool (asc r (-1) es))
      rw [h]
    | false =>
      refine xs_leave (xs_is (xs_forL (ed_var rfl) (k2 h)) ?_) trivial
      show Out.ret (.bool false) = Out.ret (.bool (asc r (-1) es))
      rw [h]
  | _ => exact xr_ret (xs_leave (xs_if (et_not (et_B (ed_isi (ed_var rfl)))) (fun _ => xs_ret ed_bl) (fun z => nomatch (show true = false from z))) trivial)
abbrev s_fits_presses : Stmt := topS 13
def R_fits_presses : List PyData → PyData → Prop := fun ds d => ∃ (r : Int) (x : PyData), ds = [.int r, x] ∧ Sm x ∧ d = .bool (fitsPresses r x)
theorem f_fits_presses (T : Bl mg) (a : At K mg "fits_presses" s_fits_presses) (c_fits_lights : Fc P w K mg base "fits_lights" ["rooms", "value"] 4 (SpR K R_fits_lights)) : Fc P w K mg base "fits_presses" ["rooms", "value"] 5 (SpR K R_fits_presses) := by
  have S : FnScope ["rooms", "value", "lights"] ["rooms", "value"] (defScope s_fits_presses) := ⟨rfl, rfl, rfl, by decide +kernel, rfl, by decide +kernel, by decide +kernel⟩
  refine fc_mk a S (fun _ _ _ _ _ _ us hl => match us, hl with | [_, _], _ => rfl) (by rintro _ _ ⟨r, x, rfl, _⟩; rfl) fun f cdv A outer s H E gu hr => ?_
  have hc : (cxOf CX0 P w K mg base ["rooms", "value", "lights"] "fits_presses" (defScope s_fits_presses) f cdv A outer s H E).nox.calm = true := rfl
  refine ⟨_, (pss_one (ps_ret (pe_and (pe_callB call_isi (by rfl) T.isinstance (by decide +kernel) (pa_cons (pv 1) (pa_cons (pe_bltn (v := .ty "list") (by rfl) T.list boot_list rfl) pa_nil))) (pe_one (pe_callB (cr_all hc) (by rfl) T.all (by decide +kernel) (pa_cons (pe_lc (own := [("lights", 2)]) hc S.nd (pi_list (pv 1)) (blkOk_by (N := ["rooms", "value", "lights"]) (sc := defScope s_fits_presses) (by decide +kernel)) (fun _ _ _ _ _ => (pg_name (i := 2) S.nd rfl (by first | exact Or.inl rfl | exact Or.inr rfl))) (fun _ _ _ _ _ => pts_nil) (fun _ _ _ _ _ => (pe_f c_fits_lights gu (hr.mono (by decide)) (by rfl) (pa_cons (pv 0) (pa_cons (pv 2) pa_nil))))) pa_nil)))))), ?_⟩
  rintro _ _ ⟨r, x, rfl, hs, rfl⟩
  cases x with
  | list es => exact xr_ret (xs_ret (ed_is (ed_and (ed_isi (ed_var rfl)) fun _ => ed_allL (fitsLights r) (ed_var rfl) (by decide) (Nat.le_trans (hs es (.inl rfl)) (by decide)) fun d _ => ed_call (ea_cons (ed_var rfl) (ea_cons (ed_var rfl) ea_nil)) ⟨_, _, rfl, rfl⟩) rfl))
  | _ => exact xr_ret (xs_ret (ed_is (ed_and (b := false) (ed_isi (ed_var rfl)) (fun z => nomatch (show false = true from z))) rfl))
structure BN (mg : Str → Option Value) (t0 : Tok) : Prop where
  NEXT : mg "NEXT" = some (.int 1 t0)
def isShiftW (q : Int) : PyData → Bool
  | .int i => decide (-q ≤ i) && decide (i ≤ q)
  | _ => false
def fitsDoorW (q r : Int) : PyData → Bool
  | .tuple [n, m, s] => fitsLights r n && (fitsRoom r m && isShiftW q s)
  | _ => false
theorem fitsDoorW_one (r : Int) (x : PyData) : fitsDoorW 1 r x = fitsDoor r x := by
  cases x with
  | tuple ds => match ds with
    | [n, m, s] =>
      show (fitsLights r n && (fitsRoom r m && isShiftW 1 s)) = (fitsLights r n && (fitsRoom r m && isShift s))
      cases s <;> rfl
    | [] => rfl
    | [_] => rfl
    | [_, _] => rfl
    | _ :: _ :: _ :: _ :: _ => rfl
  | _ => rfl
theorem tup3_of {x : PyData} (h3 : isTup 3 x = true) : ∃ n m q, x = .tuple [n, m, q] := by
  cases x with
  | tuple ds => match ds, h3 with
    | [n, m, q], _ => exact ⟨n, m, q, rfl⟩
    | [], h => exact nomatch (show false = true from h)
    | [_], h => exact nomatch (show false = true from h)
    | [_, _], h => exact nomatch (show false = true from h)
    | _ :: _ :: _ :: _ :: _, h =>
      simp [isTup] at h
      omega
  | _ => exact nomatch (show false = true from h3)
theorem tup2_of {x : PyData} (h2 : isTup 2 x = true) : ∃ n m, x = .tuple [n, m] := by
  cases x with
  | tuple ds => match ds, h2 with
    | [n, m], _ => exact ⟨n, m, rfl⟩
    | [], h => exact nomatch (show false = true from h)
    | [_], h => exact nomatch (show false = true from h)
    | _ :: _ :: _ :: _, h =>
      simp [isTup] at h
      omega
  | _ => exact nomatch (show false = true from h2)
abbrev s_fits_door_within : Stmt := topS 15
def R_fits_door_within : List PyData → PyData → Prop := fun ds d => ∃ (r q : Int) (x : PyData), ds = [.int r, x, .int q] ∧ d = .bool (fitsDoorW q r x)
theorem f_fits_door_within (a : At K mg "fits_door_within" s_fits_door_within) (c_is_tuple_of : Fc P w K mg base "is_tuple_of" ["many", "value"] 1 (SpR K R_is_tuple_of)) (c_fits_lights : Fc P w K mg base "fits_lights" ["rooms", "value"] 4 (SpR K R_fits_lights)) (c_fits_room : Fc P w K mg base "fits_room" ["rooms", "value"] 3 (SpR K R_fits_room)) (c_is_whole : Fc P w K mg base "is_whole" ["value"] 1 (SpR K R_is_whole)) : Fc P w K mg base "fits_door_within" ["rooms", "value", "farthest"] 5 (SpR K R_fits_door_within) := by
  have S : FnScope ["rooms", "value", "farthest", "needs", "room", "shift"] ["rooms", "value", "farthest"] (defScope s_fits_door_within) := ⟨rfl, rfl, rfl, by decide +kernel, rfl, by decide +kernel, by decide +kernel⟩
  refine fc_mk a S (fun _ _ _ _ _ _ us hl => match us, hl with | [_, _, _], _ => rfl) (by rintro _ _ ⟨r, q, x, rfl, _⟩; rfl) fun f cdv A outer s H E gu hr => ?_
  have hc : (cxOf CX0 P w K mg base ["rooms", "value", "farthest", "needs", "room", "shift"] "fits_door_within" (defScope s_fits_door_within) f cdv A outer s H E).nox.calm = true := rfl
  refine ⟨_, (pss_cons (ps_if (pt_not (pt_val (pe_f c_is_tuple_of gu (hr.mono (by decide)) (by rfl) (pa_cons pe_int (pa_cons (pv 1) pa_nil))))) (pss_one (ps_ret pe_bl)) pss_nil)
  (pss_cons (ps_asg (pv 1) (pg_tup hc (pgs_cons (pg_name (i := 3) S.nd rfl (by first | exact Or.inl rfl | exact Or.inr rfl)) (pgs_cons (pg_name (i := 4) S.nd rfl (by first | exact Or.inl rfl | exact Or.inr rfl)) (pgs_cons (pg_name (i := 5) S.nd rfl (by first | exact Or.inl rfl | exact Or.inr rfl)) pgs_nil)))))
  (pss_cons (ps_if (PW.pt (pw_or (pt_not (pt_val (pe_f c_fits_lights gu (hr.mono (by decide)) (by rfl) (pa_cons (pv 0) (pa_cons (pv 3) pa_nil))))) (pw_or1 (pt_not (pt_val (pe_f c_fits_room gu (hr.mono (by decide)) (by rfl) (pa_cons (pv 0) (pa_cons (pv 4) pa_nil)))))))) (pss_one (ps_ret pe_bl)) pss_nil)
  (pss_one (ps_ret (pe_and (pe_f c_is_whole gu (hr.mono (by decide)) (by rfl) (pa_cons (pv 5) pa_nil)) (pe_one (pe_chain op_le op_le (pe_un un_neg (pv 2)) (pv 5) (pv 2) (by with_unfolding_all rfl))))))))), ?_⟩
  rintro _ _ ⟨r, q, x, rfl, rfl⟩
  have no : isTup 3 x = false → fitsDoorW q r x = false := by
    intro h
    cases x with
    | tuple ds => match ds, h with
      | [], _ => rfl
      | [_], _ => rfl
      | [_, _], _ => rfl
      | _ :: _ :: _ :: _ :: _, _ => rfl
      | [_, _, _], h => exact nomatch (show true = false from h)
    | _ => rfl
  cases h3 : isTup 3 x with
  | false => exact xr_ret (xs_leave (xs_if (et_not (a := false) (et_B (ed_call (ea_cons ed_int (ea_cons (ed_var rfl) ea_nil)) ⟨_, _, rfl, by rw [h3]⟩))) (fun _ => xs_is (xs_ret ed_bl) (by rw [no h3])) (fun z => nomatch (show true = false from z))) trivial)
  | true =>
    obtain ⟨n, m, s', rfl⟩ := tup3_of h3
    refine xr_ret (xs_seq (xs_if (et_not (et_B (ed_call (ea_cons ed_int (ea_cons (ed_var rfl) ea_nil)) ⟨_, _, rfl, rfl⟩))) (fun z => nomatch (show false = true from z)) (fun _ => xs_next)) (xs_seq (xs_asgG (ed_var rfl) (tg_tup (tgs_cons tg_name (tgs_cons tg_name (tgs_cons tg_name tgs_nil))))) ?_))
    have t1 : ET K _ [some (.int r), some (.tuple [n, m, s']), some (.int q), some n, some m, some s'] _ := et_or (et_not (et_B (ed_call (K := K) (R := R_fits_lights) (E := E0) (ea_cons (ed_var (i := 0) rfl) (ea_cons (ed_var (i := 3) rfl) ea_nil)) ⟨_, _, rfl, rfl⟩))) fun _ => et_not (et_B (ed_call (K := K) (R := R_fits_room) (E := E0) (ea_cons (ed_var (i := 0) rfl) (ea_cons (ed_var (i := 4) rfl) ea_nil)) ⟨_, _, rfl, rfl⟩))
    have e : fitsDoorW q r (.tuple [n, m, s']) = (fitsLights r n && (fitsRoom r m && isShiftW q s')) := rfl
    cases h1 : fitsLights r n with
    | false =>
      rw [h1] at t1 e
      exact xs_leave (xs_if t1 (fun _ => xs_is (xs_ret ed_bl) (by rw [e]; rfl)) (fun z => nomatch (show true = false from z))) trivial
    | true =>
      cases h2 : fitsRoom r m with
      | false =>
        rw [h1, h2] at t1 e
        exact xs_leave (xs_if t1 (fun _ => xs_is (xs_ret ed_bl) (by rw [e]; rfl)) (fun z => nomatch (show true = false from z))) trivial
      | true =>
        rw [h1, h2] at t1 e
        refine xs_seq (xs_if t1 (fun z => nomatch (show false = true from z)) (fun _ => xs_next)) (xs_ret ?_)
        rw [e]
        cases s' with
        | int i => exact ed_is (ed_and (a := true) (b := decide (-q ≤ i) && decide (i ≤ q)) (ed_call (ea_cons (ed_var (i := 5) rfl) ea_nil) ⟨_, rfl, rfl⟩) fun _ => ed_chain (ed_un (ed_var (i := 2) rfl) r1_neg) (ed_var (i := 5) rfl) r_Ib (fun _ => ed_var (i := 2) rfl) (fun _ => r_Ib)) rfl
        | _ => exact ed_is (ed_and (a := false) (b := false) (ed_call (ea_cons (ed_var (i := 5) rfl) ea_nil) ⟨_, rfl, rfl⟩) (fun z => nomatch z)) rfl
abbrev s_fits_door : Stmt := topS 14
def R_fits_door : List PyData → PyData → Prop := fun ds d => ∃ (r : Int) (x : PyData), ds = [.int r, x] ∧ d = .bool (fitsDoor r x)
theorem f_fits_door {t0 : Tok} (T : BN mg t0) (a : At K mg "fits_door" s_fits_door) (c_fits_door_within : Fc P w K mg base "fits_door_within" ["rooms", "value", "farthest"] 5 (SpR K R_fits_door_within)) : Fc P w K mg base "fits_door" ["rooms", "value"] 6 (SpR K R_fits_door) := by
  have S : FnScope ["rooms", "value"] ["rooms", "value"] (defScope s_fits_door) := ⟨rfl, rfl, rfl, by decide +kernel, rfl, by decide +kernel, by decide +kernel⟩
  refine fc_mk a S (fun _ _ _ _ _ _ us hl => match us, hl with | [_, _], _ => rfl) (by rintro _ _ ⟨r, x, rfl, _⟩; rfl) fun f cdv A outer s H E gu hr => ⟨_, (pss_one (ps_ret (pe_f c_fits_door_within gu (hr.mono (by decide)) (by rfl) (pa_cons (pv 0) (pa_cons (pv 1) (pa_cons (pe_glob (v := .int 1) (by rfl) T.NEXT ⟨_, rfl⟩) pa_nil)))))), ?_⟩
  rintro _ _ ⟨r, x, rfl, rfl⟩
  rw [← fitsDoorW_one]
  exact xr_ret (xs_ret (ed_call (ea_cons (ed_var rfl) (ea_cons (ed_var rfl) (ea_cons ed_int ea_nil))) ⟨_, _, _, rfl, rfl⟩))
def fitsLevelW2 (g : Int → PyData → Bool) : PyData → PyData → Bool
  | .int r, .list ds => decide (1 ≤ r) && ds.all (g r)
  | _, _ => false
def fitsLevelW (g : Int → PyData → Bool) : PyData → Bool
  | .tuple [a, b] => fitsLevelW2 g a b
  | _ => false
theorem fitsLevelW_door (x : PyData) : fitsLevelW fitsDoor x = fitsLevel x := by
  cases x with
  | tuple ds => match ds with
    | [a, b] => cases a <;> cases b <;> rfl
    | [] => rfl
    | [_] => rfl
    | _ :: _ :: _ :: _ => rfl
  | _ => rfl
def R_one (g : Int → PyData → Bool) : List PyData → PyData → Prop := fun ds d => ∃ (r : Int) (x : PyData), ds = [.int r, x] ∧ d = .bool (g r x)
abbrev s_fits_level_with : Stmt := topS 17
def SpW (K : Fg) (one : Addr) (g : Int → PyData → Bool) : Sp := fun vs H Q _ => ∃ B v x, vs = [v, .ref one] ∧ Ex B H ∧ Da K B v x ∧ (∀ r es, x = .tuple [r, .list es] → es.length ≤ 30000) ∧ ∀ u B' H', Le B H B' H' → Da K B' u (.bool (fitsLevelW g x)) → Q u H'
theorem f_fits_level_with (T : Bl mg) (a : At K mg "fits_level_with" s_fits_level_with) (c_is_tuple_of : Fc P w K mg base "is_tuple_of" ["many", "value"] 1 (SpR K R_is_tuple_of)) (c_is_whole : Fc P w K mg base "is_whole" ["value"] 1 (SpR K R_is_whole)) {one : Addr} {g : Int → PyData → Bool} (hone : CPc P w K mg base 6 one (SpR K (R_one g))) : Fc P w K mg base "fits_level_with" ["value", "fits_one"] 7 (SpW K one g) := by
  have S : FnScope ["value", "fits_one", "rooms", "doors", "door"] ["value", "fits_one"] (defScope s_fits_level_with) := ⟨rfl, rfl, rfl, by decide +kernel, rfl, by decide +kernel, by decide +kernel⟩
  refine fcg_mk a S (fun _ _ _ _ _ _ us hl => match us, hl with | [_, _], _ => rfl) (by rintro _ _ _ _ ⟨_, _, _, rfl, _⟩; rfl) fun f cdv A outer s H vs Q E gu hr h => ?_
  have hc : (cxOf CX0 P w K mg base ["value", "fits_one", "rooms", "doors", "door"] "fits_level_with" (defScope s_fits_level_with) f cdv A outer s H E).nox.calm = true := rfl
  obtain ⟨B, v, x, rfl, sx, dv, hz, q⟩ := h
  refine ⟨_, (pss_cons (ps_if (pt_not (pt_val (pe_f c_is_tuple_of gu (hr.mono (by decide)) (by rfl) (pa_cons pe_int (pa_cons (pv 0) pa_nil))))) (pss_one (ps_ret pe_bl)) pss_nil)
  (pss_cons (ps_asg (pv 0) (pg_tup hc (pgs_cons (pg_name (i := 2) S.nd rfl (by first | exact Or.inl rfl | exact Or.inr rfl)) (pgs_cons (pg_name (i := 3) S.nd rfl (by first | exact Or.inl rfl | exact Or.inr rfl)) pgs_nil))))
  (pss_cons (ps_if (PW.pt (pw_or (pt_not (pt_val (pe_f c_is_whole gu (hr.mono (by decide)) (by rfl) (pa_cons (pv 2) pa_nil)))) (pw_or (pt_cmpR op_lt (pv 2) pe_int (nomark _)) (pw_or1 (pt_not (pt_val (pe_callB call_isi (by rfl) T.isinstance (by decide +kernel) (pa_cons (pv 3) (pa_cons (pe_bltn (v := .ty "list") (by rfl) T.list boot_list rfl) pa_nil))))))))) (pss_one (ps_ret pe_bl)) pss_nil)
  (pss_one (ps_ret (pe_callB (cr_all hc) (by rfl) T.all (by decide +kernel) (pa_cons (pe_lc (own := [("door", 4)]) hc S.nd (pi_list (pv 3)) (blkOk_by (N := ["value", "fits_one", "rooms", "doors", "door"]) (sc := defScope s_fits_level_with) (by decide +kernel)) (fun _ _ _ _ _ => (pg_name (i := 4) S.nd rfl (by first | exact Or.inl rfl | exact Or.inr rfl))) (fun _ _ _ _ _ => pts_nil) (fun _ _ _ _ _ => (pe_callNc (k := 6) (CP := CPc P w K mg base 6) (fun _ _ h => h) gu (hr.mono (by decide)) (i := 1) rfl (by first | exact Or.inl rfl | exact Or.inr (Or.inl rfl) | exact Or.inr (Or.inr rfl)) (pa_cons (pv 2) (pa_cons (pv 4) pa_nil))))) pa_nil))))))), ?_⟩
  have sd : SD K B (L2.start ["value", "fits_one", "rooms", "doors", "door"] [v, .ref one]) [some x, none, none, none, none] := by
    refine ⟨rfl, fun i d e => ?_⟩
    match i, e with
    | 0, e =>
      cases e
      exact ⟨v, rfl, dv⟩
    | 1, e => exact nomatch (show (none : Option PyData) = some d from Option.some.inj e)
    | 2, e => exact nomatch (show (none : Option PyData) = some d from Option.some.inj e)
    | 3, e => exact nomatch (show (none : Option PyData) = some d from Option.some.inj e)
    | 4, e => exact nomatch (show (none : Option PyData) = some d from Option.some.inj e)
    | _ + 5, e => exact nomatch e
  let J : L2.St → Prop := fun σ => σ[1]? = some (some (.ref one))
  have js : J (L2.start ["value", "fits_one", "rooms", "doors", "door"] [v, .ref one]) := rfl
  have no : isTup 2 x = false → fitsLevelW g x = false := by
    intro h
    cases x with
    | tuple ds => match ds, h with
      | [], _ => rfl
      | [_], _ => rfl
      | _ :: _ :: _ :: _, _ => rfl
      | [_, _], h => exact nomatch (show true = false from h)
    | _ => rfl
  cases h2 : isTup 2 x with
  | false =>
    refine (xs_leave (o := .ret (.bool (fitsLevelW g x))) (xs_if (et_not (a := false) (et_B (ed_call (ea_cons ed_int (ea_cons (ed_var (i := 0) rfl) ea_nil)) ⟨_, _, rfl, by rw [h2]⟩))) (fun _ => xs_is (xs_ret ed_bl) (by rw [no h2])) (fun z => nomatch (show true = false from z))) trivial) _ B H _ sx sd q
  | true =>
    obtain ⟨n, m, rfl⟩ := tup2_of h2
    refine xss_seq (J := J) (ρ1 := [some (.tuple [n, m]), none, none, none, none]) (ks_skip (et_not (a := true) (et_B (ed_call (K := K) (R := R_is_tuple_of) (E := E0) (ea_cons (ed_int (i := 2)) (ea_cons (ed_var (i := 0) rfl) ea_nil)) ⟨2, .tuple [n, m], rfl, rfl⟩)))) (o := .ret (.bool (fitsLevelW g (.tuple [n, m])))) ?_ _ js B H _ sx sd q
    refine xss_seq (J := J) (ρ1 := [some (.tuple [n, m]), none, some n, some m, none]) (ks_asg2 (ed_var (i := 0) rfl) (fun σ a b h => by
      show ((σ.set 2 (some a)).set 3 (some b))[1]? = _
      rw [List.getElem?_set_ne (by decide), List.getElem?_set_ne (by decide)]
      exact h)) ?_
    cases hn : isWhole n with
    | false =>
      refine xss_of (xs_leave (xs_if (et_or (a := true) (b := true) (et_is (et_not (et_B (ed_call (ea_cons (ed_var (i := 2) rfl) ea_nil) ⟨_, rfl, rfl⟩))) (by rw [hn]; rfl)) (fun z => nomatch z)) (fun _ => xs_is (xs_ret ed_bl) ?_) (fun z => nomatch (show true = false from z))) trivial)
      cases n <;> first | rfl | exact nomatch (show true = false from hn)
    | true =>
      obtain ⟨r, rfl⟩ := whole_int hn
      have t1 : ET K _ [some (.tuple [.int r, m]), none, some (.int r), some m, none] _ := et_or (et_not (et_B (ed_call (K := K) (R := R_is_whole) (E := E0) (ea_cons (ed_var (i := 2) rfl) ea_nil) ⟨_, rfl, rfl⟩))) fun _ => et_or (et_test (ed_op (ed_var (i := 2) rfl) (ed_int (i := 1)) (r_Ib (g := fun i j => decide (i < j))))) fun _ => et_not (et_B (ed_isi (T := "list") (ed_var (i := 3) rfl)))
      by_cases h1 : r < 1
      · refine xss_of (xs_leave (xs_if (et_is t1 (b := true) ?_) (fun _ => xs_is (xs_ret ed_bl) ?_) (fun z => nomatch (show true = false from z))) trivial)
        · rw [decide_eq_true h1]
          rfl
        · show Out.ret (.bool false) = Out.ret (.bool (fitsLevelW g (.tuple [.int r, m])))
          cases m with
          | list es =>
            show Out.ret (.bool false) = Out.ret (.bool (decide (1 ≤ r) && es.all (g r)))
            rw [decide_eq_false (by omega)]
            rfl
          | _ => rfl
      · rw [decide_eq_false h1] at t1
        cases m with
        | list es =>
          refine xss_seq (J := J) (ks_skip t1) (xss_ret ?_)
          have e : fitsLevelW g (.tuple [.int r, .list es]) = es.all (g r) := by
            show (decide (1 ≤ r) && es.all (g r)) = es.all (g r)
            rw [decide_eq_true (by omega)]
            rfl
          rw [e]
          refine eds_allL (J := J) (g r) (ed_var (i := 3) rfl) (by decide) (Nat.le_trans (hz _ es rfl) (by decide)) (fun σ x h => by
            show ((L2.wipe σ [4]).set 4 (some x))[1]? = _
            rw [List.getElem?_set_ne (by decide)]
            show (σ.set 4 none)[1]? = _
            rw [List.getElem?_set_ne (by decide)]
            exact h) fun d _ => eds_callN hone (ea_cons (ed_var (i := 2) rfl) (ea_cons (ed_var (i := 4) rfl) ea_nil)) ⟨_, _, rfl, rfl⟩
        | _ => exact xss_of (xs_leave (xs_if t1 (fun _ => xs_ret ed_bl) (fun z => nomatch (show true = false from z))) trivial)
abbrev s_fits_level : Stmt := topS 16
def R_fits_level : List PyData → PyData → Prop := fun ds d => ∃ x : PyData, ds = [x] ∧ (∀ r es, x = .tuple [r, .list es] → es.length ≤ 30000) ∧ d = .bool (fitsLevel x)
theorem ed_callW {E : XK} {te : TE} {ρ : En} {one : Addr} {g : Int → PyData → Bool} {x : PyData} (h : ED K te ρ x) (hz : ∀ r es, x = .tuple [r, .list es] → es.length ≤ 30000) : ED K (tCall (SpW K one g) [] E (tCons te (tCons (tC (.ref one)) tNil))) ρ (.bool (fitsLevelW g x)) := fun σ B H s sd Q q =>
  h σ B H s sd _ fun v B1 H1 l1 d1 => ⟨B1, v, x, rfl, l1.sub, d1, hz, fun u B2 H2 l2 d2 => q u B2 H2 (l1.tr l2) d2⟩
theorem f_fits_level {a_fits_door : Addr} (m_fits_door : mg "fits_door" = some (.ref a_fits_door)) (a : At K mg "fits_level" s_fits_level) (c_fits_level_with : Fc P w K mg base "fits_level_with" ["value", "fits_one"] 7 (SpW K a_fits_door fitsDoor)) : Fc P w K mg base "fits_level" ["value"] 8 (SpR K R_fits_level) := by
  have S : FnScope ["value"] ["value"] (defScope s_fits_level) := ⟨rfl, rfl, rfl, by decide +kernel, rfl, by decide +kernel, by decide +kernel⟩
  refine fc_mk a S (fun _ _ _ _ _ _ us hl => match us, hl with | [_], _ => rfl) (by rintro _ _ ⟨x, rfl, _⟩; rfl) fun f cdv A outer s H E gu hr => ⟨_, (pss_one (ps_ret (pe_f c_fits_level_with gu (hr.mono (by decide)) (by rfl) (pa_cons (pv 0) (pa_cons (pe_glob (v := .ref a_fits_door) (by rfl) m_fits_door rfl) pa_nil))))), ?_⟩
  rintro _ _ ⟨x, rfl, hz, rfl⟩
  rw [← fitsLevelW_door]
  exact xr_ret (xs_ret (ed_callW (ed_var rfl) hz))
end
end TD

set_option maxHeartbeats 4000000
namespace TD
open PySem PySem.Spec PyProof.Rows L2
open Evl (Ex)
structure Bg (mg : Str → Option Value) : Prop where
  int : mg "int" = none
  len : mg "len" = none
  max : mg "max" = none
  sum : mg "sum" = none
  range : mg "range" = none
section
variable {X : Cx}
end
def rInt1 : List V → Hp → VK → Prop := fun xs H Q => (∃ i, xs = [.int i] ∧ Q (.int i) H) ∨ ∃ k, xs = [.bl k] ∧ Q (.int (if k then 1 else 0)) H
section
variable {P : Program} {w : World} {K : Fg} {mg : Str → Option Value} {base : Heap}
theorem rc_int {i : Int} : RcD K rInt1 [.int i] (.int i) := fun vs B H s h Q q => by
  obtain ⟨v, r, rfl, a, t⟩ := h.inv1
  cases a
  cases t
  exact .inl ⟨i, rfl, q _ B H (Le.rfl' s) (.int _)⟩
def hashV (s i : Int) : Int := ((((s * 1140671 + 27644437 * i * i + 131 * i + 19) % 2147483629) * ((s * 1140671 + 27644437 * i * i + 131 * i + 19) % 2147483629) + 62089 * i + 32416187) % 2147483587) * 48271 % 2147483647
abbrev s__law_hash : Stmt := topS 97
def R__law_hash : List PyData → PyData → Prop := fun ds d => ∃ s i : Int, ds = [.int s, .int i] ∧ (0 ≤ s ∧ s < 2147483647) ∧ (0 ≤ i ∧ i ≤ 1000000000) ∧ d = .int (hashV s i)
theorem f__law_hash (T : Bg mg) (a : At K mg "_law_hash" s__law_hash) : Fc P w K mg base "_law_hash" ["_law_seed", "_law_index"] 1 (SpR K R__law_hash) := by
  have S : FnScope ["_law_seed", "_law_index", "_law_mixed"] ["_law_seed", "_law_index"] (defScope s__law_hash) := ⟨rfl, rfl, rfl, by decide +kernel, rfl, by decide +kernel, by decide +kernel⟩
  refine fc_mk a S (fun _ _ _ _ _ _ us hl => match us, hl with | [_, _], _ => rfl) (by rintro _ _ ⟨s, i, rfl, _⟩; rfl) fun f cdv A outer s H E gu hr => ⟨_, (pss_cons (ps_set (i := 2) S.nd rfl (by first | exact Or.inl rfl | exact Or.inr rfl) (pe_op op_mod (pe_callTy call_int1 (by rfl) T.int (by decide +kernel) (pa_cons (pe_op op_add (pe_op op_add (pe_op op_add (pe_op op_mul (pv 0) pe_int) (pe_op op_mul (pe_op op_mul pe_int (pv 1)) (pv 1))) (pe_op op_mul pe_int (pv 1))) pe_int) pa_nil)) pe_int))
  (pss_cons (ps_set (i := 2) S.nd rfl (by first | exact Or.inl rfl | exact Or.inr rfl) (pe_op op_mod (pe_callTy call_int1 (by rfl) T.int (by decide +kernel) (pa_cons (pe_op op_add (pe_op op_add (pe_op op_mul (pv 2) (pv 2)) (pe_op op_mul pe_int (pv 1))) pe_int) pa_nil)) pe_int))
  (pss_one (ps_ret (pe_op op_mod (pe_callTy call_int1 (by rfl) T.int (by decide +kernel) (pa_cons (pe_op op_mul (pv 2) pe_int) pa_nil)) pe_int))))), ?_⟩
  rintro _ _ ⟨s, i, rfl, hs, hi, rfl⟩
  have m1 : ∀ {x y : Int}, (-(2 ^ 64) < x ∧ x < 2 ^ 64) → CMul x y := fun h => .inl h
  have m2 : ∀ {x y : Int}, (-(2 ^ 64) < y ∧ y < 2 ^ 64) → CMul x y := fun h => .inr h
  have q1 := Int.emod_nonneg (s * 1140671 + 27644437 * i * i + 131 * i + 19) (show (2147483629 : Int) ≠ 0 by decide)
  have q2 := Int.emod_lt_of_pos (s * 1140671 + 27644437 * i * i + 131 * i + 19) (show (0 : Int) < 2147483629 by decide)
  have i64 : -(2 ^ 64) < i ∧ i < 2 ^ 64 := ⟨by omega, by omega⟩
  refine xr_ret (xs_seq (xs_asg (ed_op (ed_cb (ea_cons (ed_op (ed_op (ed_op (ed_op (ed_var rfl) ed_int (r_IC (m2 (by decide)))) (ed_op (ed_op ed_int (ed_var rfl) (r_IC (m1 (by decide)))) (ed_var rfl) (r_IC (m2 i64))) r_Ii) (ed_op ed_int (ed_var rfl) (r_IC (m1 (by decide)))) r_Ii) ed_int r_Ii) ea_nil) rc_int) ed_int (r_IC (show (0 : Int) < _ by decide)))) ?_)
  refine xs_seq (xs_asg (ed_op (ed_cb (ea_cons (ed_op (ed_op (ed_op (ed_var rfl) (ed_var rfl) (r_IC (m1 ⟨by omega, by omega⟩))) (ed_op ed_int (ed_var rfl) (r_IC (m1 (by decide)))) r_Ii) ed_int r_Ii) ea_nil) rc_int) ed_int (r_IC (show (0 : Int) < _ by decide)))) ?_
  exact xs_ret (ed_op (ed_cb (ea_cons (ed_op (ed_var rfl) ed_int (r_IC (m2 (by decide)))) ea_nil) rc_int) ed_int (r_IC (show (0 : Int) < _ by decide)))
theorem bits_le {m : Int} (h : 1 ≤ m ∧ m ≤ 10 ^ 30) : Builtin.Int.intBits m ≤ 100 := intBits_le_iff.mpr (by
  have : m.natAbs ≤ 10 ^ 30 := by omega
  exact Nat.lt_of_le_of_lt this (by decide))
def preRnd : List PyData → Prop := fun ds => ∃ m : Int, ds = [.int m] ∧ 1 ≤ m ∧ m ≤ 10 ^ 30
def R_rnd : List PyData → PyData → Prop := fun ds d => ∃ m i : Int, ds = [.int m] ∧ d = .int i ∧ 0 ≤ i ∧ i < m
abbrev s__law_random : Stmt := topS 98
theorem f__law_random (T : Bg mg) (a : At K mg "_law_random" s__law_random) (c__law_hash : Fc P w K mg base "_law_hash" ["_law_seed", "_law_index"] 1 (SpR K R__law_hash)) : Fc P w K mg base "_law_random" ["_law_generator_here", "_law_bound"] 2 (SpG K 5 preRnd R_rnd) := by
  have S : FnScope ["_law_generator_here", "_law_bound", "_law_drawn", "_law_turn"] ["_law_generator_here", "_law_bound"] (defScope s__law_random) := ⟨rfl, rfl, rfl, by decide +kernel, rfl, by decide +kernel, by decide +kernel⟩
  obtain ⟨f, fd, F, hm⟩ := a
  refine ⟨f, fd, hm, F.kp, F.binds (fun _ _ _ _ _ _ us hl => match us, hl with | [_, _], _ => rfl), fnG F S ?_ ?_⟩
  · rintro vs H Q E ⟨g, ws, B, ds, n, rfl, _, _, _, hd, ⟨m, rfl, _⟩, _⟩
    have e := hd.len
    simp at e ⊢
    exact e
  intro cdv A outer s H vs Q E gu hr ⟨g, ws, B, ds, n, ev, sx, hg, ga, hd, ⟨m, ed, hm1, hm2⟩, q⟩
  subst ev ed
  obtain ⟨v, r, rfl, dv, dr⟩ := hd.inv1
  cases dv
  cases dr
  have hc : (cxOf CX0 P w K mg base ["_law_generator_here", "_law_bound", "_law_drawn", "_law_turn"] "_law_random" (defScope s__law_random) f cdv A outer s H E).nox.calm = true := rfl
  suffices h : ∃ t, PSs (cxOf CX0 P w K mg base ["_law_generator_here", "_law_bound", "_law_drawn", "_law_turn"] "_law_random" (defScope s__law_random) f cdv A outer s H E).nox (defBody s__law_random) t ∧ t { nx := fun _ H' => Q .non H', rt := Q } (L2.start ["_law_generator_here", "_law_bound", "_law_drawn", "_law_turn"] [.ref g, .int m]) H by
    obtain ⟨t, h1, h2⟩ := h
    exact ⟨t, h1.nox, h2⟩
  refine ⟨_, (pss_cons (ps_if (pt_cmpR op_gt (pe_ix ix_list (pv 0) pe_int (fun _ _ => rfl)) pe_int (nomark _)) (pss_cons (ps_set (i := 2) S.nd rfl (by first | exact Or.inl rfl | exact Or.inr rfl) (pe_op op_mod (pe_callTy call_int1 (by rfl) T.int (by decide +kernel) (pa_cons (pe_ix ix_list (pv 0) pe_int (fun _ _ => rfl)) pa_nil)) (pv 1)))
  (pss_cons (ps_asg (pe_op op_fdivW (pe_ix ix_list (pv 0) pe_int (fun _ _ => rfl)) (pv 1)) (pg_sub (pv 0) pe_int set_list))
  (pss_one (ps_ret (pv 2))))) pss_nil)
  (pss_cons (ps_set (i := 2) S.nd rfl (by first | exact Or.inl rfl | exact Or.inr rfl) pe_int)
  (pss_cons (ps_for PassesOwn.never hc (pi_range1 (by rfl) T.range (pa_cons (pe_op op_add pe_int (pe_op op_fdiv (pe_bits (pv 1)) pe_int)) pa_nil)) (pg_name (i := 3) S.nd rfl (by first | exact Or.inl rfl | exact Or.inr rfl))
    (pss_cons (ps_asg (pe_op op_add (pe_ix ix_list (pv 0) pe_int (fun _ _ => rfl)) pe_int) (pg_sub (pv 0) pe_int set_list))
  (pss_one (ps_set (i := 2) S.nd rfl (by first | exact Or.inl rfl | exact Or.inr rfl) (pe_op op_add (pe_op op_mul (pv 2) pe_int) (pe_f c__law_hash gu (hr.mono (by decide)) (by rfl) (pa_cons (pe_ix ix_list (pv 0) pe_int (fun _ _ => rfl)) (pa_cons (pe_ix ix_list (pv 0) pe_int (fun _ _ => rfl)) pa_nil))))))))
  (pss_one (ps_ret (pe_op op_mod (pe_callTy call_int1 (by rfl) T.int (by decide +kernel) (pa_cons (pv 2) pa_nil)) (pv 1))))))), ?_⟩
  obtain ⟨a, b, c, eg, ha, hb, hc0, hcn⟩ := ga
  have ex0 : ∀ (x y z : Int) (H' : Hp), (∀ p o, p ≠ g → H p = some o → H' p = some o) → H' g = some (.lst [.int x, .int y, .int z]) → 0 ≤ x → (0 ≤ y ∧ y < 2147483647) → 0 ≤ z → z + (n : Int) ≤ 1000000000 → ∀ i : Int, 0 ≤ i → i < m → Q (.int i) H' := by
    intro x y z H' k e h1 h2 h3 h4 i h5 h6
    refine q (.int i) (.int i) B H' ⟨k, Ex.refl B, fun p o hp => ?_, fun _ h _ => h⟩ ⟨x, y, z, e, h1, h2, h3, h4⟩ (.int i) ⟨m, i, rfl, rfl, h5, h6⟩
    have np : p ≠ g := fun z => by
      rw [z, hg] at hp
      cases hp
    exact k p o np (sx p o hp)
  have mlog : m.natAbs.log2 < 9000 := by
    have h1 : m.natAbs < 2 ^ 100 := Nat.lt_of_le_of_lt (show m.natAbs ≤ 10 ^ 30 by omega) (by decide)
    exact Nat.lt_of_lt_of_le (PySem.Flt.log2_lt_of (by decide) h1) (by decide)
  -- if generator[0] > 0
  refine ⟨.ref g, rfl, g, _, 0, .int a, rfl, rfl, SqL.of eg, atI_nat (j := 0) rfl, a, 0, rfl, rfl, _, rfl, ite2 (fun h => ?_) (fun h => ?_)⟩
  · have h0 := of_decide_eq_true h
    refine ⟨.ref g, rfl, g, _, 0, .int a, rfl, rfl, SqL.of eg, atI_nat (j := 0) rfl, .inl ⟨a, rfl, .int m, rfl, a, m, rfl, rfl, (show (0 : Int) < m by omega), ?_⟩⟩
    refine ⟨.ref g, rfl, g, _, 0, .int a, rfl, rfl, SqL.of eg, atI_nat (j := 0) rfl, .int m, rfl, a, m, rfl, rfl, ⟨by omega, mlog⟩, .ref g, rfl, g, _, 0, 0, rfl, rfl, eg, rfl, ?_⟩
    refine ⟨.int (a % m), rfl, ?_⟩
    exact ex0 (a / m) b c _ (fun p o np e => by rw [upd_ne np]; exact e) upd_same (Int.ediv_nonneg ha (by omega)) hb hc0 (by omega) _ (Int.emod_nonneg _ (by omega)) (Int.emod_lt_of_pos _ (by omega))
  · -- the hash's turns
    have hbits := bits_le ⟨hm1, hm2⟩
    have hl : (0 : Int) ≤ (Builtin.Int.intBits m : Int) / 30 ∧ (Builtin.Int.intBits m : Int) / 30 ≤ 3 := by omega
    generalize hk : (Builtin.Int.intBits m : Int) / 30 = k at hl
    refine ⟨.int m, rfl, m, rfl, _, 30, rfl, rfl, ⟨by decide, by decide⟩, 1, _, rfl, rfl, _, rfl, ?_, ?_, ?_⟩
    · rw [hk]
      omega
    · rw [hk]
      omega
    rw [hk]
    refine for_range (lo := 0) (n := (1 + k).toNat) (fun i σ' H' => ∃ (dr c' : Int) (o : Option V), σ' = [some (.ref g), some (.int m), some (.int dr), o] ∧ H' g = some (.lst [.int a, .int b, .int c']) ∧ (0 ≤ c' ∧ c' ≤ c + (i : Int)) ∧ ∀ p o, p ≠ g → H p = some o → H' p = some o)
      ⟨0, c, none, rfl, eg, ⟨hc0, by omega⟩, fun p o _ e => e⟩ ?_ ?_
    · rintro i σ' H' hi ⟨dr, c', o, rfl, e, hc', kp⟩
      have e1 : (upd H' g (.lst [.int a, .int b, .int (c' + 1)])) g = some (.lst [.int a, .int b, .int (c' + 1)]) := upd_same
      refine ⟨.ref g, rfl, g, _, 2, .int c', rfl, rfl, SqL.of e, atI_nat (j := 2) rfl, c', 1, rfl, rfl, .ref g, rfl, g, _, 2, 2, rfl, rfl, e, rfl, ?_⟩
      refine ⟨.int dr, rfl, dr, _, rfl, rfl, .inr (by decide), .ref g, rfl, g, _, 1, .int b, rfl, rfl, SqL.of e1, atI_nat (j := 1) rfl, .ref g, rfl, g, _, 2, .int (c' + 1), rfl, rfl, SqL.of e1, atI_nat (j := 2) rfl, ?_⟩
      refine ⟨_, [.int b, .int (c' + 1)], .int (hashV b (c' + 1)), Ex.refl _, .cons (.int _) (.cons (.int _) .nil), ⟨b, c' + 1, rfl, hb, ⟨by omega, by omega⟩, rfl⟩, ?_⟩
      intro v B3 H3 l3 d3
      cases d3
      refine ⟨_, _, rfl, rfl, _, c' + 1, _, rfl, l3.ex g _ e1, ⟨by omega, by omega⟩, fun p o np z => l3.ex p o ?_⟩
      rw [upd_ne np]
      exact kp p o np z
    · rintro σ' H' ⟨dr, c', o, rfl, e, hc', kp⟩
      refine ⟨.int dr, rfl, .inl ⟨dr, rfl, .int m, rfl, dr, m, rfl, rfl, (show (0 : Int) < m by omega), ?_⟩⟩
      exact ex0 a b c' _ kp e ha hb hc'.1 (by omega) _ (Int.emod_nonneg _ (by omega)) (Int.emod_lt_of_pos _ (by omega))
abbrev s__law_cell : Stmt := topS 99
def spCell (K : Fg) : Sp := fun vs H Q _ => ∃ (s : Addr) (ns : List Int) (i : Int), vs = [.ref s, .int i] ∧ SqL K H s (ns.map V.int) ∧ 0 ≤ i ∧ i ≤ 1000 ∧ ∀ (z : Int) H', Ex H H' → Q (.int z) H'
theorem f__law_cell (T : Bg mg) (a : At K mg "_law_cell" s__law_cell) : Fc P w K mg base "_law_cell" ["_law_script", "_law_index"] 1 (spCell K) := by
  have S : FnScope ["_law_script", "_law_index"] ["_law_script", "_law_index"] (defScope s__law_cell) := ⟨rfl, rfl, rfl, by decide +kernel, rfl, by decide +kernel, by decide +kernel⟩
  obtain ⟨f, fd, F, hm⟩ := a
  refine ⟨f, fd, hm, F.kp, F.binds (fun _ _ _ _ _ _ us hl => match us, hl with | [_, _], _ => rfl), fnG F S ?_ ?_⟩
  · rintro vs H Q E ⟨s, ns, i, rfl, _⟩
    rfl
  intro cdv A outer s H vs Q E gu hr ⟨sc, ns, i, ev, hS, h0, h1, q⟩
  subst ev
  have hc : (cxOf CX0 P w K mg base ["_law_script", "_law_index"] "_law_cell" (defScope s__law_cell) f cdv A outer s H E).nox.calm = true := rfl
  suffices h : ∃ t, PSs (cxOf CX0 P w K mg base ["_law_script", "_law_index"] "_law_cell" (defScope s__law_cell) f cdv A outer s H E).nox (defBody s__law_cell) t ∧ t { nx := fun _ H' => Q .non H', rt := Q } (L2.start ["_law_script", "_law_index"] [.ref sc, .int i]) H by
    obtain ⟨t, h1, h2⟩ := h
    exact ⟨t, h1.nox, h2⟩
  refine ⟨_, (pss_cons (ps_if (pt_cmpR op_lt (pv 1) (pe_callB call_len_seq (by rfl) T.len (by decide +kernel) (pa_cons (pv 0) pa_nil)) (nomark _)) (pss_one (ps_ret (pe_ix ix_list (pv 0) (pv 1) (fun _ _ => rfl)))) pss_nil)
  (pss_one (ps_ret (pe_op op_mod (pe_callB (cr_sum hc) (by rfl) T.sum (by decide +kernel) (pa_cons (pe_slice sl_list (pv 0) po_none (po_some pe_int)) pa_nil)) pe_int)))), ?_⟩
  refine ⟨.int i, rfl, .ref sc, rfl, sc, _, rfl, .inl hS, i, _, rfl, rfl, _, rfl, ite2 (fun h => ?_) (fun h => ?_)⟩
  · have hi := of_decide_eq_true h
    rw [List.length_map] at hi
    obtain ⟨j, rfl⟩ : ∃ j : Nat, i = j := ⟨i.toNat, by omega⟩
    have hj : j < ns.length := by omega
    have e : (ns.map V.int)[j]? = some (.int ns[j]) := by
      rw [List.getElem?_map, List.getElem?_eq_getElem hj]
      rfl
    exact ⟨.ref sc, rfl, .int j, rfl, sc, _, j, _, rfl, rfl, hS, atI_nat e, q _ H (Ex.refl H)⟩
  · refine ⟨.ref sc, rfl, 1, rfl, sc, _, rfl, hS, fun p hp => ?_⟩
    have e : cutV (ns.map V.int) none (some 1) = (ns.take 1).map V.int := by
      rw [List.map_take]
      unfold cutV
      rw [show HT.sIx (ns.map V.int).length 0 none = 0 from HT.sIx_none _ _, show HT.sIx (ns.map V.int).length (ns.map V.int).length (some 1) = min 1 (ns.map V.int).length from HT.sIx_nat _ _ 1]
      simp
    refine ⟨p, ns.take 1, rfl, SqL.of (by rw [upd_same, e]), _, 1000003, rfl, rfl, (show (0 : Int) < 1000003 by decide), ?_⟩
    exact q _ _ (Ex.new hp)
abbrev s__law_generator : Stmt := topS 100
def spGen (K : Fg) : Sp := fun vs H Q _ => ∃ (s : Addr) (ns : List Int) (i : Int), vs = [.ref s, .int i] ∧ SqL K H s (ns.map V.int) ∧ 0 ≤ i ∧ i ≤ 1000 ∧ ∀ (g : Addr) H', H g = none → Ex H H' → GenAt g 900000000 H' → Q (.ref g) H'
theorem f__law_generator (T : Bg mg) (a : At K mg "_law_generator" s__law_generator) (c__law_cell : Fc P w K mg base "_law_cell" ["_law_script", "_law_index"] 1 (spCell K)) : Fc P w K mg base "_law_generator" ["_law_script", "_law_index"] 2 (spGen K) := by
  have S : FnScope ["_law_script", "_law_index", "_law_seed"] ["_law_script", "_law_index"] (defScope s__law_generator) := ⟨rfl, rfl, rfl, by decide +kernel, rfl, by decide +kernel, by decide +kernel⟩
  obtain ⟨f, fd, F, hm⟩ := a
  refine ⟨f, fd, hm, F.kp, F.binds (fun _ _ _ _ _ _ us hl => match us, hl with | [_, _], _ => rfl), fnG F S ?_ ?_⟩
  · rintro vs H Q E ⟨s, ns, i, rfl, _⟩
    rfl
  intro cdv A outer s H vs Q E gu hr ⟨sc, ns, i, ev, hS, h0, h1, q⟩
  subst ev
  have hc : (cxOf CX0 P w K mg base ["_law_script", "_law_index", "_law_seed"] "_law_generator" (defScope s__law_generator) f cdv A outer s H E).nox.calm = true := rfl
  suffices h : ∃ t, PSs (cxOf CX0 P w K mg base ["_law_script", "_law_index", "_law_seed"] "_law_generator" (defScope s__law_generator) f cdv A outer s H E).nox (defBody s__law_generator) t ∧ t { nx := fun _ H' => Q .non H', rt := Q } (L2.start ["_law_script", "_law_index", "_law_seed"] [.ref sc, .int i]) H by
    obtain ⟨t, h1, h2⟩ := h
    exact ⟨t, h1.nox, h2⟩
  refine ⟨_, (pss_cons (ps_set (i := 2) S.nd rfl (by first | exact Or.inl rfl | exact Or.inr rfl) (pe_f c__law_cell gu (hr.mono (by decide)) (by rfl) (pa_cons (pv 0) (pa_cons (pv 1) pa_nil))))
  (pss_one (ps_ret (pe_lst (pa_cons (pe_op op_mod (pe_callTy call_int1 (by rfl) T.int (by decide +kernel) (pa_cons (pe_callB (call_max2 hc) (by rfl) T.max (by decide +kernel) (pa_cons (pe_op op_sub (pv 2) (pe_op op_pow pe_int pe_int)) (pa_cons pe_int pa_nil))) pa_nil)) (pe_op op_powB (pe_op op_pow pe_int pe_int) pe_int)) (pa_cons (pe_op op_mod (pe_callTy call_int1 (by rfl) T.int (by decide +kernel) (pa_cons (pv 2) pa_nil)) pe_int) (pa_cons (pe_op op_mul pe_int (pv 1)) pa_nil))))))), ?_⟩
  refine ⟨.ref sc, rfl, .int i, rfl, sc, ns, i, rfl, hS, h0, h1, fun z H1 e1 => ?_⟩
  have pos : (0 : Int) < (10 ^ 60) ^ Int.toNat 10 := by decide +kernel
  refine ⟨.int z, rfl, 10, 18, rfl, rfl, ⟨by decide, by decide, by decide⟩, z, _, rfl, rfl, _, 0, rfl, .inl ⟨_, rfl, 10, 60, rfl, rfl, ⟨by decide, by decide, by decide⟩, _, 10, rfl, rfl, ⟨rfl, rfl⟩, _, _, rfl, rfl, pos, ?_⟩⟩
  refine ⟨.int z, rfl, .inl ⟨z, rfl, z, 2147483647, rfl, rfl, (show (0 : Int) < 2147483647 by decide), .int i, rfl, 1000, i, rfl, rfl, .inl ⟨by decide, by decide⟩, by show 3 ≤ sizeLine; decide, fun g hg => ?_⟩⟩
  refine q g _ (Evl.fresh_back e1 hg) (e1.trans (Ex.new hg)) ⟨_, _, _, upd_same, Int.emod_nonneg _ (Int.ne_of_gt pos), ⟨Int.emod_nonneg _ (by decide), Int.emod_lt_of_pos _ (by decide)⟩, by omega, by omega⟩
end
end TD

set_option maxHeartbeats 4000000
namespace TD
open PySem PySem.Spec PyProof.Rows L2
open Evl (Ex)
def lvB : PyData → Bool
  | .tuple [r, .list es] => decide (es.length ≤ 30000)
  | _ => true
def gFitsLevel : List PyData → Option PyData
  | [x] => match lvB x with
    | true => some (.bool (fitsLevel x))
    | false => none
  | _ => none
theorem gFitsLevel_ok (ds : List PyData) (d : PyData) (h : gFitsLevel ds = some d) : R_fits_level ds d := by
  unfold gFitsLevel at h
  split at h
  · next x =>
    split at h
    · next e =>
      cases h
      exact ⟨_, rfl, fun r' es' z => by
        subst z
        exact of_decide_eq_true e, rfl⟩
    · exact nomatch h
  · exact nomatch h
def smB : PyData → Bool
  | .list es => decide (es.length ≤ 30000)
  | .tuple es => decide (es.length ≤ 30000)
  | _ => true
def gFitsPresses : List PyData → Option PyData
  | [.int r, x] => match smB x with
    | true => some (.bool (fitsPresses r x))
    | false => none
  | _ => none
theorem gFitsPresses_ok (ds : List PyData) (d : PyData) (h : gFitsPresses ds = some d) : R_fits_presses ds d := by
  unfold gFitsPresses at h
  split at h
  · next r x =>
    split at h
    · next e =>
      cases h
      exact ⟨r, _, rfl, fun ds z => by
        rcases z with z | z <;> subst z
        · exact of_decide_eq_true e
        · exact of_decide_eq_true e, rfl⟩
    · exact nomatch h
  · exact nomatch h
def gIsCount : List PyData → Option PyData
  | [d] => some (.bool (isCount d))
  | _ => none
theorem gIsCount_ok (ds : List PyData) (d : PyData) (h : gIsCount ds = some d) : R_is_count ds d := by
  unfold gIsCount at h
  split at h
  · cases h
    exact ⟨_, rfl, rfl⟩
  · exact nomatch h
def gIsTup : List PyData → Option PyData
  | [.int n, d] => some (.bool (isTup n d))
  | _ => none
theorem gIsTup_ok (ds : List PyData) (d : PyData) (h : gIsTup ds = some d) : R_is_tuple_of ds d := by
  unfold gIsTup at h
  split at h
  · cases h
    exact ⟨_, _, rfl, rfl⟩
  · exact nomatch h
def gFitsLights : List PyData → Option PyData
  | [.int n, d] => some (.bool (fitsLights n d))
  | _ => none
theorem gFitsLights_ok (ds : List PyData) (d : PyData) (h : gFitsLights ds = some d) : R_fits_lights ds d := by
  unfold gFitsLights at h
  split at h
  · cases h
    exact ⟨_, _, rfl, rfl⟩
  · exact nomatch h
def gIsWhole : List PyData → Option PyData
  | [d] => some (.bool (isWhole d))
  | _ => none
theorem gIsWhole_ok (ds : List PyData) (d : PyData) (h : gIsWhole ds = some d) : R_is_whole ds d := by
  unfold gIsWhole at h
  split at h
  · cases h
    exact ⟨_, rfl, rfl⟩
  · exact nomatch h
end TD

set_option maxHeartbeats 4000000
namespace TD
open PySem PySem.Spec PyProof.Rows L2
open Evl (Ex)
structure CkY (P : Program) (w : World) (K : Fg) (mg : Str → Option Value) (base : Heap) (cl : Nat → Addr) : Prop where
  InvalidHouse : Mke P w K mg base "InvalidHouse" (cl 0)
  InvalidNumber : Mke P w K mg base "InvalidNumber" (cl 1)
  InvalidWalk : Mke P w K mg base "InvalidWalk" (cl 2)
  InvalidWalks : Mke P w K mg base "InvalidWalks" (cl 3)
structure Tb (mg : Str → Option Value) : Prop where
  all : mg "all" = none
  isinstance : mg "isinstance" = none
  len : mg "len" = none
  list : mg "list" = none
  range : mg "range" = none
  zip : mg "zip" = none
section
variable {P : Program} {w : World} {K : Fg} {mg : Str → Option Value} {base : Heap} {cl : Nat → Addr}
abbrev s_fits_place : Stmt := topS 18
def F_fits_place : List PyData → FR := fnY 2 2 none (sRet (eAnd (eCB gIsCount (aCons (eVar 1) aNil)) (eOp (gB fun i j => decide (i < j)) (eVar 1) (eCB gLen (aCons (eOp gIxT (eVar 0) (eC (.int 1))) aNil)))))
theorem f_fits_place (T : Tb mg) (a : At K mg "fits_place" s_fits_place) (c_is_count : Fc P w K mg base "is_count" ["value"] 2 (SpR K R_is_count)) : Fx P w K mg base "fits_place" ["house", "value"] 3 (SpY K cl none F_fits_place) := by
  have S : FnScope ["house", "value"] ["house", "value"] (defScope s_fits_place) := ⟨rfl, rfl, rfl, by decide +kernel, rfl, by decide +kernel, by decide +kernel⟩
  refine fy_mk (m := 2) (O := (fun i => [].contains i)) none a S (fun _ _ _ _ _ _ us hl => match us, hl with | [_, _], _ => rfl) (by decide) (fun j h => nomatch h) fun f' cdv A outer s H E gu hr tk => ?_
  have hc : (cxOf (L2.CX P w) P w K mg base ["house", "value"] "fits_place" (defScope s_fits_place) f' cdv A outer s H E).calm = true := rfl
  have hu64 : (cxOf (L2.CX P w) P w K mg base ["house", "value"] "fits_place" (defScope s_fits_place) f' cdv A outer s H E).A.units + 64 < cLine := hr.units
  have hu : (cxOf (L2.CX P w) P w K mg base ["house", "value"] "fits_place" (defScope s_fits_place) f' cdv A outer s H E).A.units + 1 < cLine := Nat.lt_of_le_of_lt (Nat.add_le_add_left (by decide) _) hr.units
  have hu2 : (cxOf (L2.CX P w) P w K mg base ["house", "value"] "fits_place" (defScope s_fits_place) f' cdv A outer s H E).A.units + 200 < cLine := Nat.lt_of_le_of_lt (Nat.add_le_add_right (Nat.le_add_right _ (16 * 2)) _) hr.un
  have hu65 : (cxOf (L2.CX P w) P w K mg base ["house", "value"] "fits_place" (defScope s_fits_place) f' cdv A outer s H E).A.units + 65 < cLine := Nat.lt_of_le_of_lt (Nat.add_le_add_left (by decide) _) hu2
  exact ⟨_, (pss_one (ps_ret (pe_and (pe_f c_is_count gu (hr.mono (by decide)) (by rfl) (pa_cons (pv 1) pa_nil)) (pe_one (pe_cmpR op_lt (pv 1) (pe_callB call_len_seq (by rfl) T.len (by decide +kernel) (pa_cons (pe_ix ix_tup (pv 0) pe_int (fun _ _ => rfl)) pa_nil)) (nomark _)))))), (ys_ret (ye_and (ye_cf gIsCount_ok (ya_cons ye_var ya_nil)) (ye_op o_B ye_var (ye_cb c_len (ya_cons (ye_op o_ixT ye_var ye_int) ya_nil)))))⟩
abbrev s_fits_step : Stmt := topS 19
def F_fits_step : List PyData → FR := fnY 3 6 none (sSeq (sIf (tNotZ (tVal' (eCB gIsTup (aCons (eC (.int 3)) (aCons (eVar 2) aNil))))) (sRet (eC (.bool false))) sNext) (sSeq (sAsg (eVar 2) (gT [(gN 3), (gN 4), (gN 5)])) (sSeq (sIf (tOrZ (tNotZ (tVal' (eCB gIsCount (aCons (eVar 3) aNil)))) (tOrZ (tNotZ (tVal' (eCB gIsCount (aCons (eVar 4) aNil)))) (tVal' (eOp gEq (eVar 3) (eVar 4))))) (sRet (eC (.bool false))) sNext) (sRet (eAnd (eOp (gB fun i j => decide (i < j)) (eVar 3) (eVar 1)) (eAnd (eOp (gB fun i j => decide (i < j)) (eVar 4) (eVar 1)) (eCB gFitsLights (aCons (eVar 0) (aCons (eVar 5) aNil)))))))))
theorem f_fits_step (a : At K mg "fits_step" s_fits_step) (c_is_tuple_of : Fc P w K mg base "is_tuple_of" ["many", "value"] 1 (SpR K R_is_tuple_of)) (c_is_count : Fc P w K mg base "is_count" ["value"] 2 (SpR K R_is_count)) (c_fits_lights : Fc P w K mg base "fits_lights" ["rooms", "value"] 4 (SpR K R_fits_lights)) : Fx P w K mg base "fits_step" ["rooms", "places", "value"] 5 (SpY K cl none F_fits_step) := by
  have S : FnScope ["rooms", "places", "value", "place", "goal", "needs"] ["rooms", "places", "value"] (defScope s_fits_step) := ⟨rfl, rfl, rfl, by decide +kernel, rfl, by decide +kernel, by decide +kernel⟩
  refine fy_mk (m := 3) (O := (fun i => [].contains i)) none a S (fun _ _ _ _ _ _ us hl => match us, hl with | [_, _, _], _ => rfl) (by decide) (fun j h => nomatch h) fun f' cdv A outer s H E gu hr tk => ?_
  have hc : (cxOf (L2.CX P w) P w K mg base ["rooms", "places", "value", "place", "goal", "needs"] "fits_step" (defScope s_fits_step) f' cdv A outer s H E).calm = true := rfl
  have hu64 : (cxOf (L2.CX P w) P w K mg base ["rooms", "places", "value", "place", "goal", "needs"] "fits_step" (defScope s_fits_step) f' cdv A outer s H E).A.units + 64 < cLine := hr.units
  have hu : (cxOf (L2.CX P w) P w K mg base ["rooms", "places", "value", "place", "goal", "needs"] "fits_step" (defScope s_fits_step) f' cdv A outer s H E).A.units + 1 < cLine := Nat.lt_of_le_of_lt (Nat.add_le_add_left (by decide) _) hr.units
  have hu2 : (cxOf (L2.CX P w) P w K mg base ["rooms", "places", "value", "place", "goal", "needs"] "fits_step" (defScope s_fits_step) f' cdv A outer s H E).A.units + 200 < cLine := Nat.lt_of_le_of_lt (Nat.add_le_add_right (Nat.le_add_right _ (16 * 4)) _) hr.un
  have hu65 : (cxOf (L2.CX P w) P w K mg base ["rooms", "places", "value", "place", "goal", "needs"] "fits_step" (defScope s_fits_step) f' cdv A outer s H E).A.units + 65 < cLine := Nat.lt_of_le_of_lt (Nat.add_le_add_left (by decide) _) hu2
  exact ⟨_, (pss_cons (ps_if (pt_not (pt_val (pe_f c_is_tuple_of gu (hr.mono (by decide)) (by rfl) (pa_cons pe_int (pa_cons (pv 2) pa_nil))))) (pss_one (ps_ret pe_bl)) pss_nil)
  (pss_cons (ps_asg (pv 2) (pg_tup hc (pgs_cons (pg_name (i := 3) S.nd rfl (by first | exact Or.inl rfl | exact Or.inr rfl)) (pgs_cons (pg_name (i := 4) S.nd rfl (by first | exact Or.inl rfl | exact Or.inr rfl)) (pgs_cons (pg_name (i := 5) S.nd rfl (by first | exact Or.inl rfl | exact Or.inr rfl)) pgs_nil)))))
  (pss_cons (ps_if (PW.pt (pw_or (pt_not (pt_val (pe_f c_is_count gu (hr.mono (by decide)) (by rfl) (pa_cons (pv 3) pa_nil)))) (pw_or (pt_not (pt_val (pe_f c_is_count gu (hr.mono (by decide)) (by rfl) (pa_cons (pv 4) pa_nil)))) (pw_or1 (pt_cmpR op_eq (pv 3) (pv 4) (nomark _)))))) (pss_one (ps_ret pe_bl)) pss_nil)
  (pss_one (ps_ret (pe_and (pe_cmpR op_lt (pv 3) (pv 1) (nomark _)) (pe_and (pe_cmpR op_lt (pv 4) (pv 1) (nomark _)) (pe_one (pe_f c_fits_lights gu (hr.mono (by decide)) (by rfl) (pa_cons (pv 0) (pa_cons (pv 5) pa_nil))))))))))), (ys_seq (ys_if (yt_not (yt_B (ye_cf gIsTup_ok (ya_cons ye_int (ya_cons ye_var ya_nil))))) (ys_ret ye_bl) ys_next) (ys_seq (ys_asg ye_var (zg_tup (zgs_cons zg_name (zgs_cons zg_name (zgs_cons zg_name zgs_nil))))) (ys_seq (ys_if (yt_or (yt_not (yt_B (ye_cf gIsCount_ok (ya_cons ye_var ya_nil)))) (yt_or (yt_not (yt_B (ye_cf gIsCount_ok (ya_cons ye_var ya_nil)))) (yt_val (ye_op o_eq ye_var ye_var)))) (ys_ret ye_bl) ys_next) (ys_ret (ye_and (ye_op o_B ye_var ye_var) (ye_and (ye_op o_B ye_var ye_var) (ye_cf gFitsLights_ok (ya_cons ye_var (ya_cons ye_var ya_nil)))))))))⟩
abbrev s_fits_house : Stmt := topS 20
def F_fits_house : List PyData → FR := fnY 1 5 none (sSeq (sIf (tNotZ (tVal' (eCB gIsTup (aCons (eC (.int 3)) (aCons (eVar 0) aNil))))) (sRet (eC (.bool false))) sNext) (sSeq (sAsg (eVar 0) (gT [(gN 1), (gN 2), (gN 3)])) (sSeq (sIf (tOrZ (tNotZ (tVal' (eCB gFitsLevel (aCons (eVar 1) aNil)))) (tOrZ (tNotZ (tVal' (eCB gFitsPresses (aCons (eOp gIxT (eVar 1) (eC (.int 0))) (aCons (eVar 2) aNil))))) (tVal' (eOp gEq (eCB gLen (aCons (eVar 2) aNil)) (eC (.int 0)))))) (sRet (eC (.bool false))) sNext) (sRet (eAnd (eIsi "list" (eVar 3)) (eCB gAll (aCons (eFz (eLc (iL (eVar 3)) [4] (gN 4) tYesZ (eFz (eCall F_fits_step [.d, .d, .d] (aCons (eOp gIxT (eVar 1) (eC (.int 0))) (aCons (eCB gLen (aCons (eVar 2) aNil)) (aCons (eVar 4) aNil))))))) aNil)))))))
theorem f_fits_house (T : Tb mg) (a : At K mg "fits_house" s_fits_house) (c_fits_step : Fx P w K mg base "fits_step" ["rooms", "places", "value"] 5 (SpY K cl none F_fits_step)) (c_is_tuple_of : Fc P w K mg base "is_tuple_of" ["many", "value"] 1 (SpR K R_is_tuple_of)) (c_fits_presses : Fc P w K mg base "fits_presses" ["rooms", "value"] 5 (SpR K R_fits_presses)) (c_fits_level : Fc P w K mg base "fits_level" ["value"] 8 (SpR K R_fits_level)) : Fx P w K mg base "fits_house" ["value"] 9 (SpY K cl none F_fits_house) := by
  have S : FnScope ["value", "level", "plates", "steps", "step"] ["value"] (defScope s_fits_house) := ⟨rfl, rfl, rfl, by decide +kernel, rfl, by decide +kernel, by decide +kernel⟩
  refine fy_mk (m := 1) (O := (fun i => [].contains i)) none a S (fun _ _ _ _ _ _ us hl => match us, hl with | [_], _ => rfl) (by decide) (fun j h => nomatch h) fun f' cdv A outer s H E gu hr tk => ?_
  have hc : (cxOf (L2.CX P w) P w K mg base ["value", "level", "plates", "steps", "step"] "fits_house" (defScope s_fits_house) f' cdv A outer s H E).calm = true := rfl
  have hu64 : (cxOf (L2.CX P w) P w K mg base ["value", "level", "plates", "steps", "step"] "fits_house" (defScope s_fits_house) f' cdv A outer s H E).A.units + 64 < cLine := hr.units
  have hu : (cxOf (L2.CX P w) P w K mg base ["value", "level", "plates", "steps", "step"] "fits_house" (defScope s_fits_house) f' cdv A outer s H E).A.units + 1 < cLine := Nat.lt_of_le_of_lt (Nat.add_le_add_left (by decide) _) hr.units
  have hu2 : (cxOf (L2.CX P w) P w K mg base ["value", "level", "plates", "steps", "step"] "fits_house" (defScope s_fits_house) f' cdv A outer s H E).A.units + 200 < cLine := Nat.lt_of_le_of_lt (Nat.add_le_add_right (Nat.le_add_right _ (16 * 8)) _) hr.un
  have hu65 : (cxOf (L2.CX P w) P w K mg base ["value", "level", "plates", "steps", "step"] "fits_house" (defScope s_fits_house) f' cdv A outer s H E).A.units + 65 < cLine := Nat.lt_of_le_of_lt (Nat.add_le_add_left (by decide) _) hu2
  exact ⟨_, (pss_cons (ps_if (pt_not (pt_val (pe_f c_is_tuple_of gu (hr.mono (by decide)) (by rfl) (pa_cons pe_int (pa_cons (pv 0) pa_nil))))) (pss_one (ps_ret pe_bl)) pss_nil)
  (pss_cons (ps_asg (pv 0) (pg_tup hc (pgs_cons (pg_name (i := 1) S.nd rfl (by first | exact Or.inl rfl | exact Or.inr rfl)) (pgs_cons (pg_name (i := 2) S.nd rfl (by first | exact Or.inl rfl | exact Or.inr rfl)) (pgs_cons (pg_name (i := 3) S.nd rfl (by first | exact Or.inl rfl | exact Or.inr rfl)) pgs_nil)))))
  (pss_cons (ps_if (PW.pt (pw_or (pt_not (pt_val (pe_f c_fits_level gu (hr.mono (by decide)) (by rfl) (pa_cons (pv 1) pa_nil)))) (pw_or (pt_not (pt_val (pe_f c_fits_presses gu (hr.mono (by decide)) (by rfl) (pa_cons (pe_ix ix_tup (pv 1) pe_int (fun _ _ => rfl)) (pa_cons (pv 2) pa_nil))))) (pw_or1 (pt_cmpR op_eq (pe_callB call_len_seq (by rfl) T.len (by decide +kernel) (pa_cons (pv 2) pa_nil)) pe_int (nomark _)))))) (pss_one (ps_ret pe_bl)) pss_nil)
  (pss_one (ps_ret (pe_and (pe_callB call_isi (by rfl) T.isinstance (by decide +kernel) (pa_cons (pv 3) (pa_cons (pe_bltn (v := .ty "list") (by rfl) T.list boot_list rfl) pa_nil))) (pe_one (pe_callB (cr_all hc) (by rfl) T.all (by decide +kernel) (pa_cons (pe_lc (own := [("step", 4)]) hc S.nd (pi_list (pv 3)) (blkOk_by (N := ["value", "level", "plates", "steps", "step"]) (sc := defScope s_fits_house) (by decide +kernel)) (fun _ _ _ _ _ => (pg_name (i := 4) S.nd rfl (by first | exact Or.inl rfl | exact Or.inr rfl))) (fun _ _ _ _ _ => pts_nil) (fun _ _ _ _ _ => (pe_fx c_fits_step gu (hr.mono (by decide)) (by rfl) (fun _ => pass_no) (pa_cons (pe_ix (ix_tupK (K := K) rfl) (pv 1) pe_int (fun _ _ => rfl)) (pa_cons (pe_callB call_len_seq (by rfl) T.len (by decide +kernel) (pa_cons (pv 2) pa_nil)) (pa_cons (pv 4) pa_nil)))))) pa_nil))))))))), (ys_seq (ys_if (yt_not (yt_B (ye_cf gIsTup_ok (ya_cons ye_int (ya_cons ye_var ya_nil))))) (ys_ret ye_bl) ys_next) (ys_seq (ys_asg ye_var (zg_tup (zgs_cons zg_name (zgs_cons zg_name (zgs_cons zg_name zgs_nil))))) (ys_seq (ys_if (yt_or (yt_not (yt_B (ye_cf gFitsLevel_ok (ya_cons ye_var ya_nil)))) (yt_or (yt_not (yt_B (ye_cf gFitsPresses_ok (ya_cons (ye_op o_ixT ye_var ye_int) (ya_cons ye_var ya_nil))))) (yt_val (ye_op o_eq (ye_cb c_len (ya_cons ye_var ya_nil)) ye_int)))) (ys_ret ye_bl) ys_next) (ys_ret (ye_and (ye_isi ye_var) (ye_cb c_all (ya_cons (ye_fz (ye_lc (E' := fun _ _ _ => False) (yi_L ye_var) zgw_name yt_yes (ye_fz (ye_call0 (ya_cons (ye_op o_ixT ye_var ye_int) (ya_cons (ye_cb c_len (ya_cons ye_var ya_nil)) (ya_cons ye_var ya_nil))))))) ya_nil)))))))⟩
abbrev s_leads_of : Stmt := topS 21
def F_leads_of : List PyData → FR := fnY 1 4 none (sRet (eDc true (iL (eOp gIxT (eVar 0) (eC (.int 2)))) [1, 2, 3] (gT [(gN 1), (gN 2), (gN 3)]) tYesZ (eTup (aCons (eVar 1) (aCons (eVar 2) aNil))) (eC (.bool true))))
theorem f_leads_of (a : At K mg "leads_of" s_leads_of) : Fx P w K mg base "leads_of" ["house"] 1 (SpY K cl none F_leads_of) := by
  have S : FnScope ["house", "place", "goal", "_"] ["house"] (defScope s_leads_of) := ⟨rfl, rfl, rfl, by decide +kernel, rfl, by decide +kernel, by decide +kernel⟩
  refine fy_mk (m := 1) (O := (fun i => [].contains i)) none a S (fun _ _ _ _ _ _ us hl => match us, hl with | [_], _ => rfl) (by decide) (fun j h => nomatch h) fun f' cdv A outer s H E gu hr tk => ?_
  have hc : (cxOf (L2.CX P w) P w K mg base ["house", "place", "goal", "_"] "leads_of" (defScope s_leads_of) f' cdv A outer s H E).calm = true := rfl
  have hu64 : (cxOf (L2.CX P w) P w K mg base ["house", "place", "goal", "_"] "leads_of" (defScope s_leads_of) f' cdv A outer s H E).A.units + 64 < cLine := hr.units
  have hu : (cxOf (L2.CX P w) P w K mg base ["house", "place", "goal", "_"] "leads_of" (defScope s_leads_of) f' cdv A outer s H E).A.units + 1 < cLine := Nat.lt_of_le_of_lt (Nat.add_le_add_left (by decide) _) hr.units
  have hu2 : (cxOf (L2.CX P w) P w K mg base ["house", "place", "goal", "_"] "leads_of" (defScope s_leads_of) f' cdv A outer s H E).A.units + 200 < cLine := Nat.lt_of_le_of_lt (Nat.add_le_add_right (Nat.le_add_right _ (16 * 0)) _) hr.un
  have hu65 : (cxOf (L2.CX P w) P w K mg base ["house", "place", "goal", "_"] "leads_of" (defScope s_leads_of) f' cdv A outer s H E).A.units + 65 < cLine := Nat.lt_of_le_of_lt (Nat.add_le_add_left (by decide) _) hu2
  exact ⟨_, (pss_one (ps_ret (pe_dcP (own := [("place", 1), ("goal", 2), ("_", 3)]) (o0 := oD0 true) o0_ok (Nat.lt_of_succ_lt (by exact hu)) hc S.nd (pi_list (pe_ix ix_tup (pv 0) pe_int (fun _ _ => rfl))) (blkOk_by (N := ["house", "place", "goal", "_"]) (sc := defScope s_leads_of) (by decide +kernel)) (fun _ _ _ _ _ => (pg_tupK (K := K) (n := 3) rfl (by exact rfl) (pgs_cons (pg_name (i := 1) S.nd rfl (by first | exact Or.inl rfl | exact Or.inr rfl)) (pgs_cons (pg_name (i := 2) S.nd rfl (by first | exact Or.inl rfl | exact Or.inr rfl)) (pgs_cons (pg_name (i := 3) S.nd rfl (by first | exact Or.inl rfl | exact Or.inr rfl)) pgs_nil))))) (fun _ _ _ _ _ => pts_nil) (fun _ _ _ _ _ => (pe_tup (pa_cons (pv 1) (pa_cons (pv 2) pa_nil)))) (fun _ _ _ _ _ => pe_bl)))), (ys_ret (ye_dc (E' := fun _ _ _ => False) (yi_L (ye_op o_ixT ye_var ye_int)) (zgw_tup (zgsw_cons zgw_name (zgsw_cons zgw_name (zgsw_cons zgw_name zgsw_nil)))) yt_yes (ye_tup (ya_cons ye_var (ya_cons ye_var ya_nil))) ye_bl))⟩
abbrev s_fits_walk : Stmt := topS 22
def F_fits_walk : List PyData → FR := fnY 2 6 none (sSeq (sIf (tOrZ (tNotZ (tVal' (eIsi "list" (eVar 1)))) (tVal' (eOp gEq (eCB gLen (aCons (eVar 1) aNil)) (eC (.int 0))))) (sRet (eC (.bool false))) sNext) (sSeq (sIf (tNotZ (tVal' (eCB gAll (aCons (eFz (eLc (iL (eVar 1)) [2] (gN 2) tYesZ (eFz (eCall F_fits_place [.d, .d] (aCons (eVar 0) (aCons (eVar 2) aNil)))))) aNil)))) (sRet (eC (.bool false))) sNext) (sSeq (sAsgO 3 (eCall F_leads_of [.s 0] (aCons (eVar 0) aNil))) (sSeq (sAsg (eFz (eListZip (aCons (eVar 1) (aCons (eSl (eVar 1) (some (eC (.int 1))) none) aNil)))) (gN 4)) (sRet (eCB gAll (aCons (eFz (eLc (iL (eVar 4)) [2, 5] (gT [(gN 2), (gN 5)]) tYesZ (eOr (eOp gEq (eVar 2) (eVar 5)) (eDInO false 3 (eTup (aCons (eVar 2) (aCons (eVar 5) aNil))))))) aNil)))))))
theorem f_fits_walk (T : Tb mg) (a : At K mg "fits_walk" s_fits_walk) (c_fits_place : Fx P w K mg base "fits_place" ["house", "value"] 3 (SpY K cl none F_fits_place)) (c_leads_of : Fx P w K mg base "leads_of" ["house"] 1 (SpY K cl none F_leads_of)) : Fx P w K mg base "fits_walk" ["house", "value"] 4 (SpY K cl none F_fits_walk) := by
  have S : FnScope ["house", "value", "place", "leads", "steps", "goal"] ["house", "value"] (defScope s_fits_walk) := ⟨rfl, rfl, rfl, by decide +kernel, rfl, by decide +kernel, by decide +kernel⟩
  refine fy_mk (m := 2) (O := (fun i => [3].contains i)) none a S (fun _ _ _ _ _ _ us hl => match us, hl with | [_, _], _ => rfl) (by decide) (fun j h => nomatch h) fun f' cdv A outer s H E gu hr tk => ?_
  have hc : (cxOf (L2.CX P w) P w K mg base ["house", "value", "place", "leads", "steps", "goal"] "fits_walk" (defScope s_fits_walk) f' cdv A outer s H E).calm = true := rfl
  have hu64 : (cxOf (L2.CX P w) P w K mg base ["house", "value", "place", "leads", "steps", "goal"] "fits_walk" (defScope s_fits_walk) f' cdv A outer s H E).A.units + 64 < cLine := hr.units
  have hu : (cxOf (L2.CX P w) P w K mg base ["house", "value", "place", "leads", "steps", "goal"] "fits_walk" (defScope s_fits_walk) f' cdv A outer s H E).A.units + 1 < cLine := Nat.lt_of_le_of_lt (Nat.add_le_add_left (by decide) _) hr.units
  have hu2 : (cxOf (L2.CX P w) P w K mg base ["house", "value", "place", "leads", "steps", "goal"] "fits_walk" (defScope s_fits_walk) f' cdv A outer s H E).A.units + 200 < cLine := Nat.lt_of_le_of_lt (Nat.add_le_add_right (Nat.le_add_right _ (16 * 3)) _) hr.un
  have hu65 : (cxOf (L2.CX P w) P w K mg base ["house", "value", "place", "leads", "steps", "goal"] "fits_walk" (defScope s_fits_walk) f' cdv A outer s H E).A.units + 65 < cLine := Nat.lt_of_le_of_lt (Nat.add_le_add_left (by decide) _) hu2
  exact ⟨_, (pss_cons (ps_if (PW.pt (pw_or (pt_not (pt_val (pe_callB call_isi (by rfl) T.isinstance (by decide +kernel) (pa_cons (pv 1) (pa_cons (pe_bltn (v := .ty "list") (by rfl) T.list boot_list rfl) pa_nil))))) (pw_or1 (pt_cmpR op_eq (pe_callB call_len_seq (by rfl) T.len (by decide +kernel) (pa_cons (pv 1) pa_nil)) pe_int (nomark _))))) (pss_one (ps_ret pe_bl)) pss_nil)
  (pss_cons (ps_if (pt_not (pt_val (pe_callB (cr_all hc) (by rfl) T.all (by decide +kernel) (pa_cons (pe_lc (own := [("place", 2)]) hc S.nd (pi_list (pv 1)) (blkOk_by (N := ["house", "value", "place", "leads", "steps", "goal"]) (sc := defScope s_fits_walk) (by decide +kernel)) (fun _ _ _ _ _ => (pg_name (i := 2) S.nd rfl (by first | exact Or.inl rfl | exact Or.inr rfl))) (fun _ _ _ _ _ => pts_nil) (fun _ _ _ _ _ => (pe_fx c_fits_place gu (hr.mono (by decide)) (by rfl) (fun _ => pass_no) (pa_cons (pv 0) (pa_cons (pv 2) pa_nil))))) pa_nil)))) (pss_one (ps_ret pe_bl)) pss_nil)
  (pss_cons (ps_set (i := 3) S.nd rfl (by first | exact Or.inl rfl | exact Or.inr rfl) (pe_fx c_leads_of gu (hr.mono (by decide)) (by rfl) (fun σ => passAt tk σ) (pa_cons (pv 0) pa_nil)))
  (pss_cons (ps_set (i := 4) S.nd rfl (by first | exact Or.inl rfl | exact Or.inr rfl) (pe_callTy (call_listZipR rfl) (by rfl) T.list (by decide +kernel) (pa_cons (pe_callTy (call_zipR rfl) (by rfl) T.zip (by decide +kernel) (pa_cons (pv 1) (pa_cons (pe_slice sl_list (pv 1) (po_some pe_int) po_none) pa_nil))) pa_nil)))
  (pss_one (ps_ret (pe_callB (cr_all hc) (by rfl) T.all (by decide +kernel) (pa_cons (pe_lc (own := [("place", 2), ("goal", 5)]) hc S.nd (pi_list (pv 4)) (blkOk_by (N := ["house", "value", "place", "leads", "steps", "goal"]) (sc := defScope s_fits_walk) (by decide +kernel)) (fun _ _ _ _ _ => (pg_tupK (K := K) (n := 2) rfl (by exact rfl) (pgs_cons (pg_name (i := 2) S.nd rfl (by first | exact Or.inl rfl | exact Or.inr rfl)) (pgs_cons (pg_name (i := 5) S.nd rfl (by first | exact Or.inl rfl | exact Or.inr rfl)) pgs_nil)))) (fun _ _ _ _ _ => pts_nil) (fun _ _ _ _ _ => (pe_or (pe_cmpR op_eq (pv 2) (pv 5) (nomark _)) (pe_one (pe_cmp (pc_din (by exact hu) (pe_tup (pa_cons (pv 2) (pa_cons (pv 5) pa_nil))) (pv 3)) (by with_unfolding_all rfl)))))) pa_nil)))))))), (ys_seq (ys_if (yt_or (yt_not (yt_B (ye_isi ye_var))) (yt_val (ye_op o_eq (ye_cb c_len (ya_cons ye_var ya_nil)) ye_int))) (ys_ret ye_bl) ys_next) (ys_seq (ys_if (yt_not (yt_B (ye_cb c_all (ya_cons (ye_fz (ye_lc (E' := fun _ _ _ => False) (yi_L ye_var) zgw_name yt_yes (ye_fz (ye_call0 (ya_cons ye_var (ya_cons ye_var ya_nil)))))) ya_nil)))) (ys_ret ye_bl) ys_next) (ys_seq (ys_asgO (ye_call (ya_var ya_nil))) (ys_seq (ys_asg (ye_fz (ye_listZip (ya_cons ye_var (ya_cons (ye_sl ye_var (yb_some ye_int) yb_none) ya_nil)))) zg_name) (ys_ret (ye_cb c_all (ya_cons (ye_fz (ye_lc (E' := fun _ _ _ => False) (yi_L ye_var) (zgw_tup (zgsw_cons zgw_name (zgsw_cons zgw_name zgsw_nil))) yt_yes (ye_or (ye_op o_eq ye_var ye_var) (ye_dinO (ye_tup (ya_cons ye_var (ya_cons ye_var ya_nil))))))) ya_nil)))))))⟩
abbrev s_fits_walks : Stmt := topS 23
def F_fits_walks : List PyData → FR := fnY 2 3 none (sRet (eAnd (eIsi "list" (eVar 1)) (eCB gAll (aCons (eFz (eLc (iL (eVar 1)) [2] (gN 2) tYesZ (eFz (eCall F_fits_walk [.d, .d] (aCons (eVar 0) (aCons (eVar 2) aNil)))))) aNil))))
theorem f_fits_walks (T : Tb mg) (a : At K mg "fits_walks" s_fits_walks) (c_fits_walk : Fx P w K mg base "fits_walk" ["house", "value"] 4 (SpY K cl none F_fits_walk)) : Fx P w K mg base "fits_walks" ["house", "value"] 5 (SpY K cl none F_fits_walks) := by
  have S : FnScope ["house", "value", "walk"] ["house", "value"] (defScope s_fits_walks) := ⟨rfl, rfl, rfl, by decide +kernel, rfl, by decide +kernel, by decide +kernel⟩
  refine fy_mk (m := 2) (O := (fun i => [].contains i)) none a S (fun _ _ _ _ _ _ us hl => match us, hl with | [_, _], _ => rfl) (by decide) (fun j h => nomatch h) fun f' cdv A outer s H E gu hr tk => ?_
  have hc : (cxOf (L2.CX P w) P w K mg base ["house", "value", "walk"] "fits_walks" (defScope s_fits_walks) f' cdv A outer s H E).calm = true := rfl
  have hu64 : (cxOf (L2.CX P w) P w K mg base ["house", "value", "walk"] "fits_walks" (defScope s_fits_walks) f' cdv A outer s H E).A.units + 64 < cLine := hr.units
  have hu : (cxOf (L2.CX P w) P w K mg base ["house", "value", "walk"] "fits_walks" (defScope s_fits_walks) f' cdv A outer s H E).A.units + 1 < cLine := Nat.lt_of_le_of_lt (Nat.add_le_add_left (by decide) _) hr.units
  have hu2 : (cxOf (L2.CX P w) P w K mg base ["house", "value", "walk"] "fits_walks" (defScope s_fits_walks) f' cdv A outer s H E).A.units + 200 < cLine := Nat.lt_of_le_of_lt (Nat.add_le_add_right (Nat.le_add_right _ (16 * 4)) _) hr.un
  have hu65 : (cxOf (L2.CX P w) P w K mg base ["house", "value", "walk"] "fits_walks" (defScope s_fits_walks) f' cdv A outer s H E).A.units + 65 < cLine := Nat.lt_of_le_of_lt (Nat.add_le_add_left (by decide) _) hu2
  exact ⟨_, (pss_one (ps_ret (pe_and (pe_callB call_isi (by rfl) T.isinstance (by decide +kernel) (pa_cons (pv 1) (pa_cons (pe_bltn (v := .ty "list") (by rfl) T.list boot_list rfl) pa_nil))) (pe_one (pe_callB (cr_all hc) (by rfl) T.all (by decide +kernel) (pa_cons (pe_lc (own := [("walk", 2)]) hc S.nd (pi_list (pv 1)) (blkOk_by (N := ["house", "value", "walk"]) (sc := defScope s_fits_walks) (by decide +kernel)) (fun _ _ _ _ _ => (pg_name (i := 2) S.nd rfl (by first | exact Or.inl rfl | exact Or.inr rfl))) (fun _ _ _ _ _ => pts_nil) (fun _ _ _ _ _ => (pe_fx c_fits_walk gu (hr.mono (by decide)) (by rfl) (fun _ => pass_no) (pa_cons (pv 0) (pa_cons (pv 2) pa_nil))))) pa_nil)))))), (ys_ret (ye_and (ye_isi ye_var) (ye_cb c_all (ya_cons (ye_fz (ye_lc (E' := fun _ _ _ => False) (yi_L ye_var) zgw_name yt_yes (ye_fz (ye_call0 (ya_cons ye_var (ya_cons ye_var ya_nil)))))) ya_nil))))⟩
abbrev s_fits_stay : Stmt := topS 24
def F_fits_stay : List PyData → FR := fnY 2 2 none (sRet (eAnd (eCB gIsTup (aCons (eC (.int 2)) (aCons (eVar 1) aNil))) (eAnd (eFz (eCall F_fits_place [.s 0, .d] (aCons (eVar 0) (aCons (eOp gIxT (eVar 1) (eC (.int 0))) aNil)))) (eAnd (eCB gIsWhole (aCons (eOp gIxT (eVar 1) (eC (.int 1))) aNil)) (eOp (gB fun i j => decide (j ≤ i)) (eOp gIxT (eVar 1) (eC (.int 1))) (eC (.int 1)))))))
theorem f_fits_stay (a : At K mg "fits_stay" s_fits_stay) (c_fits_place : Fx P w K mg base "fits_place" ["house", "value"] 3 (SpY K cl none F_fits_place)) (c_is_whole : Fc P w K mg base "is_whole" ["value"] 1 (SpR K R_is_whole)) (c_is_tuple_of : Fc P w K mg base "is_tuple_of" ["many", "value"] 1 (SpR K R_is_tuple_of)) : Fx P w K mg base "fits_stay" ["house", "value"] 4 (SpY K cl none F_fits_stay) := by
  have S : FnScope ["house", "value"] ["house", "value"] (defScope s_fits_stay) := ⟨rfl, rfl, rfl, by decide +kernel, rfl, by decide +kernel, by decide +kernel⟩
  refine fy_mk (m := 2) (O := (fun i => [].contains i)) none a S (fun _ _ _ _ _ _ us hl => match us, hl with | [_, _], _ => rfl) (by decide) (fun j h => nomatch h) fun f' cdv A outer s H E gu hr tk => ?_
  have hc : (cxOf (L2.CX P w) P w K mg base ["house", "value"] "fits_stay" (defScope s_fits_stay) f' cdv A outer s H E).calm = true := rfl
  have hu64 : (cxOf (L2.CX P w) P w K mg base ["house", "value"] "fits_stay" (defScope s_fits_stay) f' cdv A outer s H E).A.units + 64 < cLine := hr.units
  have hu : (cxOf (L2.CX P w) P w K mg base ["house", "value"] "fits_stay" (defScope s_fits_stay) f' cdv A outer s H E).A.units + 1 < cLine := Nat.lt_of_le_of_lt (Nat.add_le_add_left (by decide) _) hr.units
  have hu2 : (cxOf (L2.CX P w) P w K mg base ["house", "value"] "fits_stay" (defScope s_fits_stay) f' cdv A outer s H E).A.units + 200 < cLine := Nat.lt_of_le_of_lt (Nat.add_le_add_right (Nat.le_add_right _ (16 * 3)) _) hr.un
  have hu65 : (cxOf (L2.CX P w) P w K mg base ["house", "value"] "fits_stay" (defScope s_fits_stay) f' cdv A outer s H E).A.units + 65 < cLine := Nat.lt_of_le_of_lt (Nat.add_le_add_left (by decide) _) hu2
  exact ⟨_, (pss_one (ps_ret (pe_and (pe_f c_is_tuple_of gu (hr.mono (by decide)) (by rfl) (pa_cons pe_int (pa_cons (pv 1) pa_nil))) (pe_and (pe_fx c_fits_place gu (hr.mono (by decide)) (by rfl) (fun σ => passAt tk σ) (pa_cons (pv 0) (pa_cons (pe_ix ix_tup (pv 1) pe_int (fun _ _ => rfl)) pa_nil))) (pe_and (pe_f c_is_whole gu (hr.mono (by decide)) (by rfl) (pa_cons (pe_ix ix_tup (pv 1) pe_int (fun _ _ => rfl)) pa_nil)) (pe_one (pe_cmpR op_ge (pe_ix ix_tup (pv 1) pe_int (fun _ _ => rfl)) pe_int (nomark _)))))))), (ys_ret (ye_and (ye_cf gIsTup_ok (ya_cons ye_int (ya_cons ye_var ya_nil))) (ye_and (ye_fz (ye_call (ya_var (ya_cons (ye_op o_ixT ye_var ye_int) ya_nil)))) (ye_and (ye_cf gIsWhole_ok (ya_cons (ye_op o_ixT ye_var ye_int) ya_nil)) (ye_op o_B (ye_op o_ixT ye_var ye_int) ye_int)))))⟩
abbrev s_fits_stays : Stmt := topS 25
def F_fits_stays : List PyData → FR := fnY 2 5 none (sSeq (sIf (tOrZ (tNotZ (tVal' (eIsi "list" (eVar 1)))) (tVal' (eOp gEq (eCB gLen (aCons (eVar 1) aNil)) (eC (.int 0))))) (sRet (eC (.bool false))) sNext) (sSeq (sIf (tNotZ (tVal' (eCB gAll (aCons (eFz (eLc (iL (eVar 1)) [2] (gN 2) tYesZ (eFz (eCall F_fits_stay [.d, .d] (aCons (eVar 0) (aCons (eVar 2) aNil)))))) aNil)))) (sRet (eC (.bool false))) sNext) (sSeq (sAsgO 3 (eCall F_leads_of [.s 0] (aCons (eVar 0) aNil))) (sRet (eCB gAll (aCons (eFz (eLc (iR1 (aCons (eOp (gI fun i j => i - j) (eCB gLen (aCons (eVar 1) aNil)) (eC (.int 1))) aNil)) [4] (gN 4) tYesZ (eDInO false 3 (eTup (aCons (eOp gIxT (eOp gIxL (eVar 1) (eVar 4)) (eC (.int 0))) (aCons (eOp gIxT (eOp gIxL (eVar 1) (eOp (gI fun i j => i + j) (eVar 4) (eC (.int 1)))) (eC (.int 0))) aNil)))))) aNil))))))
theorem f_fits_stays (T : Tb mg) (a : At K mg "fits_stays" s_fits_stays) (c_fits_stay : Fx P w K mg base "fits_stay" ["house", "value"] 4 (SpY K cl none F_fits_stay)) (c_leads_of : Fx P w K mg base "leads_of" ["house"] 1 (SpY K cl none F_leads_of)) : Fx P w K mg base "fits_stays" ["house", "value"] 5 (SpY K cl none F_fits_stays) := by
  have S : FnScope ["house", "value", "stay", "leads", "at"] ["house", "value"] (defScope s_fits_stays) := ⟨rfl, rfl, rfl, by decide +kernel, rfl, by decide +kernel, by decide +kernel⟩
  refine fy_mk (m := 2) (O := (fun i => [3].contains i)) none a S (fun _ _ _ _ _ _ us hl => match us, hl with | [_, _], _ => rfl) (by decide) (fun j h => nomatch h) fun f' cdv A outer s H E gu hr tk => ?_
  have hc : (cxOf (L2.CX P w) P w K mg base ["house", "value", "stay", "leads", "at"] "fits_stays" (defScope s_fits_stays) f' cdv A outer s H E).calm = true := rfl
  have hu64 : (cxOf (L2.CX P w) P w K mg base ["house", "value", "stay", "leads", "at"] "fits_stays" (defScope s_fits_stays) f' cdv A outer s H E).A.units + 64 < cLine := hr.units
  have hu : (cxOf (L2.CX P w) P w K mg base ["house", "value", "stay", "leads", "at"] "fits_stays" (defScope s_fits_stays) f' cdv A outer s H E).A.units + 1 < cLine := Nat.lt_of_le_of_lt (Nat.add_le_add_left (by decide) _) hr.units
  have hu2 : (cxOf (L2.CX P w) P w K mg base ["house", "value", "stay", "leads", "at"] "fits_stays" (defScope s_fits_stays) f' cdv A outer s H E).A.units + 200 < cLine := Nat.lt_of_le_of_lt (Nat.add_le_add_right (Nat.le_add_right _ (16 * 4)) _) hr.un
  have hu65 : (cxOf (L2.CX P w) P w K mg base ["house", "value", "stay", "leads", "at"] "fits_stays" (defScope s_fits_stays) f' cdv A outer s H E).A.units + 65 < cLine := Nat.lt_of_le_of_lt (Nat.add_le_add_left (by decide) _) hu2
  exact ⟨_, (pss_cons (ps_if (PW.pt (pw_or (pt_not (pt_val (pe_callB call_isi (by rfl) T.isinstance (by decide +kernel) (pa_cons (pv 1) (pa_cons (pe_bltn (v := .ty "list") (by rfl) T.list boot_list rfl) pa_nil))))) (pw_or1 (pt_cmpR op_eq (pe_callB call_len_seq (by rfl) T.len (by decide +kernel) (pa_cons (pv 1) pa_nil)) pe_int (nomark _))))) (pss_one (ps_ret pe_bl)) pss_nil)
  (pss_cons (ps_if (pt_not (pt_val (pe_callB (cr_all hc) (by rfl) T.all (by decide +kernel) (pa_cons (pe_lc (own := [("stay", 2)]) hc S.nd (pi_list (pv 1)) (blkOk_by (N := ["house", "value", "stay", "leads", "at"]) (sc := defScope s_fits_stays) (by decide +kernel)) (fun _ _ _ _ _ => (pg_name (i := 2) S.nd rfl (by first | exact Or.inl rfl | exact Or.inr rfl))) (fun _ _ _ _ _ => pts_nil) (fun _ _ _ _ _ => (pe_fx c_fits_stay gu (hr.mono (by decide)) (by rfl) (fun _ => pass_no) (pa_cons (pv 0) (pa_cons (pv 2) pa_nil))))) pa_nil)))) (pss_one (ps_ret pe_bl)) pss_nil)
  (pss_cons (ps_set (i := 3) S.nd rfl (by first | exact Or.inl rfl | exact Or.inr rfl) (pe_fx c_leads_of gu (hr.mono (by decide)) (by rfl) (fun σ => passAt tk σ) (pa_cons (pv 0) pa_nil)))
  (pss_one (ps_ret (pe_callB (cr_all hc) (by rfl) T.all (by decide +kernel) (pa_cons (pe_lc (own := [("at", 4)]) hc S.nd (pi_range1 (by rfl) T.range (pa_cons (pe_op op_sub (pe_callB call_len_seq (by rfl) T.len (by decide +kernel) (pa_cons (pv 1) pa_nil)) pe_int) pa_nil)) (blkOk_by (N := ["house", "value", "stay", "leads", "at"]) (sc := defScope s_fits_stays) (by decide +kernel)) (fun _ _ _ _ _ => (pg_name (i := 4) S.nd rfl (by first | exact Or.inl rfl | exact Or.inr rfl))) (fun _ _ _ _ _ => pts_nil) (fun _ _ _ _ _ => (pe_cmp (pc_din (by exact hu) (pe_tup (pa_cons (pe_ix (ix_tupK (K := K) rfl) (pe_ix (ix_listK (K := K) rfl) (pv 1) (pv 4) (fun _ _ => rfl)) pe_int (fun _ _ => rfl)) (pa_cons (pe_ix (ix_tupK (K := K) rfl) (pe_ix (ix_listK (K := K) rfl) (pv 1) (pe_op op_add (pv 4) pe_int) (fun _ _ => rfl)) pe_int (fun _ _ => rfl)) pa_nil))) (pv 3)) (by with_unfolding_all rfl)))) pa_nil))))))), (ys_seq (ys_if (yt_or (yt_not (yt_B (ye_isi ye_var))) (yt_val (ye_op o_eq (ye_cb c_len (ya_cons ye_var ya_nil)) ye_int))) (ys_ret ye_bl) ys_next) (ys_seq (ys_if (yt_not (yt_B (ye_cb c_all (ya_cons (ye_fz (ye_lc (E' := fun _ _ _ => False) (yi_L ye_var) zgw_name yt_yes (ye_fz (ye_call0 (ya_cons ye_var (ya_cons ye_var ya_nil)))))) ya_nil)))) (ys_ret ye_bl) ys_next) (ys_seq (ys_asgO (ye_call (ya_var ya_nil))) (ys_ret (ye_cb c_all (ya_cons (ye_fz (ye_lc (E' := fun _ _ _ => False) (yi_R1 (ya_cons (ye_op o_I (ye_cb c_len (ya_cons ye_var ya_nil)) ye_int) ya_nil)) zgw_name yt_yes (ye_dinO (ye_tup (ya_cons (ye_op o_ixT (ye_op o_ixL ye_var ye_var) ye_int) (ya_cons (ye_op o_ixT (ye_op o_ixL ye_var (ye_op o_I ye_var ye_int)) ye_int) ya_nil)))))) ya_nil))))))⟩
abbrev s_fits_counts : Stmt := topS 26
def F_fits_counts : List PyData → FR := fnY 1 2 none (sRet (eAnd (eIsi "list" (eVar 0)) (eCB gAll (aCons (eFz (eLc (iL (eVar 0)) [1] (gN 1) tYesZ (eCB gIsCount (aCons (eVar 1) aNil)))) aNil))))
theorem f_fits_counts (T : Tb mg) (a : At K mg "fits_counts" s_fits_counts) (c_is_count : Fc P w K mg base "is_count" ["value"] 2 (SpR K R_is_count)) : Fx P w K mg base "fits_counts" ["value"] 3 (SpY K cl none F_fits_counts) := by
  have S : FnScope ["value", "number"] ["value"] (defScope s_fits_counts) := ⟨rfl, rfl, rfl, by decide +kernel, rfl, by decide +kernel, by decide +kernel⟩
  refine fy_mk (m := 1) (O := (fun i => [].contains i)) none a S (fun _ _ _ _ _ _ us hl => match us, hl with | [_], _ => rfl) (by decide) (fun j h => nomatch h) fun f' cdv A outer s H E gu hr tk => ?_
  have hc : (cxOf (L2.CX P w) P w K mg base ["value", "number"] "fits_counts" (defScope s_fits_counts) f' cdv A outer s H E).calm = true := rfl
  have hu64 : (cxOf (L2.CX P w) P w K mg base ["value", "number"] "fits_counts" (defScope s_fits_counts) f' cdv A outer s H E).A.units + 64 < cLine := hr.units
  have hu : (cxOf (L2.CX P w) P w K mg base ["value", "number"] "fits_counts" (defScope s_fits_counts) f' cdv A outer s H E).A.units + 1 < cLine := Nat.lt_of_le_of_lt (Nat.add_le_add_left (by decide) _) hr.units
  have hu2 : (cxOf (L2.CX P w) P w K mg base ["value", "number"] "fits_counts" (defScope s_fits_counts) f' cdv A outer s H E).A.units + 200 < cLine := Nat.lt_of_le_of_lt (Nat.add_le_add_right (Nat.le_add_right _ (16 * 2)) _) hr.un
  have hu65 : (cxOf (L2.CX P w) P w K mg base ["value", "number"] "fits_counts" (defScope s_fits_counts) f' cdv A outer s H E).A.units + 65 < cLine := Nat.lt_of_le_of_lt (Nat.add_le_add_left (by decide) _) hu2
  exact ⟨_, (pss_one (ps_ret (pe_and (pe_callB call_isi (by rfl) T.isinstance (by decide +kernel) (pa_cons (pv 0) (pa_cons (pe_bltn (v := .ty "list") (by rfl) T.list boot_list rfl) pa_nil))) (pe_one (pe_callB (cr_all hc) (by rfl) T.all (by decide +kernel) (pa_cons (pe_lc (own := [("number", 1)]) hc S.nd (pi_list (pv 0)) (blkOk_by (N := ["value", "number"]) (sc := defScope s_fits_counts) (by decide +kernel)) (fun _ _ _ _ _ => (pg_name (i := 1) S.nd rfl (by first | exact Or.inl rfl | exact Or.inr rfl))) (fun _ _ _ _ _ => pts_nil) (fun _ _ _ _ _ => (pe_f c_is_count gu (hr.mono (by decide)) (by rfl) (pa_cons (pv 1) pa_nil)))) pa_nil)))))), (ys_ret (ye_and (ye_isi ye_var) (ye_cb c_all (ya_cons (ye_fz (ye_lc (E' := fun _ _ _ => False) (yi_L ye_var) zgw_name yt_yes (ye_cf gIsCount_ok (ya_cons ye_var ya_nil)))) ya_nil))))⟩
abbrev s_check_house : Stmt := topS 30
def F_check_house : List PyData → FR := fnY 1 1 none (sIf (tNotZ (tVal' (eFz (eCall F_fits_house [.s 0] (aCons (eVar 0) aNil))))) (sRaise 0 0) sNext)
theorem f_check_house (ck : CkY P w K mg base cl) (a : At K mg "check_house" s_check_house) (c_fits_house : Fx P w K mg base "fits_house" ["value"] 9 (SpY K cl none F_fits_house)) : Fx P w K mg base "check_house" ["house"] 10 (SpY K cl none F_check_house) := by
  have S : FnScope ["house"] ["house"] (defScope s_check_house) := ⟨rfl, rfl, rfl, by decide +kernel, rfl, by decide +kernel, by decide +kernel⟩
  refine fy_mk (m := 1) (O := (fun i => [].contains i)) none a S (fun _ _ _ _ _ _ us hl => match us, hl with | [_], _ => rfl) (by decide) (fun j h => nomatch h) fun f' cdv A outer s H E gu hr tk => ?_
  have hc : (cxOf (L2.CX P w) P w K mg base ["house"] "check_house" (defScope s_check_house) f' cdv A outer s H E).calm = true := rfl
  have hu64 : (cxOf (L2.CX P w) P w K mg base ["house"] "check_house" (defScope s_check_house) f' cdv A outer s H E).A.units + 64 < cLine := hr.units
  have hu : (cxOf (L2.CX P w) P w K mg base ["house"] "check_house" (defScope s_check_house) f' cdv A outer s H E).A.units + 1 < cLine := Nat.lt_of_le_of_lt (Nat.add_le_add_left (by decide) _) hr.units
  have hu2 : (cxOf (L2.CX P w) P w K mg base ["house"] "check_house" (defScope s_check_house) f' cdv A outer s H E).A.units + 200 < cLine := Nat.lt_of_le_of_lt (Nat.add_le_add_right (Nat.le_add_right _ (16 * 9)) _) hr.un
  have hu65 : (cxOf (L2.CX P w) P w K mg base ["house"] "check_house" (defScope s_check_house) f' cdv A outer s H E).A.units + 65 < cLine := Nat.lt_of_le_of_lt (Nat.add_le_add_left (by decide) _) hu2
  exact ⟨_, (pss_one (ps_if (pt_not (pt_val (pe_fx c_fits_house gu (hr.mono (by decide)) (by rfl) (fun σ => passAt tk σ) (pa_cons (pv 0) pa_nil)))) (pss_one (ps_rz ck.InvalidHouse hc tk (hr.mono (by decide)) (by rfl) (pa_cons (pv 0) pa_nil))) pss_nil)), (ys_if (yt_not (yt_B (ye_fz (ye_call (ya_var ya_nil))))) ys_raise ys_next)⟩
abbrev s_check_walks : Stmt := topS 31
def F_check_walks : List PyData → FR := fnY 2 2 none (sIf (tNotZ (tVal' (eFz (eCall F_fits_walks [.s 0, .s 1] (aCons (eVar 0) (aCons (eVar 1) aNil)))))) (sRaise 3 1) sNext)
theorem f_check_walks (ck : CkY P w K mg base cl) (a : At K mg "check_walks" s_check_walks) (c_fits_walks : Fx P w K mg base "fits_walks" ["house", "value"] 5 (SpY K cl none F_fits_walks)) : Fx P w K mg base "check_walks" ["house", "walks"] 6 (SpY K cl none F_check_walks) := by
  have S : FnScope ["house", "walks"] ["house", "walks"] (defScope s_check_walks) := ⟨rfl, rfl, rfl, by decide +kernel, rfl, by decide +kernel, by decide +kernel⟩
  refine fy_mk (m := 2) (O := (fun i => [].contains i)) none a S (fun _ _ _ _ _ _ us hl => match us, hl with | [_, _], _ => rfl) (by decide) (fun j h => nomatch h) fun f' cdv A outer s H E gu hr tk => ?_
  have hc : (cxOf (L2.CX P w) P w K mg base ["house", "walks"] "check_walks" (defScope s_check_walks) f' cdv A outer s H E).calm = true := rfl
  have hu64 : (cxOf (L2.CX P w) P w K mg base ["house", "walks"] "check_walks" (defScope s_check_walks) f' cdv A outer s H E).A.units + 64 < cLine := hr.units
  have hu : (cxOf (L2.CX P w) P w K mg base ["house", "walks"] "check_walks" (defScope s_check_walks) f' cdv A outer s H E).A.units + 1 < cLine := Nat.lt_of_le_of_lt (Nat.add_le_add_left (by decide) _) hr.units
  have hu2 : (cxOf (L2.CX P w) P w K mg base ["house", "walks"] "check_walks" (defScope s_check_walks) f' cdv A outer s H E).A.units + 200 < cLine := Nat.lt_of_le_of_lt (Nat.add_le_add_right (Nat.le_add_right _ (16 * 5)) _) hr.un
  have hu65 : (cxOf (L2.CX P w) P w K mg base ["house", "walks"] "check_walks" (defScope s_check_walks) f' cdv A outer s H E).A.units + 65 < cLine := Nat.lt_of_le_of_lt (Nat.add_le_add_left (by decide) _) hu2
  exact ⟨_, (pss_one (ps_if (pt_not (pt_val (pe_fx c_fits_walks gu (hr.mono (by decide)) (by rfl) (fun σ => passAt tk σ) (pa_cons (pv 0) (pa_cons (pv 1) pa_nil))))) (pss_one (ps_rz ck.InvalidWalks hc tk (hr.mono (by decide)) (by rfl) (pa_cons (pv 1) pa_nil))) pss_nil)), (ys_if (yt_not (yt_B (ye_fz (ye_call (ya_var (ya_var ya_nil)))))) ys_raise ys_next)⟩
abbrev s_check_stand : Stmt := topS 32
def F_check_stand : List PyData → FR := fnY 2 2 none (sIf (tNotZ (tVal' (eFz (eCall F_fits_place [.s 0, .s 1] (aCons (eVar 0) (aCons (eVar 1) aNil)))))) (sRaise 1 1) sNext)
theorem f_check_stand (ck : CkY P w K mg base cl) (a : At K mg "check_stand" s_check_stand) (c_fits_place : Fx P w K mg base "fits_place" ["house", "value"] 3 (SpY K cl none F_fits_place)) : Fx P w K mg base "check_stand" ["house", "place"] 4 (SpY K cl none F_check_stand) := by
  have S : FnScope ["house", "place"] ["house", "place"] (defScope s_check_stand) := ⟨rfl, rfl, rfl, by decide +kernel, rfl, by decide +kernel, by decide +kernel⟩
  refine fy_mk (m := 2) (O := (fun i => [].contains i)) none a S (fun _ _ _ _ _ _ us hl => match us, hl with | [_, _], _ => rfl) (by decide) (fun j h => nomatch h) fun f' cdv A outer s H E gu hr tk => ?_
  have hc : (cxOf (L2.CX P w) P w K mg base ["house", "place"] "check_stand" (defScope s_check_stand) f' cdv A outer s H E).calm = true := rfl
  have hu64 : (cxOf (L2.CX P w) P w K mg base ["house", "place"] "check_stand" (defScope s_check_stand) f' cdv A outer s H E).A.units + 64 < cLine := hr.units
  have hu : (cxOf (L2.CX P w) P w K mg base ["house", "place"] "check_stand" (defScope s_check_stand) f' cdv A outer s H E).A.units + 1 < cLine := Nat.lt_of_le_of_lt (Nat.add_le_add_left (by decide) _) hr.units
  have hu2 : (cxOf (L2.CX P w) P w K mg base ["house", "place"] "check_stand" (defScope s_check_stand) f' cdv A outer s H E).A.units + 200 < cLine := Nat.lt_of_le_of_lt (Nat.add_le_add_right (Nat.le_add_right _ (16 * 3)) _) hr.un
  have hu65 : (cxOf (L2.CX P w) P w K mg base ["house", "place"] "check_stand" (defScope s_check_stand) f' cdv A outer s H E).A.units + 65 < cLine := Nat.lt_of_le_of_lt (Nat.add_le_add_left (by decide) _) hu2
  exact ⟨_, (pss_one (ps_if (pt_not (pt_val (pe_fx c_fits_place gu (hr.mono (by decide)) (by rfl) (fun σ => passAt tk σ) (pa_cons (pv 0) (pa_cons (pv 1) pa_nil))))) (pss_one (ps_rz ck.InvalidNumber hc tk (hr.mono (by decide)) (by rfl) (pa_cons (pv 1) pa_nil))) pss_nil)), (ys_if (yt_not (yt_B (ye_fz (ye_call (ya_var (ya_var ya_nil)))))) ys_raise ys_next)⟩
abbrev s_check_tick : Stmt := topS 29
def F_check_tick : List PyData → FR := fnY 2 2 none (sIf (tOrZ (tNotZ (tVal' (eCB gIsCount (aCons (eVar 1) aNil)))) (tVal' (eOp (gB fun i j => decide (j ≤ i)) (eVar 1) (eVar 0)))) (sRaise 1 1) sNext)
theorem f_check_tick (ck : CkY P w K mg base cl) (a : At K mg "check_tick" s_check_tick) (c_is_count : Fc P w K mg base "is_count" ["value"] 2 (SpR K R_is_count)) : Fx P w K mg base "check_tick" ["ticks", "tick"] 3 (SpY K cl none F_check_tick) := by
  have S : FnScope ["ticks", "tick"] ["ticks", "tick"] (defScope s_check_tick) := ⟨rfl, rfl, rfl, by decide +kernel, rfl, by decide +kernel, by decide +kernel⟩
  refine fy_mk (m := 2) (O := (fun i => [].contains i)) none a S (fun _ _ _ _ _ _ us hl => match us, hl with | [_, _], _ => rfl) (by decide) (fun j h => nomatch h) fun f' cdv A outer s H E gu hr tk => ?_
  have hc : (cxOf (L2.CX P w) P w K mg base ["ticks", "tick"] "check_tick" (defScope s_check_tick) f' cdv A outer s H E).calm = true := rfl
  have hu64 : (cxOf (L2.CX P w) P w K mg base ["ticks", "tick"] "check_tick" (defScope s_check_tick) f' cdv A outer s H E).A.units + 64 < cLine := hr.units
  have hu : (cxOf (L2.CX P w) P w K mg base ["ticks", "tick"] "check_tick" (defScope s_check_tick) f' cdv A outer s H E).A.units + 1 < cLine := Nat.lt_of_le_of_lt (Nat.add_le_add_left (by decide) _) hr.units
  have hu2 : (cxOf (L2.CX P w) P w K mg base ["ticks", "tick"] "check_tick" (defScope s_check_tick) f' cdv A outer s H E).A.units + 200 < cLine := Nat.lt_of_le_of_lt (Nat.add_le_add_right (Nat.le_add_right _ (16 * 2)) _) hr.un
  have hu65 : (cxOf (L2.CX P w) P w K mg base ["ticks", "tick"] "check_tick" (defScope s_check_tick) f' cdv A outer s H E).A.units + 65 < cLine := Nat.lt_of_le_of_lt (Nat.add_le_add_left (by decide) _) hu2
  exact ⟨_, (pss_one (ps_if (PW.pt (pw_or (pt_not (pt_val (pe_f c_is_count gu (hr.mono (by decide)) (by rfl) (pa_cons (pv 1) pa_nil)))) (pw_or1 (pt_cmpR op_ge (pv 1) (pv 0) (nomark _))))) (pss_one (ps_rz ck.InvalidNumber hc tk (hr.mono (by decide)) (by rfl) (pa_cons (pv 1) pa_nil))) pss_nil)), (ys_if (yt_or (yt_not (yt_B (ye_cf gIsCount_ok (ya_cons ye_var ya_nil)))) (yt_val (ye_op o_B ye_var ye_var))) ys_raise ys_next)⟩
abbrev s_check_count : Stmt := topS 28
def F_check_count : List PyData → FR := fnY 1 1 none (sIf (tNotZ (tVal' (eCB gIsCount (aCons (eVar 0) aNil)))) (sRaise 1 0) sNext)
theorem f_check_count (ck : CkY P w K mg base cl) (a : At K mg "check_count" s_check_count) (c_is_count : Fc P w K mg base "is_count" ["value"] 2 (SpR K R_is_count)) : Fx P w K mg base "check_count" ["number"] 3 (SpY K cl none F_check_count) := by
  have S : FnScope ["number"] ["number"] (defScope s_check_count) := ⟨rfl, rfl, rfl, by decide +kernel, rfl, by decide +kernel, by decide +kernel⟩
  refine fy_mk (m := 1) (O := (fun i => [].contains i)) none a S (fun _ _ _ _ _ _ us hl => match us, hl with | [_], _ => rfl) (by decide) (fun j h => nomatch h) fun f' cdv A outer s H E gu hr tk => ?_
  have hc : (cxOf (L2.CX P w) P w K mg base ["number"] "check_count" (defScope s_check_count) f' cdv A outer s H E).calm = true := rfl
  have hu64 : (cxOf (L2.CX P w) P w K mg base ["number"] "check_count" (defScope s_check_count) f' cdv A outer s H E).A.units + 64 < cLine := hr.units
  have hu : (cxOf (L2.CX P w) P w K mg base ["number"] "check_count" (defScope s_check_count) f' cdv A outer s H E).A.units + 1 < cLine := Nat.lt_of_le_of_lt (Nat.add_le_add_left (by decide) _) hr.units
  have hu2 : (cxOf (L2.CX P w) P w K mg base ["number"] "check_count" (defScope s_check_count) f' cdv A outer s H E).A.units + 200 < cLine := Nat.lt_of_le_of_lt (Nat.add_le_add_right (Nat.le_add_right _ (16 * 2)) _) hr.un
  have hu65 : (cxOf (L2.CX P w) P w K mg base ["number"] "check_count" (defScope s_check_count) f' cdv A outer s H E).A.units + 65 < cLine := Nat.lt_of_le_of_lt (Nat.add_le_add_left (by decide) _) hu2
  exact ⟨_, (pss_one (ps_if (pt_not (pt_val (pe_f c_is_count gu (hr.mono (by decide)) (by rfl) (pa_cons (pv 0) pa_nil)))) (pss_one (ps_rz ck.InvalidNumber hc tk (hr.mono (by decide)) (by rfl) (pa_cons (pv 0) pa_nil))) pss_nil)), (ys_if (yt_not (yt_B (ye_cf gIsCount_ok (ya_cons ye_var ya_nil)))) ys_raise ys_next)⟩
end
end TD

set_option maxHeartbeats 4000000
namespace TD
open PySem PySem.Spec PyProof.Rows L2
open Evl (Ex)
section
variable {P : Program} {w : World} {K : Fg} {mg : Str → Option Value} {base : Heap} {cl : Nat → Addr}
abbrev s_is_house : Stmt := topS 44
def F_is_house : List PyData → FR := fnY 1 1 none (sRet (eCall F_fits_house [.s 0] (aCons (eVar 0) aNil)))
theorem f_is_house (a : At K mg "is_house" s_is_house) (c_fits_house : Fx P w K mg base "fits_house" ["value"] 9 (SpY K cl none F_fits_house)) : Fx P w K mg base "is_house" ["value"] 10 (SpY K cl none F_is_house) := by
  have S : FnScope ["value"] ["value"] (defScope s_is_house) := ⟨rfl, rfl, rfl, by decide +kernel, rfl, by decide +kernel, by decide +kernel⟩
  refine fy_mk (m := 1) (O := (fun i => [].contains i)) none a S (fun _ _ _ _ _ _ us hl => match us, hl with | [_], _ => rfl) (by decide) (fun j h => nomatch h) fun f' cdv A outer s H E gu hr tk => ?_
  have hc : (cxOf (L2.CX P w) P w K mg base ["value"] "is_house" (defScope s_is_house) f' cdv A outer s H E).calm = true := rfl
  have hu64 : (cxOf (L2.CX P w) P w K mg base ["value"] "is_house" (defScope s_is_house) f' cdv A outer s H E).A.units + 64 < cLine := hr.units
  have hu : (cxOf (L2.CX P w) P w K mg base ["value"] "is_house" (defScope s_is_house) f' cdv A outer s H E).A.units + 1 < cLine := Nat.lt_of_le_of_lt (Nat.add_le_add_left (by decide) _) hr.units
  have hu2 : (cxOf (L2.CX P w) P w K mg base ["value"] "is_house" (defScope s_is_house) f' cdv A outer s H E).A.units + 200 < cLine := Nat.lt_of_le_of_lt (Nat.add_le_add_right (Nat.le_add_right _ (16 * 9)) _) hr.un
  have hu65 : (cxOf (L2.CX P w) P w K mg base ["value"] "is_house" (defScope s_is_house) f' cdv A outer s H E).A.units + 65 < cLine := Nat.lt_of_le_of_lt (Nat.add_le_add_left (by decide) _) hu2
  exact ⟨_, (pss_one (ps_ret (pe_fx c_fits_house gu (hr.mono (by decide)) (by rfl) (fun σ => passAt tk σ) (pa_cons (pv 0) pa_nil)))), (ys_ret (ye_call (ya_var ya_nil)))⟩
abbrev s_is_walk : Stmt := topS 45
def F_is_walk : List PyData → FR := fnY 2 2 none (sSeq (sDrop (eFz (eCall F_check_house [.s 0] (aCons (eVar 0) aNil)))) (sRet (eCall F_fits_walk [.s 0, .s 1] (aCons (eVar 0) (aCons (eVar 1) aNil)))))
theorem f_is_walk (a : At K mg "is_walk" s_is_walk) (c_check_house : Fx P w K mg base "check_house" ["house"] 10 (SpY K cl none F_check_house)) (c_fits_walk : Fx P w K mg base "fits_walk" ["house", "value"] 4 (SpY K cl none F_fits_walk)) : Fx P w K mg base "is_walk" ["house", "value"] 11 (SpY K cl none F_is_walk) := by
  have S : FnScope ["house", "value"] ["house", "value"] (defScope s_is_walk) := ⟨rfl, rfl, rfl, by decide +kernel, rfl, by decide +kernel, by decide +kernel⟩
  refine fy_mk (m := 2) (O := (fun i => [].contains i)) none a S (fun _ _ _ _ _ _ us hl => match us, hl with | [_, _], _ => rfl) (by decide) (fun j h => nomatch h) fun f' cdv A outer s H E gu hr tk => ?_
  have hc : (cxOf (L2.CX P w) P w K mg base ["house", "value"] "is_walk" (defScope s_is_walk) f' cdv A outer s H E).calm = true := rfl
  have hu64 : (cxOf (L2.CX P w) P w K mg base ["house", "value"] "is_walk" (defScope s_is_walk) f' cdv A outer s H E).A.units + 64 < cLine := hr.units
  have hu : (cxOf (L2.CX P w) P w K mg base ["house", "value"] "is_walk" (defScope s_is_walk) f' cdv A outer s H E).A.units + 1 < cLine := Nat.lt_of_le_of_lt (Nat.add_le_add_left (by decide) _) hr.units
  have hu2 : (cxOf (L2.CX P w) P w K mg base ["house", "value"] "is_walk" (defScope s_is_walk) f' cdv A outer s H E).A.units + 200 < cLine := Nat.lt_of_le_of_lt (Nat.add_le_add_right (Nat.le_add_right _ (16 * 10)) _) hr.un
  have hu65 : (cxOf (L2.CX P w) P w K mg base ["house", "value"] "is_walk" (defScope s_is_walk) f' cdv A outer s H E).A.units + 65 < cLine := Nat.lt_of_le_of_lt (Nat.add_le_add_left (by decide) _) hu2
  exact ⟨_, (pss_cons (ps_expr (pe_fx c_check_house gu (hr.mono (by decide)) (by rfl) (fun σ => passAt tk σ) (pa_cons (pv 0) pa_nil)))
  (pss_one (ps_ret (pe_fx c_fits_walk gu (hr.mono (by decide)) (by rfl) (fun σ => passAt tk σ) (pa_cons (pv 0) (pa_cons (pv 1) pa_nil)))))), (ys_seq (ys_drop (ye_fz (ye_call (ya_var ya_nil)))) (ys_ret (ye_call (ya_var (ya_var ya_nil)))))⟩
abbrev s_pressed_by : Stmt := topS 48
def F_pressed_by : List PyData → FR := fnY 2 2 none (sSeq (sDrop (eFz (eCall F_check_house [.s 0] (aCons (eVar 0) aNil)))) (sSeq (sDrop (eFz (eCall F_check_walks [.s 0, .s 1] (aCons (eVar 0) (aCons (eVar 1) aNil))))) sNo))
theorem f_pressed_by (a : At K mg "pressed_by" s_pressed_by) (c_check_house : Fx P w K mg base "check_house" ["house"] 10 (SpY K cl none F_check_house)) (c_check_walks : Fx P w K mg base "check_walks" ["house", "walks"] 6 (SpY K cl none F_check_walks)) : Fx P w K mg base "pressed_by" ["house", "walks"] 11 (SpY K cl none F_pressed_by) := by
  have S : FnScope ["house", "walks"] ["house", "walks"] (defScope s_pressed_by) := ⟨rfl, rfl, rfl, by decide +kernel, rfl, by decide +kernel, by decide +kernel⟩
  refine fy_mk (m := 2) (O := (fun i => [].contains i)) none a S (fun _ _ _ _ _ _ us hl => match us, hl with | [_, _], _ => rfl) (by decide) (fun j h => nomatch h) fun f' cdv A outer s H E gu hr tk => ?_
  have hc : (cxOf (L2.CX P w) P w K mg base ["house", "walks"] "pressed_by" (defScope s_pressed_by) f' cdv A outer s H E).calm = true := rfl
  have hu64 : (cxOf (L2.CX P w) P w K mg base ["house", "walks"] "pressed_by" (defScope s_pressed_by) f' cdv A outer s H E).A.units + 64 < cLine := hr.units
  have hu : (cxOf (L2.CX P w) P w K mg base ["house", "walks"] "pressed_by" (defScope s_pressed_by) f' cdv A outer s H E).A.units + 1 < cLine := Nat.lt_of_le_of_lt (Nat.add_le_add_left (by decide) _) hr.units
  have hu2 : (cxOf (L2.CX P w) P w K mg base ["house", "walks"] "pressed_by" (defScope s_pressed_by) f' cdv A outer s H E).A.units + 200 < cLine := Nat.lt_of_le_of_lt (Nat.add_le_add_right (Nat.le_add_right _ (16 * 10)) _) hr.un
  have hu65 : (cxOf (L2.CX P w) P w K mg base ["house", "walks"] "pressed_by" (defScope s_pressed_by) f' cdv A outer s H E).A.units + 65 < cLine := Nat.lt_of_le_of_lt (Nat.add_le_add_left (by decide) _) hu2
  exact ⟨_, (pss_cons (ps_expr (pe_fx c_check_house gu (hr.mono (by decide)) (by rfl) (fun σ => passAt tk σ) (pa_cons (pv 0) pa_nil)))
  (pss_cons (ps_expr (pe_fx c_check_walks gu (hr.mono (by decide)) (by rfl) (fun σ => passAt tk σ) (pa_cons (pv 0) (pa_cons (pv 1) pa_nil))))
  (pss_one ps_no))), (ys_seq (ys_drop (ye_fz (ye_call (ya_var ya_nil)))) (ys_seq (ys_drop (ye_fz (ye_call (ya_var (ya_var ya_nil))))) ys_no))⟩
abbrev s_hands_light : Stmt := topS 51
def F_hands_light : List PyData → FR := fnY 2 3 none (sSeq (sDrop (eFz (eCall F_check_house [.s 0] (aCons (eVar 0) aNil)))) (sSeq (sDrop (eFz (eCall F_check_walks [.s 0, .s 1] (aCons (eVar 0) (aCons (eVar 1) aNil))))) sNo))
theorem f_hands_light (a : At K mg "hands_light" s_hands_light) (c_check_house : Fx P w K mg base "check_house" ["house"] 10 (SpY K cl none F_check_house)) (c_check_walks : Fx P w K mg base "check_walks" ["house", "walks"] 6 (SpY K cl none F_check_walks)) : Fx P w K mg base "hands_light" ["house", "walks"] 11 (SpY K cl none F_hands_light) := by
  have S : FnScope ["house", "walks", "mask"] ["house", "walks"] (defScope s_hands_light) := ⟨rfl, rfl, rfl, by decide +kernel, rfl, by decide +kernel, by decide +kernel⟩
  refine fy_mk (m := 2) (O := (fun i => [].contains i)) none a S (fun _ _ _ _ _ _ us hl => match us, hl with | [_, _], _ => rfl) (by decide) (fun j h => nomatch h) fun f' cdv A outer s H E gu hr tk => ?_
  have hc : (cxOf (L2.CX P w) P w K mg base ["house", "walks", "mask"] "hands_light" (defScope s_hands_light) f' cdv A outer s H E).calm = true := rfl
  have hu64 : (cxOf (L2.CX P w) P w K mg base ["house", "walks", "mask"] "hands_light" (defScope s_hands_light) f' cdv A outer s H E).A.units + 64 < cLine := hr.units
  have hu : (cxOf (L2.CX P w) P w K mg base ["house", "walks", "mask"] "hands_light" (defScope s_hands_light) f' cdv A outer s H E).A.units + 1 < cLine := Nat.lt_of_le_of_lt (Nat.add_le_add_left (by decide) _) hr.units
  have hu2 : (cxOf (L2.CX P w) P w K mg base ["house", "walks", "mask"] "hands_light" (defScope s_hands_light) f' cdv A outer s H E).A.units + 200 < cLine := Nat.lt_of_le_of_lt (Nat.add_le_add_right (Nat.le_add_right _ (16 * 10)) _) hr.un
  have hu65 : (cxOf (L2.CX P w) P w K mg base ["house", "walks", "mask"] "hands_light" (defScope s_hands_light) f' cdv A outer s H E).A.units + 65 < cLine := Nat.lt_of_le_of_lt (Nat.add_le_add_left (by decide) _) hu2
  exact ⟨_, (pss_cons (ps_expr (pe_fx c_check_house gu (hr.mono (by decide)) (by rfl) (fun σ => passAt tk σ) (pa_cons (pv 0) pa_nil)))
  (pss_cons (ps_expr (pe_fx c_check_walks gu (hr.mono (by decide)) (by rfl) (fun σ => passAt tk σ) (pa_cons (pv 0) (pa_cons (pv 1) pa_nil))))
  (pss_one ps_no))), (ys_seq (ys_drop (ye_fz (ye_call (ya_var ya_nil)))) (ys_seq (ys_drop (ye_fz (ye_call (ya_var (ya_var ya_nil))))) ys_no))⟩
abbrev s_first_shut : Stmt := topS 80
def F_first_shut : List PyData → FR := fnY 2 3 none (sSeq (sDrop (eFz (eCall F_check_house [.s 0] (aCons (eVar 0) aNil)))) (sSeq (sDrop (eFz (eCall F_check_walks [.s 0, .s 1] (aCons (eVar 0) (aCons (eVar 1) aNil))))) (sSeq sNo sNo)))
theorem f_first_shut (a : At K mg "first_shut" s_first_shut) (c_check_house : Fx P w K mg base "check_house" ["house"] 10 (SpY K cl none F_check_house)) (c_check_walks : Fx P w K mg base "check_walks" ["house", "walks"] 6 (SpY K cl none F_check_walks)) : Fx P w K mg base "first_shut" ["house", "walks"] 11 (SpY K cl none F_first_shut) := by
  have S : FnScope ["house", "walks", "shut"] ["house", "walks"] (defScope s_first_shut) := ⟨rfl, rfl, rfl, by decide +kernel, rfl, by decide +kernel, by decide +kernel⟩
  refine fy_mk (m := 2) (O := (fun i => [].contains i)) none a S (fun _ _ _ _ _ _ us hl => match us, hl with | [_, _], _ => rfl) (by decide) (fun j h => nomatch h) fun f' cdv A outer s H E gu hr tk => ?_
  have hc : (cxOf (L2.CX P w) P w K mg base ["house", "walks", "shut"] "first_shut" (defScope s_first_shut) f' cdv A outer s H E).calm = true := rfl
  have hu64 : (cxOf (L2.CX P w) P w K mg base ["house", "walks", "shut"] "first_shut" (defScope s_first_shut) f' cdv A outer s H E).A.units + 64 < cLine := hr.units
  have hu : (cxOf (L2.CX P w) P w K mg base ["house", "walks", "shut"] "first_shut" (defScope s_first_shut) f' cdv A outer s H E).A.units + 1 < cLine := Nat.lt_of_le_of_lt (Nat.add_le_add_left (by decide) _) hr.units
  have hu2 : (cxOf (L2.CX P w) P w K mg base ["house", "walks", "shut"] "first_shut" (defScope s_first_shut) f' cdv A outer s H E).A.units + 200 < cLine := Nat.lt_of_le_of_lt (Nat.add_le_add_right (Nat.le_add_right _ (16 * 10)) _) hr.un
  have hu65 : (cxOf (L2.CX P w) P w K mg base ["house", "walks", "shut"] "first_shut" (defScope s_first_shut) f' cdv A outer s H E).A.units + 65 < cLine := Nat.lt_of_le_of_lt (Nat.add_le_add_left (by decide) _) hu2
  exact ⟨_, (pss_cons (ps_expr (pe_fx c_check_house gu (hr.mono (by decide)) (by rfl) (fun σ => passAt tk σ) (pa_cons (pv 0) pa_nil)))
  (pss_cons (ps_expr (pe_fx c_check_walks gu (hr.mono (by decide)) (by rfl) (fun σ => passAt tk σ) (pa_cons (pv 0) (pa_cons (pv 1) pa_nil))))
  (pss_cons ps_no
  (pss_one ps_no)))), (ys_seq (ys_drop (ye_fz (ye_call (ya_var ya_nil)))) (ys_seq (ys_drop (ye_fz (ye_call (ya_var (ya_var ya_nil))))) (ys_seq ys_no ys_no)))⟩
abbrev s_greatest_playable : Stmt := topS 83
def F_greatest_playable : List PyData → FR := fnY 2 4 none (sSeq (sDrop (eFz (eCall F_check_house [.s 0] (aCons (eVar 0) aNil)))) (sSeq (sDrop (eFz (eCall F_check_walks [.s 0, .s 1] (aCons (eVar 0) (aCons (eVar 1) aNil))))) (sSeq sNo sNo)))
theorem f_greatest_playable (a : At K mg "greatest_playable" s_greatest_playable) (c_check_house : Fx P w K mg base "check_house" ["house"] 10 (SpY K cl none F_check_house)) (c_check_walks : Fx P w K mg base "check_walks" ["house", "walks"] 6 (SpY K cl none F_check_walks)) : Fx P w K mg base "greatest_playable" ["house", "walks"] 11 (SpY K cl none F_greatest_playable) := by
  have S : FnScope ["house", "walks", "left", "_"] ["house", "walks"] (defScope s_greatest_playable) := ⟨rfl, rfl, rfl, by decide +kernel, rfl, by decide +kernel, by decide +kernel⟩
  refine fy_mk (m := 2) (O := (fun i => [].contains i)) none a S (fun _ _ _ _ _ _ us hl => match us, hl with | [_, _], _ => rfl) (by decide) (fun j h => nomatch h) fun f' cdv A outer s H E gu hr tk => ?_
  have hc : (cxOf (L2.CX P w) P w K mg base ["house", "walks", "left", "_"] "greatest_playable" (defScope s_greatest_playable) f' cdv A outer s H E).calm = true := rfl
  have hu64 : (cxOf (L2.CX P w) P w K mg base ["house", "walks", "left", "_"] "greatest_playable" (defScope s_greatest_playable) f' cdv A outer s H E).A.units + 64 < cLine := hr.units
  have hu : (cxOf (L2.CX P w) P w K mg base ["house", "walks", "left", "_"] "greatest_playable" (defScope s_greatest_playable) f' cdv A outer s H E).A.units + 1 < cLine := Nat.lt_of_le_of_lt (Nat.add_le_add_left (by decide) _) hr.units
  have hu2 : (cxOf (L2.CX P w) P w K mg base ["house", "walks", "left", "_"] "greatest_playable" (defScope s_greatest_playable) f' cdv A outer s H E).A.units + 200 < cLine := Nat.lt_of_le_of_lt (Nat.add_le_add_right (Nat.le_add_right _ (16 * 10)) _) hr.un
  have hu65 : (cxOf (L2.CX P w) P w K mg base ["house", "walks", "left", "_"] "greatest_playable" (defScope s_greatest_playable) f' cdv A outer s H E).A.units + 65 < cLine := Nat.lt_of_le_of_lt (Nat.add_le_add_left (by decide) _) hu2
  exact ⟨_, (pss_cons (ps_expr (pe_fx c_check_house gu (hr.mono (by decide)) (by rfl) (fun σ => passAt tk σ) (pa_cons (pv 0) pa_nil)))
  (pss_cons (ps_expr (pe_fx c_check_walks gu (hr.mono (by decide)) (by rfl) (fun σ => passAt tk σ) (pa_cons (pv 0) (pa_cons (pv 1) pa_nil))))
  (pss_cons ps_no
  (pss_one ps_no)))), (ys_seq (ys_drop (ye_fz (ye_call (ya_var ya_nil)))) (ys_seq (ys_drop (ye_fz (ye_call (ya_var (ya_var ya_nil))))) (ys_seq ys_no ys_no)))⟩
abbrev s_why_unplayable : Stmt := topS 84
def F_why_unplayable : List PyData → FR := fnY 2 4 none (sSeq (sDrop (eFz (eCall F_check_house [.s 0] (aCons (eVar 0) aNil)))) (sSeq (sDrop (eFz (eCall F_check_walks [.s 0, .s 1] (aCons (eVar 0) (aCons (eVar 1) aNil))))) (sSeq sNo sNo)))
theorem f_why_unplayable (a : At K mg "why_unplayable" s_why_unplayable) (c_check_house : Fx P w K mg base "check_house" ["house"] 10 (SpY K cl none F_check_house)) (c_check_walks : Fx P w K mg base "check_walks" ["house", "walks"] 6 (SpY K cl none F_check_walks)) : Fx P w K mg base "why_unplayable" ["house", "walks"] 11 (SpY K cl none F_why_unplayable) := by
  have S : FnScope ["house", "walks", "_", "rounds"] ["house", "walks"] (defScope s_why_unplayable) := ⟨rfl, rfl, rfl, by decide +kernel, rfl, by decide +kernel, by decide +kernel⟩
  refine fy_mk (m := 2) (O := (fun i => [].contains i)) none a S (fun _ _ _ _ _ _ us hl => match us, hl with | [_, _], _ => rfl) (by decide) (fun j h => nomatch h) fun f' cdv A outer s H E gu hr tk => ?_
  have hc : (cxOf (L2.CX P w) P w K mg base ["house", "walks", "_", "rounds"] "why_unplayable" (defScope s_why_unplayable) f' cdv A outer s H E).calm = true := rfl
  have hu64 : (cxOf (L2.CX P w) P w K mg base ["house", "walks", "_", "rounds"] "why_unplayable" (defScope s_why_unplayable) f' cdv A outer s H E).A.units + 64 < cLine := hr.units
  have hu : (cxOf (L2.CX P w) P w K mg base ["house", "walks", "_", "rounds"] "why_unplayable" (defScope s_why_unplayable) f' cdv A outer s H E).A.units + 1 < cLine := Nat.lt_of_le_of_lt (Nat.add_le_add_left (by decide) _) hr.units
  have hu2 : (cxOf (L2.CX P w) P w K mg base ["house", "walks", "_", "rounds"] "why_unplayable" (defScope s_why_unplayable) f' cdv A outer s H E).A.units + 200 < cLine := Nat.lt_of_le_of_lt (Nat.add_le_add_right (Nat.le_add_right _ (16 * 10)) _) hr.un
  have hu65 : (cxOf (L2.CX P w) P w K mg base ["house", "walks", "_", "rounds"] "why_unplayable" (defScope s_why_unplayable) f' cdv A outer s H E).A.units + 65 < cLine := Nat.lt_of_le_of_lt (Nat.add_le_add_left (by decide) _) hu2
  exact ⟨_, (pss_cons (ps_expr (pe_fx c_check_house gu (hr.mono (by decide)) (by rfl) (fun σ => passAt tk σ) (pa_cons (pv 0) pa_nil)))
  (pss_cons (ps_expr (pe_fx c_check_walks gu (hr.mono (by decide)) (by rfl) (fun σ => passAt tk σ) (pa_cons (pv 0) (pa_cons (pv 1) pa_nil))))
  (pss_cons ps_no
  (pss_one ps_no)))), (ys_seq (ys_drop (ye_fz (ye_call (ya_var ya_nil)))) (ys_seq (ys_drop (ye_fz (ye_call (ya_var (ya_var ya_nil))))) (ys_seq ys_no ys_no)))⟩
abbrev s_debts : Stmt := topS 91
def F_debts : List PyData → FR := fnY 2 8 none (sSeq (sDrop (eFz (eCall F_check_house [.s 0] (aCons (eVar 0) aNil)))) (sSeq (sDrop (eFz (eCall F_check_walks [.s 0, .s 1] (aCons (eVar 0) (aCons (eVar 1) aNil))))) (sSeq sNo (sSeq sNo (sSeq sNo sNo)))))
theorem f_debts (a : At K mg "debts" s_debts) (c_check_house : Fx P w K mg base "check_house" ["house"] 10 (SpY K cl none F_check_house)) (c_check_walks : Fx P w K mg base "check_walks" ["house", "walks"] 6 (SpY K cl none F_check_walks)) : Fx P w K mg base "debts" ["house", "walks"] 11 (SpY K cl none F_debts) := by
  have S : FnScope ["house", "walks", "lights", "owed", "number", "walk", "tick", "many"] ["house", "walks"] (defScope s_debts) := ⟨rfl, rfl, rfl, by decide +kernel, rfl, by decide +kernel, by decide +kernel⟩
  refine fy_mk (m := 2) (O := (fun i => [3].contains i)) none a S (fun _ _ _ _ _ _ us hl => match us, hl with | [_, _], _ => rfl) (by decide) (fun j h => nomatch h) fun f' cdv A outer s H E gu hr tk => ?_
  have hc : (cxOf (L2.CX P w) P w K mg base ["house", "walks", "lights", "owed", "number", "walk", "tick", "many"] "debts" (defScope s_debts) f' cdv A outer s H E).calm = true := rfl
  have hu64 : (cxOf (L2.CX P w) P w K mg base ["house", "walks", "lights", "owed", "number", "walk", "tick", "many"] "debts" (defScope s_debts) f' cdv A outer s H E).A.units + 64 < cLine := hr.units
  have hu : (cxOf (L2.CX P w) P w K mg base ["house", "walks", "lights", "owed", "number", "walk", "tick", "many"] "debts" (defScope s_debts) f' cdv A outer s H E).A.units + 1 < cLine := Nat.lt_of_le_of_lt (Nat.add_le_add_left (by decide) _) hr.units
  have hu2 : (cxOf (L2.CX P w) P w K mg base ["house", "walks", "lights", "owed", "number", "walk", "tick", "many"] "debts" (defScope s_debts) f' cdv A outer s H E).A.units + 200 < cLine := Nat.lt_of_le_of_lt (Nat.add_le_add_right (Nat.le_add_right _ (16 * 10)) _) hr.un
  have hu65 : (cxOf (L2.CX P w) P w K mg base ["house", "walks", "lights", "owed", "number", "walk", "tick", "many"] "debts" (defScope s_debts) f' cdv A outer s H E).A.units + 65 < cLine := Nat.lt_of_le_of_lt (Nat.add_le_add_left (by decide) _) hu2
  exact ⟨_, (pss_cons (ps_expr (pe_fx c_check_house gu (hr.mono (by decide)) (by rfl) (fun σ => passAt tk σ) (pa_cons (pv 0) pa_nil)))
  (pss_cons (ps_expr (pe_fx c_check_walks gu (hr.mono (by decide)) (by rfl) (fun σ => passAt tk σ) (pa_cons (pv 0) (pa_cons (pv 1) pa_nil))))
  (pss_cons ps_no
  (pss_cons ps_no
  (pss_cons ps_no
  (pss_one ps_no)))))), (ys_seq (ys_drop (ye_fz (ye_call (ya_var ya_nil)))) (ys_seq (ys_drop (ye_fz (ye_call (ya_var (ya_var ya_nil))))) (ys_seq ys_no (ys_seq ys_no (ys_seq ys_no ys_no)))))⟩
abbrev s_are_stays : Stmt := topS 93
def F_are_stays : List PyData → FR := fnY 2 2 none (sSeq (sDrop (eFz (eCall F_check_house [.s 0] (aCons (eVar 0) aNil)))) (sRet (eCall F_fits_stays [.s 0, .s 1] (aCons (eVar 0) (aCons (eVar 1) aNil)))))
theorem f_are_stays (a : At K mg "are_stays" s_are_stays) (c_check_house : Fx P w K mg base "check_house" ["house"] 10 (SpY K cl none F_check_house)) (c_fits_stays : Fx P w K mg base "fits_stays" ["house", "value"] 5 (SpY K cl none F_fits_stays)) : Fx P w K mg base "are_stays" ["house", "value"] 11 (SpY K cl none F_are_stays) := by
  have S : FnScope ["house", "value"] ["house", "value"] (defScope s_are_stays) := ⟨rfl, rfl, rfl, by decide +kernel, rfl, by decide +kernel, by decide +kernel⟩
  refine fy_mk (m := 2) (O := (fun i => [].contains i)) none a S (fun _ _ _ _ _ _ us hl => match us, hl with | [_, _], _ => rfl) (by decide) (fun j h => nomatch h) fun f' cdv A outer s H E gu hr tk => ?_
  have hc : (cxOf (L2.CX P w) P w K mg base ["house", "value"] "are_stays" (defScope s_are_stays) f' cdv A outer s H E).calm = true := rfl
  have hu64 : (cxOf (L2.CX P w) P w K mg base ["house", "value"] "are_stays" (defScope s_are_stays) f' cdv A outer s H E).A.units + 64 < cLine := hr.units
  have hu : (cxOf (L2.CX P w) P w K mg base ["house", "value"] "are_stays" (defScope s_are_stays) f' cdv A outer s H E).A.units + 1 < cLine := Nat.lt_of_le_of_lt (Nat.add_le_add_left (by decide) _) hr.units
  have hu2 : (cxOf (L2.CX P w) P w K mg base ["house", "value"] "are_stays" (defScope s_are_stays) f' cdv A outer s H E).A.units + 200 < cLine := Nat.lt_of_le_of_lt (Nat.add_le_add_right (Nat.le_add_right _ (16 * 10)) _) hr.un
  have hu65 : (cxOf (L2.CX P w) P w K mg base ["house", "value"] "are_stays" (defScope s_are_stays) f' cdv A outer s H E).A.units + 65 < cLine := Nat.lt_of_le_of_lt (Nat.add_le_add_left (by decide) _) hu2
  exact ⟨_, (pss_cons (ps_expr (pe_fx c_check_house gu (hr.mono (by decide)) (by rfl) (fun σ => passAt tk σ) (pa_cons (pv 0) pa_nil)))
  (pss_one (ps_ret (pe_fx c_fits_stays gu (hr.mono (by decide)) (by rfl) (fun σ => passAt tk σ) (pa_cons (pv 0) (pa_cons (pv 1) pa_nil)))))), (ys_seq (ys_drop (ye_fz (ye_call (ya_var ya_nil)))) (ys_ret (ye_call (ya_var (ya_var ya_nil)))))⟩
abbrev s_far_steps : Stmt := topS 94
def F_far_steps : List PyData → FR := fnY 2 17 none (sSeq (sDrop (eFz (eCall F_check_house [.s 0] (aCons (eVar 0) aNil)))) (sSeq (sIf (tNotZ (tVal' (eFz (eCall F_fits_stays [.s 0, .s 1] (aCons (eVar 0) (aCons (eVar 1) aNil)))))) (sRaise 2 1) sNext) (sSeq (sAsg (eVar 0) (gT [(gN 2), (gN 3), (gN 4)])) (sSeq sNo (sSeq sNo (sSeq sNo (sSeq sNo (sSeq sNo (sSeq sNo (sSeq sNo sNo))))))))))
theorem f_far_steps (ck : CkY P w K mg base cl) (a : At K mg "far_steps" s_far_steps) (c_check_house : Fx P w K mg base "check_house" ["house"] 10 (SpY K cl none F_check_house)) (c_fits_stays : Fx P w K mg base "fits_stays" ["house", "value"] 5 (SpY K cl none F_fits_stays)) : Fx P w K mg base "far_steps" ["house", "stays"] 11 (SpY K cl none F_far_steps) := by
  have S : FnScope ["house", "stays", "level", "plates", "_", "machine", "place", "pressed", "mask", "many", "tables", "rests", "front", "told", "at", "ahead", "lit"] ["house", "stays"] (defScope s_far_steps) := ⟨rfl, rfl, rfl, by decide +kernel, rfl, by decide +kernel, by decide +kernel⟩
  refine fy_mk (m := 2) (O := (fun i => [13].contains i)) none a S (fun _ _ _ _ _ _ us hl => match us, hl with | [_, _], _ => rfl) (by decide) (fun j h => nomatch h) fun f' cdv A outer s H E gu hr tk => ?_
  have hc : (cxOf (L2.CX P w) P w K mg base ["house", "stays", "level", "plates", "_", "machine", "place", "pressed", "mask", "many", "tables", "rests", "front", "told", "at", "ahead", "lit"] "far_steps" (defScope s_far_steps) f' cdv A outer s H E).calm = true := rfl
  have hu64 : (cxOf (L2.CX P w) P w K mg base ["house", "stays", "level", "plates", "_", "machine", "place", "pressed", "mask", "many", "tables", "rests", "front", "told", "at", "ahead", "lit"] "far_steps" (defScope s_far_steps) f' cdv A outer s H E).A.units + 64 < cLine := hr.units
  have hu : (cxOf (L2.CX P w) P w K mg base ["house", "stays", "level", "plates", "_", "machine", "place", "pressed", "mask", "many", "tables", "rests", "front", "told", "at", "ahead", "lit"] "far_steps" (defScope s_far_steps) f' cdv A outer s H E).A.units + 1 < cLine := Nat.lt_of_le_of_lt (Nat.add_le_add_left (by decide) _) hr.units
  have hu2 : (cxOf (L2.CX P w) P w K mg base ["house", "stays", "level", "plates", "_", "machine", "place", "pressed", "mask", "many", "tables", "rests", "front", "told", "at", "ahead", "lit"] "far_steps" (defScope s_far_steps) f' cdv A outer s H E).A.units + 200 < cLine := Nat.lt_of_le_of_lt (Nat.add_le_add_right (Nat.le_add_right _ (16 * 10)) _) hr.un
  have hu65 : (cxOf (L2.CX P w) P w K mg base ["house", "stays", "level", "plates", "_", "machine", "place", "pressed", "mask", "many", "tables", "rests", "front", "told", "at", "ahead", "lit"] "far_steps" (defScope s_far_steps) f' cdv A outer s H E).A.units + 65 < cLine := Nat.lt_of_le_of_lt (Nat.add_le_add_left (by decide) _) hu2
  exact ⟨_, (pss_cons (ps_expr (pe_fx c_check_house gu (hr.mono (by decide)) (by rfl) (fun σ => passAt tk σ) (pa_cons (pv 0) pa_nil)))
  (pss_cons (ps_if (pt_not (pt_val (pe_fx c_fits_stays gu (hr.mono (by decide)) (by rfl) (fun σ => passAt tk σ) (pa_cons (pv 0) (pa_cons (pv 1) pa_nil))))) (pss_one (ps_rz ck.InvalidWalk hc tk (hr.mono (by decide)) (by rfl) (pa_cons (pv 1) pa_nil))) pss_nil)
  (pss_cons (ps_asg (pv 0) (pg_tup hc (pgs_cons (pg_name (i := 2) S.nd rfl (by first | exact Or.inl rfl | exact Or.inr rfl)) (pgs_cons (pg_name (i := 3) S.nd rfl (by first | exact Or.inl rfl | exact Or.inr rfl)) (pgs_cons (pg_name (i := 4) S.nd rfl (by first | exact Or.inl rfl | exact Or.inr rfl)) pgs_nil)))))
  (pss_cons ps_no
  (pss_cons ps_no
  (pss_cons ps_no
  (pss_cons ps_no
  (pss_cons ps_no
  (pss_cons ps_no
  (pss_cons ps_no
  (pss_one ps_no))))))))))), (ys_seq (ys_drop (ye_fz (ye_call (ya_var ya_nil)))) (ys_seq (ys_if (yt_not (yt_B (ye_fz (ye_call (ya_var (ya_var ya_nil)))))) ys_raise ys_next) (ys_seq (ys_asg ye_var (zg_tup (zgs_cons zg_name (zgs_cons zg_name (zgs_cons zg_name zgs_nil))))) (ys_seq ys_no (ys_seq ys_no (ys_seq ys_no (ys_seq ys_no (ys_seq ys_no (ys_seq ys_no (ys_seq ys_no ys_no))))))))))⟩
abbrev s_earned : Stmt := topS 85
def F_earned : List PyData → FR := fnY 2 5 none (sSeq (sDrop (eFz (eCall F_check_house [.s 0] (aCons (eVar 0) aNil)))) (sSeq (sDrop (eFz (eCall F_check_walks [.s 0, .s 1] (aCons (eVar 0) (aCons (eVar 1) aNil))))) (sSeq (sAsg (eFz (eLc (iL (eVar 1)) [2] (gN 2) tYesZ (eC (.int 1)))) (gN 3)) (sSeq sNo (sSeq sNo sNo)))))
theorem f_earned (a : At K mg "earned" s_earned) (c_check_house : Fx P w K mg base "check_house" ["house"] 10 (SpY K cl none F_check_house)) (c_check_walks : Fx P w K mg base "check_walks" ["house", "walks"] 6 (SpY K cl none F_check_walks)) : Fx P w K mg base "earned" ["house", "walks"] 11 (SpY K cl none F_earned) := by
  have S : FnScope ["house", "walks", "_", "come", "further"] ["house", "walks"] (defScope s_earned) := ⟨rfl, rfl, rfl, by decide +kernel, rfl, by decide +kernel, by decide +kernel⟩
  refine fy_mk (m := 2) (O := (fun i => [].contains i)) none a S (fun _ _ _ _ _ _ us hl => match us, hl with | [_, _], _ => rfl) (by decide) (fun j h => nomatch h) fun f' cdv A outer s H E gu hr tk => ?_
  have hc : (cxOf (L2.CX P w) P w K mg base ["house", "walks", "_", "come", "further"] "earned" (defScope s_earned) f' cdv A outer s H E).calm = true := rfl
  have hu64 : (cxOf (L2.CX P w) P w K mg base ["house", "walks", "_", "come", "further"] "earned" (defScope s_earned) f' cdv A outer s H E).A.units + 64 < cLine := hr.units
  have hu : (cxOf (L2.CX P w) P w K mg base ["house", "walks", "_", "come", "further"] "earned" (defScope s_earned) f' cdv A outer s H E).A.units + 1 < cLine := Nat.lt_of_le_of_lt (Nat.add_le_add_left (by decide) _) hr.units
  have hu2 : (cxOf (L2.CX P w) P w K mg base ["house", "walks", "_", "come", "further"] "earned" (defScope s_earned) f' cdv A outer s H E).A.units + 200 < cLine := Nat.lt_of_le_of_lt (Nat.add_le_add_right (Nat.le_add_right _ (16 * 10)) _) hr.un
  have hu65 : (cxOf (L2.CX P w) P w K mg base ["house", "walks", "_", "come", "further"] "earned" (defScope s_earned) f' cdv A outer s H E).A.units + 65 < cLine := Nat.lt_of_le_of_lt (Nat.add_le_add_left (by decide) _) hu2
  exact ⟨_, (pss_cons (ps_expr (pe_fx c_check_house gu (hr.mono (by decide)) (by rfl) (fun σ => passAt tk σ) (pa_cons (pv 0) pa_nil)))
  (pss_cons (ps_expr (pe_fx c_check_walks gu (hr.mono (by decide)) (by rfl) (fun σ => passAt tk σ) (pa_cons (pv 0) (pa_cons (pv 1) pa_nil))))
  (pss_cons (ps_setLc (i := 3) (own := [("_", 2)]) hc S.nd rfl rfl (sw_true rfl rfl rfl (by decide +kernel)) (pi_list (pv 1)) (blkOk_by (N := ["house", "walks", "_", "come", "further"]) (sc := defScope s_earned) (by decide +kernel)) (fun _ _ _ _ _ => (pg_name (i := 2) S.nd rfl (by first | exact Or.inl rfl | exact Or.inr rfl))) (fun _ _ _ _ _ => pts_nil) (fun _ _ _ _ _ => pe_int))
  (pss_cons ps_no
  (pss_cons ps_no
  (pss_one ps_no)))))), (ys_seq (ys_drop (ye_fz (ye_call (ya_var ya_nil)))) (ys_seq (ys_drop (ye_fz (ye_call (ya_var (ya_var ya_nil))))) (ys_seq (ys_asg (ye_fz (ye_lc (E' := fun _ _ _ => False) (yi_L ye_var) zgw_name yt_yes ye_int)) zg_name) (ys_seq ys_no (ys_seq ys_no ys_no)))))⟩
abbrev s_steps_between : Stmt := topS 46
def F_steps_between : List PyData → FR := fnY 3 4 none (sSeq (sDrop (eFz (eCall F_check_house [.s 0] (aCons (eVar 0) aNil)))) (sSeq (sDrop (eFz (eCall F_check_stand [.s 0, .s 1] (aCons (eVar 0) (aCons (eVar 1) aNil))))) (sSeq (sDrop (eFz (eCall F_check_stand [.s 0, .s 2] (aCons (eVar 0) (aCons (eVar 2) aNil))))) sNo)))
theorem f_steps_between (a : At K mg "steps_between" s_steps_between) (c_check_house : Fx P w K mg base "check_house" ["house"] 10 (SpY K cl none F_check_house)) (c_check_stand : Fx P w K mg base "check_stand" ["house", "place"] 4 (SpY K cl none F_check_stand)) : Fx P w K mg base "steps_between" ["house", "place", "goal"] 11 (SpY K cl none F_steps_between) := by
  have S : FnScope ["house", "place", "goal", "mask"] ["house", "place", "goal"] (defScope s_steps_between) := ⟨rfl, rfl, rfl, by decide +kernel, rfl, by decide +kernel, by decide +kernel⟩
  refine fy_mk (m := 3) (O := (fun i => [].contains i)) none a S (fun _ _ _ _ _ _ us hl => match us, hl with | [_, _, _], _ => rfl) (by decide) (fun j h => nomatch h) fun f' cdv A outer s H E gu hr tk => ?_
  have hc : (cxOf (L2.CX P w) P w K mg base ["house", "place", "goal", "mask"] "steps_between" (defScope s_steps_between) f' cdv A outer s H E).calm = true := rfl
  have hu64 : (cxOf (L2.CX P w) P w K mg base ["house", "place", "goal", "mask"] "steps_between" (defScope s_steps_between) f' cdv A outer s H E).A.units + 64 < cLine := hr.units
  have hu : (cxOf (L2.CX P w) P w K mg base ["house", "place", "goal", "mask"] "steps_between" (defScope s_steps_between) f' cdv A outer s H E).A.units + 1 < cLine := Nat.lt_of_le_of_lt (Nat.add_le_add_left (by decide) _) hr.units
  have hu2 : (cxOf (L2.CX P w) P w K mg base ["house", "place", "goal", "mask"] "steps_between" (defScope s_steps_between) f' cdv A outer s H E).A.units + 200 < cLine := Nat.lt_of_le_of_lt (Nat.add_le_add_right (Nat.le_add_right _ (16 * 10)) _) hr.un
  have hu65 : (cxOf (L2.CX P w) P w K mg base ["house", "place", "goal", "mask"] "steps_between" (defScope s_steps_between) f' cdv A outer s H E).A.units + 65 < cLine := Nat.lt_of_le_of_lt (Nat.add_le_add_left (by decide) _) hu2
  exact ⟨_, (pss_cons (ps_expr (pe_fx c_check_house gu (hr.mono (by decide)) (by rfl) (fun σ => passAt tk σ) (pa_cons (pv 0) pa_nil)))
  (pss_cons (ps_expr (pe_fx c_check_stand gu (hr.mono (by decide)) (by rfl) (fun σ => passAt tk σ) (pa_cons (pv 0) (pa_cons (pv 1) pa_nil))))
  (pss_cons (ps_expr (pe_fx c_check_stand gu (hr.mono (by decide)) (by rfl) (fun σ => passAt tk σ) (pa_cons (pv 0) (pa_cons (pv 2) pa_nil))))
  (pss_one ps_no)))), (ys_seq (ys_drop (ye_fz (ye_call (ya_var ya_nil)))) (ys_seq (ys_drop (ye_fz (ye_call (ya_var (ya_var ya_nil))))) (ys_seq (ys_drop (ye_fz (ye_call (ya_var (ya_var ya_nil))))) ys_no)))⟩
abbrev s_open_steps : Stmt := topS 76
def F_open_steps : List PyData → FR := fnY 3 5 none (sSeq (sDrop (eFz (eCall F_check_house [.s 0] (aCons (eVar 0) aNil)))) (sSeq (sDrop (eFz (eCall F_check_walks [.s 0, .s 1] (aCons (eVar 0) (aCons (eVar 1) aNil))))) (sSeq (sDrop (eFz (eCall F_check_tick [.d, .s 2] (aCons (eCB gLen (aCons (eVar 1) aNil)) (aCons (eVar 2) aNil))))) (sSeq sNo sNo))))
theorem f_open_steps (T : Tb mg) (a : At K mg "open_steps" s_open_steps) (c_check_house : Fx P w K mg base "check_house" ["house"] 10 (SpY K cl none F_check_house)) (c_check_walks : Fx P w K mg base "check_walks" ["house", "walks"] 6 (SpY K cl none F_check_walks)) (c_check_tick : Fx P w K mg base "check_tick" ["ticks", "tick"] 3 (SpY K cl none F_check_tick)) : Fx P w K mg base "open_steps" ["house", "walks", "number"] 11 (SpY K cl none F_open_steps) := by
  have S : FnScope ["house", "walks", "number", "lit", "tick"] ["house", "walks", "number"] (defScope s_open_steps) := ⟨rfl, rfl, rfl, by decide +kernel, rfl, by decide +kernel, by decide +kernel⟩
  refine fy_mk (m := 3) (O := (fun i => [].contains i)) none a S (fun _ _ _ _ _ _ us hl => match us, hl with | [_, _, _], _ => rfl) (by decide) (fun j h => nomatch h) fun f' cdv A outer s H E gu hr tk => ?_
  have hc : (cxOf (L2.CX P w) P w K mg base ["house", "walks", "number", "lit", "tick"] "open_steps" (defScope s_open_steps) f' cdv A outer s H E).calm = true := rfl
  have hu64 : (cxOf (L2.CX P w) P w K mg base ["house", "walks", "number", "lit", "tick"] "open_steps" (defScope s_open_steps) f' cdv A outer s H E).A.units + 64 < cLine := hr.units
  have hu : (cxOf (L2.CX P w) P w K mg base ["house", "walks", "number", "lit", "tick"] "open_steps" (defScope s_open_steps) f' cdv A outer s H E).A.units + 1 < cLine := Nat.lt_of_le_of_lt (Nat.add_le_add_left (by decide) _) hr.units
  have hu2 : (cxOf (L2.CX P w) P w K mg base ["house", "walks", "number", "lit", "tick"] "open_steps" (defScope s_open_steps) f' cdv A outer s H E).A.units + 200 < cLine := Nat.lt_of_le_of_lt (Nat.add_le_add_right (Nat.le_add_right _ (16 * 10)) _) hr.un
  have hu65 : (cxOf (L2.CX P w) P w K mg base ["house", "walks", "number", "lit", "tick"] "open_steps" (defScope s_open_steps) f' cdv A outer s H E).A.units + 65 < cLine := Nat.lt_of_le_of_lt (Nat.add_le_add_left (by decide) _) hu2
  exact ⟨_, (pss_cons (ps_expr (pe_fx c_check_house gu (hr.mono (by decide)) (by rfl) (fun σ => passAt tk σ) (pa_cons (pv 0) pa_nil)))
  (pss_cons (ps_expr (pe_fx c_check_walks gu (hr.mono (by decide)) (by rfl) (fun σ => passAt tk σ) (pa_cons (pv 0) (pa_cons (pv 1) pa_nil))))
  (pss_cons (ps_expr (pe_fx c_check_tick gu (hr.mono (by decide)) (by rfl) (fun σ => passAt tk σ) (pa_cons (pe_callB call_len_seq (by rfl) T.len (by decide +kernel) (pa_cons (pv 1) pa_nil)) (pa_cons (pv 2) pa_nil))))
  (pss_cons ps_no
  (pss_one ps_no))))), (ys_seq (ys_drop (ye_fz (ye_call (ya_var ya_nil)))) (ys_seq (ys_drop (ye_fz (ye_call (ya_var (ya_var ya_nil))))) (ys_seq (ys_drop (ye_fz (ye_call (ya_cons (ye_cb c_len (ya_cons ye_var ya_nil)) (ya_var ya_nil))))) (ys_seq ys_no ys_no))))⟩
abbrev s_opened_by : Stmt := topS 88
def F_opened_by : List PyData → FR := fnY 4 4 none (sSeq (sDrop (eFz (eCall F_check_house [.s 0] (aCons (eVar 0) aNil)))) (sSeq (sDrop (eFz (eCall F_check_walks [.s 0, .s 1] (aCons (eVar 0) (aCons (eVar 1) aNil))))) (sSeq (sDrop (eFz (eCall F_check_tick [.d, .s 2] (aCons (eCB gLen (aCons (eVar 1) aNil)) (aCons (eVar 2) aNil))))) (sSeq (sDrop (eFz (eCall F_check_tick [.d, .s 3] (aCons (eOp (gI fun i j => i - j) (eCB gLen (aCons (eOp gIxL (eVar 1) (eVar 2)) aNil)) (eC (.int 1))) (aCons (eVar 3) aNil))))) sNo))))
theorem f_opened_by (T : Tb mg) (a : At K mg "opened_by" s_opened_by) (c_check_house : Fx P w K mg base "check_house" ["house"] 10 (SpY K cl none F_check_house)) (c_check_walks : Fx P w K mg base "check_walks" ["house", "walks"] 6 (SpY K cl none F_check_walks)) (c_check_tick : Fx P w K mg base "check_tick" ["ticks", "tick"] 3 (SpY K cl none F_check_tick)) : Fx P w K mg base "opened_by" ["house", "walks", "number", "tick"] 11 (SpY K cl none F_opened_by) := by
  have S : FnScope ["house", "walks", "number", "tick"] ["house", "walks", "number", "tick"] (defScope s_opened_by) := ⟨rfl, rfl, rfl, by decide +kernel, rfl, by decide +kernel, by decide +kernel⟩
  refine fy_mk (m := 4) (O := (fun i => [].contains i)) none a S (fun _ _ _ _ _ _ us hl => match us, hl with | [_, _, _, _], _ => rfl) (by decide) (fun j h => nomatch h) fun f' cdv A outer s H E gu hr tk => ?_
  have hc : (cxOf (L2.CX P w) P w K mg base ["house", "walks", "number", "tick"] "opened_by" (defScope s_opened_by) f' cdv A outer s H E).calm = true := rfl
  have hu64 : (cxOf (L2.CX P w) P w K mg base ["house", "walks", "number", "tick"] "opened_by" (defScope s_opened_by) f' cdv A outer s H E).A.units + 64 < cLine := hr.units
  have hu : (cxOf (L2.CX P w) P w K mg base ["house", "walks", "number", "tick"] "opened_by" (defScope s_opened_by) f' cdv A outer s H E).A.units + 1 < cLine := Nat.lt_of_le_of_lt (Nat.add_le_add_left (by decide) _) hr.units
  have hu2 : (cxOf (L2.CX P w) P w K mg base ["house", "walks", "number", "tick"] "opened_by" (defScope s_opened_by) f' cdv A outer s H E).A.units + 200 < cLine := Nat.lt_of_le_of_lt (Nat.add_le_add_right (Nat.le_add_right _ (16 * 10)) _) hr.un
  have hu65 : (cxOf (L2.CX P w) P w K mg base ["house", "walks", "number", "tick"] "opened_by" (defScope s_opened_by) f' cdv A outer s H E).A.units + 65 < cLine := Nat.lt_of_le_of_lt (Nat.add_le_add_left (by decide) _) hu2
  exact ⟨_, (pss_cons (ps_expr (pe_fx c_check_house gu (hr.mono (by decide)) (by rfl) (fun σ => passAt tk σ) (pa_cons (pv 0) pa_nil)))
  (pss_cons (ps_expr (pe_fx c_check_walks gu (hr.mono (by decide)) (by rfl) (fun σ => passAt tk σ) (pa_cons (pv 0) (pa_cons (pv 1) pa_nil))))
  (pss_cons (ps_expr (pe_fx c_check_tick gu (hr.mono (by decide)) (by rfl) (fun σ => passAt tk σ) (pa_cons (pe_callB call_len_seq (by rfl) T.len (by decide +kernel) (pa_cons (pv 1) pa_nil)) (pa_cons (pv 2) pa_nil))))
  (pss_cons (ps_expr (pe_fx c_check_tick gu (hr.mono (by decide)) (by rfl) (fun σ => passAt tk σ) (pa_cons (pe_op op_sub (pe_callB call_len_seq (by rfl) T.len (by decide +kernel) (pa_cons (pe_ix ix_list (pv 1) (pv 2) (fun _ _ => rfl)) pa_nil)) pe_int) (pa_cons (pv 3) pa_nil))))
  (pss_one ps_no))))), (ys_seq (ys_drop (ye_fz (ye_call (ya_var ya_nil)))) (ys_seq (ys_drop (ye_fz (ye_call (ya_var (ya_var ya_nil))))) (ys_seq (ys_drop (ye_fz (ye_call (ya_cons (ye_cb c_len (ya_cons ye_var ya_nil)) (ya_var ya_nil))))) (ys_seq (ys_drop (ye_fz (ye_call (ya_cons (ye_op o_I (ye_cb c_len (ya_cons (ye_op o_ixL ye_var ye_var) ya_nil)) ye_int) (ya_var ya_nil))))) ys_no))))⟩
abbrev s_put_off : Stmt := topS 92
def F_put_off : List PyData → FR := fnY 2 3 none (sSeq (sIf (tOrZ (tNotZ (tVal' (eIsi "list" (eVar 0)))) (tNotZ (tVal' (eCB gAll (aCons (eFz (eLc (iL (eVar 0)) [2] (gN 2) tYesZ (eAnd (eFz (eCall F_fits_counts [.d] (aCons (eVar 2) aNil))) (eOp (gB fun i j => decide (j < i)) (eCB gLen (aCons (eVar 2) aNil)) (eC (.int 0)))))) aNil))))) (sRaise 3 0) sNext) (sSeq (sDrop (eFz (eCall F_check_count [.s 1] (aCons (eVar 1) aNil)))) (sRet (eLc (iL (eVar 0)) [2] (gN 2) tYesZ (eOp gCat (eOp (gIc cMul fun i j => i * j) (eSl (eVar 2) none (some (eC (.int 1)))) (eVar 1)) (eVar 2))))))
theorem f_put_off (T : Tb mg) (ck : CkY P w K mg base cl) (a : At K mg "put_off" s_put_off) (c_fits_counts : Fx P w K mg base "fits_counts" ["value"] 3 (SpY K cl none F_fits_counts)) (c_check_count : Fx P w K mg base "check_count" ["number"] 3 (SpY K cl none F_check_count)) : Fx P w K mg base "put_off" ["walks", "ticks"] 4 (SpY K cl none F_put_off) := by
  have S : FnScope ["walks", "ticks", "walk"] ["walks", "ticks"] (defScope s_put_off) := ⟨rfl, rfl, rfl, by decide +kernel, rfl, by decide +kernel, by decide +kernel⟩
  refine fy_mk (m := 2) (O := (fun i => [].contains i)) none a S (fun _ _ _ _ _ _ us hl => match us, hl with | [_, _], _ => rfl) (by decide) (fun j h => nomatch h) fun f' cdv A outer s H E gu hr tk => ?_
  have hc : (cxOf (L2.CX P w) P w K mg base ["walks", "ticks", "walk"] "put_off" (defScope s_put_off) f' cdv A outer s H E).calm = true := rfl
  have hu64 : (cxOf (L2.CX P w) P w K mg base ["walks", "ticks", "walk"] "put_off" (defScope s_put_off) f' cdv A outer s H E).A.units + 64 < cLine := hr.units
  have hu : (cxOf (L2.CX P w) P w K mg base ["walks", "ticks", "walk"] "put_off" (defScope s_put_off) f' cdv A outer s H E).A.units + 1 < cLine := Nat.lt_of_le_of_lt (Nat.add_le_add_left (by decide) _) hr.units
  have hu2 : (cxOf (L2.CX P w) P w K mg base ["walks", "ticks", "walk"] "put_off" (defScope s_put_off) f' cdv A outer s H E).A.units + 200 < cLine := Nat.lt_of_le_of_lt (Nat.add_le_add_right (Nat.le_add_right _ (16 * 3)) _) hr.un
  have hu65 : (cxOf (L2.CX P w) P w K mg base ["walks", "ticks", "walk"] "put_off" (defScope s_put_off) f' cdv A outer s H E).A.units + 65 < cLine := Nat.lt_of_le_of_lt (Nat.add_le_add_left (by decide) _) hu2
  exact ⟨_, (pss_cons (ps_if (PW.pt (pw_or (pt_not (pt_val (pe_callB call_isi (by rfl) T.isinstance (by decide +kernel) (pa_cons (pv 0) (pa_cons (pe_bltn (v := .ty "list") (by rfl) T.list boot_list rfl) pa_nil))))) (pw_or1 (pt_not (pt_val (pe_callB (cr_all hc) (by rfl) T.all (by decide +kernel) (pa_cons (pe_lc (own := [("walk", 2)]) hc S.nd (pi_list (pv 0)) (blkOk_by (N := ["walks", "ticks", "walk"]) (sc := defScope s_put_off) (by decide +kernel)) (fun _ _ _ _ _ => (pg_name (i := 2) S.nd rfl (by first | exact Or.inl rfl | exact Or.inr rfl))) (fun _ _ _ _ _ => pts_nil) (fun _ _ _ _ _ => (pe_and (pe_fx c_fits_counts gu (hr.mono (by decide)) (by rfl) (fun _ => pass_no) (pa_cons (pv 2) pa_nil)) (pe_one (pe_cmpR op_gt (pe_callB call_len_seq (by rfl) T.len (by decide +kernel) (pa_cons (pv 2) pa_nil)) pe_int (nomark _)))))) pa_nil))))))) (pss_one (ps_rz ck.InvalidWalks hc tk (hr.mono (by decide)) (by rfl) (pa_cons (pv 0) pa_nil))) pss_nil)
  (pss_cons (ps_expr (pe_fx c_check_count gu (hr.mono (by decide)) (by rfl) (fun σ => passAt tk σ) (pa_cons (pv 1) pa_nil)))
  (pss_one (ps_ret (pe_lc (own := [("walk", 2)]) hc S.nd (pi_list (pv 0)) (blkOk_by (N := ["walks", "ticks", "walk"]) (sc := defScope s_put_off) (by decide +kernel)) (fun _ _ _ _ _ => (pg_name (i := 2) S.nd rfl (by first | exact Or.inl rfl | exact Or.inr rfl))) (fun _ _ _ _ _ => pts_nil) (fun _ _ _ _ _ => (pe_op op_cat (pe_op op_mul (pe_slice (sl_listK (K := K) rfl) (pv 2) po_none (po_some pe_int)) (pv 1)) (pv 2)))))))), (ys_seq (ys_if (yt_or (yt_not (yt_B (ye_isi ye_var))) (yt_not (yt_B (ye_cb c_all (ya_cons (ye_fz (ye_lc (E' := fun _ _ _ => False) (yi_L ye_var) zgw_name yt_yes (ye_and (ye_fz (ye_call0 (ya_cons ye_var ya_nil))) (ye_op o_B (ye_cb c_len (ya_cons ye_var ya_nil)) ye_int)))) ya_nil))))) ys_raise ys_next) (ys_seq (ys_drop (ye_fz (ye_call (ya_var ya_nil)))) (ys_ret (ye_lc (E' := fun _ _ _ => False) (yi_L ye_var) zgw_name yt_yes (ye_op o_cat (ye_op (o_Ic cMul_ok) (ye_sl ye_var yb_none (yb_some ye_int)) ye_var) ye_var)))))⟩
end
end TD

set_option maxHeartbeats 4000000
namespace TD
open PySem PySem.Spec PyProof.Rows L2
open Evl (Ex)
structure Ad4 where
  House : Addr
  Number : Addr
  Walk : Addr
  Walks : Addr
def clA (A : Ad4) : Nat → Addr
  | 0 => A.House
  | 1 => A.Number
  | 2 => A.Walk
  | _ => A.Walks
structure Ck4 (P : Program) (w : World) (K : Fg) (mg : Str → Option Value) (base : Heap) (A : Ad4) : Prop where
  InvalidHouse : Mke P w K mg base "InvalidHouse" A.House
  InvalidNumber : Mke P w K mg base "InvalidNumber" A.Number
  InvalidWalk : Mke P w K mg base "InvalidWalk" A.Walk
  InvalidWalks : Mke P w K mg base "InvalidWalks" A.Walks
theorem Ck4.y {P : Program} {w : World} {K : Fg} {mg : Str → Option Value} {base : Heap} {A : Ad4} (c : Ck4 P w K mg base A) : CkY P w K mg base (clA A) := ⟨c.InvalidHouse, c.InvalidNumber, c.InvalidWalk, c.InvalidWalks⟩
def R_none : List PyData → PyData → Prop := fun _ _ => False
def RF (F : List PyData → FR) : List PyData → PyData → Prop := fun ds d => ∃ e, F ds = .v d e
def XFy (cl : Nat → Addr) (F : List PyData → FR) : List PyData → Addr → Nat → Prop := fun ds C i => ∃ c, F ds = .x c i ∧ C = cl c
theorem le_of0 {B H B' H' : Hp} (l : LeO (fun _ => False) B H B' H') : Le B H B' H' := ⟨fun b o h => l.ex b o h id, l.ek, l.sub, fun a h1 h2 => l.old a h1 h2 id⟩
section
variable {P : Program} {w : World} {K : Fg} {mg : Str → Option Value} {base : Heap} {x : Str} {ps : List Str} {k : Nat} {cl : Nat → Addr} {F : List PyData → FR}
theorem Fx.toX (h : Fx P w K mg base x ps k (SpY K cl none F)) : Fx P w K mg base x ps k (SpX K (RF F) (XFy cl F)) := by
  obtain ⟨f, fd, hm, kp, hb, G⟩ := h
  refine ⟨f, fd, hm, kp, hb, G.weak fun vs H Q E ⟨B, ds, sx, dd, r⟩ => ⟨B, ds, fun _ => False, sx, ⟨dd.len, fun j d hj => ?_, fun _ z => z.elim⟩, fun _ _ z => z, ?_⟩⟩
  · obtain ⟨v, hv, dv⟩ := dd.getD hj
    exact ⟨v, hv, fun _ => dv, fun z => nomatch z⟩
  · rcases r with ⟨d, ⟨e, r⟩, q⟩ | ⟨C, i, v, ⟨c, r, rfl⟩, hv, q⟩
    · rw [r]
      intro v B' H' A' l dv _ _
      exact q v B' H' (le_of0 l) dv
    · rw [r]
      exact ⟨v, hv, fun x B' H' l hx => q x B' H' (le_of0 l) hx⟩
end
theorem zSeqX {f g : En → SR} {ρ : En} {c i : Nat} (h : f ρ = .x c i) : sSeq f g ρ = .x c i := by
  unfold sSeq
  rw [h]
abbrev chkH : En → SR := sDrop (eFz (eCall F_check_house [.s 0] (aCons (eVar 0) aNil)))
theorem check_no {b : PyData} (nm : isMark b = false) (h : F_fits_house [b] = .v (.bool false) .none) : F_check_house [b] = .x 0 0 := by
  have e : sIf (tNotZ (tVal' (eFz (eCall F_fits_house [.s 0] (aCons (eVar 0) aNil))))) (sRaise 0 0) sNext [some b] = .x 0 0 := zSIfT (zNot (b := false) (zVal (zFzV (zCallV (zOne (zVar rfl nm)) h)))) rfl
  exact zFn rfl (congrArg (finY none) e)
theorem chk_no {b : PyData} {ρ : En} (nm : isMark b = false) (h : F_check_house [b] = .x 0 0) : chkH (some b :: ρ) = .x 0 0 := by
  have a : aCons (eVar 0) aNil (some b :: ρ) = .vs [b] (some b :: ρ) := zOne (zVar rfl nm)
  have e : eCall F_check_house [.s 0] (aCons (eVar 0) aNil) (some b :: ρ) = .x 0 0 := by
    unfold eCall aE
    rw [a]
    show (match F_check_house [b] with | .v d _ => ER.v d (some b :: ρ) | .o d _ => .o d (some b :: ρ) | .st => .st | .x c j => (match ([AK.s 0] : List AK)[j]? with | some (.s i) => .x c i | _ => .st)) = _
    rw [h]
    rfl
  show sDrop (eFz (eCall F_check_house [.s 0] (aCons (eVar 0) aNil))) (some b :: ρ) = _
  unfold sDrop eFz
  rw [e]
theorem house_first {n N : Nat} {rest : En → SR} {b : PyData} {ds : List PyData} (nm : isMark b = false) (h : F_check_house [b] = .x 0 0) (hl : (b :: ds).length = n) : fnY n N none (sSeq chkH rest) (b :: ds) = .x 0 0 := zFn hl (congrArg (finY none) (zSeqX (chk_no nm h)))
structure HB (b : PyData) : Prop where
  nm : isMark b = false
  no : F_fits_house [b] = .v (.bool false) .none
theorem HB.chk {b : PyData} (h : HB b) : F_check_house [b] = .x 0 0 := check_no h.nm h.no
theorem HB.is {b : PyData} (h : HB b) : F_is_house [b] = .v (.bool false) .none := by
  have e : sRet (eCall F_fits_house [.s 0] (aCons (eVar 0) aNil)) [some b] = .ret (.bool false) [some b] := zRetV (zCallV (zOne (zVar rfl h.nm)) h.no)
  exact zFn rfl (congrArg (finY none) e)
def fns2 : List (List PyData → FR) := [F_is_walk, F_pressed_by, F_hands_light, F_first_shut, F_greatest_playable, F_why_unplayable, F_debts, F_are_stays, F_far_steps, F_earned]
theorem HB.two {b : PyData} (h : HB b) (g : PyData) : ∀ F ∈ fns2, F [b, g] = .x 0 0 := by
  have k := h.chk
  intro F hF
  simp only [fns2, List.mem_cons, List.not_mem_nil, or_false] at hF
  rcases hF with e | e | e | e | e | e | e | e | e | e <;> subst e <;> exact house_first h.nm k rfl
theorem HB.three {b : PyData} (h : HB b) (g : PyData) : F_steps_between [b, g, .none] = .x 0 0 ∧ F_open_steps [b, g, .none] = .x 0 0 ∧ F_opened_by [b, g, .none, .none] = .x 0 0 :=
  ⟨house_first h.nm h.chk rfl, house_first h.nm h.chk rfl, house_first h.nm h.chk rfl⟩
def isV (b : Bool) : FR → Bool
  | .v (.bool c) .none => c == b
  | _ => false
theorem isV_eq {b : Bool} {r : FR} (h : isV b r = true) : r = .v (.bool b) .none := by
  unfold isV at h
  split at h
  · rw [beq_iff_eq.mp h]
  · exact nomatch h
def isX (c i : Nat) : FR → Bool
  | .x c' i' => c' == c && i' == i
  | _ => false
theorem isX_eq {c i : Nat} {r : FR} (h : isX c i r = true) : r = .x c i := by
  unfold isX at h
  split at h
  · rw [Bool.and_eq_true, beq_iff_eq, beq_iff_eq] at h
    rw [h.1, h.2]
  · exact nomatch h
end TD

set_option maxHeartbeats 4000000
namespace TD
open PySem PySem.Spec PyProof.Rows L2
open Evl (Ex)
open LamX (CodeO Tabs TabB ExtN)
abbrev Ad4.InvalidHouse (A : Ad4) : Addr := A.House
abbrev Ad4.InvalidNumber (A : Ad4) : Addr := A.Number
abbrev Ad4.InvalidWalk (A : Ad4) : Addr := A.Walk
abbrev Ad4.InvalidWalks (A : Ad4) : Addr := A.Walks
structure B7 (mg : Str → Option Value) : Prop where
  repr : mg "repr" = none
  isinstance : mg "isinstance" = none
  zip : mg "zip" = none
  ValueError : mg "ValueError" = none
structure Ce (K : Fg) (mg : Str → Option Value) (A : Ad4) (DE : Addr) : Prop where
  s_InvalidHouse : Std K mg "InvalidHouse" A.House [.ref DE]
  s_InvalidNumber : Std K mg "InvalidNumber" A.Number [.ref DE]
  s_InvalidWalk : Std K mg "InvalidWalk" A.Walk [.ref DE]
  s_InvalidWalks : Std K mg "InvalidWalks" A.Walks [.ref DE]
  sD : Std K mg "DoorError" DE []
  n_House : PySem.W.findIn K (.ref A.House) "value" = some none
  n_Number : PySem.W.findIn K (.ref A.Number) "value" = some none
  n_Walk : PySem.W.findIn K (.ref A.Walk) "value" = some none
  n_Walks : PySem.W.findIn K (.ref A.Walks) "value" = some none
  nd : [DE, A.House, A.Number, A.Walk, A.Walks].Nodup
theorem boot_ValueError : bootBuiltins "ValueError" = some (.type "ValueError") := by decide +kernel
def l4 (A : Ad4) : List Addr := [A.House, A.Number, A.Walk, A.Walks]
def nm4 : List Str := ["house", "number", "walk", "walks"]
section
variable {K : Fg} {mg : Str → Option Value} {A : Ad4} {DE : Addr}
structure Knd (K : Fg) (A : Ad4) (DE : Addr) (C : Addr) (i : Nat) : Prop where
  T : ExcC K C
  no : PySem.W.findIn K (.ref C) "value" = some none
  ex : PySem.W.exmOne K (.ref C) (.ref DE) = some true
  ve : PySem.W.kitOne K (.ref C) (.type "ValueError") = some true
  kd : ∀ (j : Nat) (D : Addr), (l4 A)[j]? = some D → PySem.W.kitOne K (.ref C) (.ref D) = some (decide (j = i))
theorem exm_up {x y : Str} {C D : Addr} (h : Std K mg x C [.ref D]) (k : Std K mg y D []) : PySem.W.exmOne K (.ref C) (.ref D) = some true :=
  PySem.W.exm_ref (k.sub (List.mem_append_right _ (by decide))) k.has k.tyC (h.sub (List.mem_append_left _ (List.mem_singleton.mpr rfl)))
theorem Ce.std (Z : Ce K mg A DE) {i : Nat} {C : Addr} (h : (l4 A)[i]? = some C) : ∃ x, Std K mg x C [.ref DE] ∧ PySem.W.findIn K (.ref C) "value" = some none := by
  match i, h with
  | 0, h => cases h; exact ⟨_, Z.s_InvalidHouse, Z.n_House⟩
  | 1, h => cases h; exact ⟨_, Z.s_InvalidNumber, Z.n_Number⟩
  | 2, h => cases h; exact ⟨_, Z.s_InvalidWalk, Z.n_Walk⟩
  | 3, h => cases h; exact ⟨_, Z.s_InvalidWalks, Z.n_Walks⟩
theorem Ce.knd (Z : Ce K mg A DE) {i : Nat} {C : Addr} (h : (l4 A)[i]? = some C) : Knd K A DE C i := by
  obtain ⟨x, hx, no⟩ := Z.std h
  have nd6 := (List.nodup_cons.mp Z.nd).2
  have nDE := (List.nodup_cons.mp Z.nd).1
  refine ⟨hx.exc, no, exm_up hx Z.sD, hx.kitT (List.mem_append_right _ (by decide)) (by decide +kernel), fun j D hj => ?_⟩
  obtain ⟨y, hy, _⟩ := Z.std hj
  have e := hx.kit hy (not_bm (by
    intro z
    have z' := List.mem_singleton.mp z
    injection z' with z'
    exact nDE (z' ▸ List.mem_of_getElem? hj)))
  rw [e]
  congr 1
  rw [decide_eq_decide]
  constructor
  · intro q
    subst q
    obtain ⟨h1, e1⟩ := List.getElem?_eq_some_iff.mp h
    obtain ⟨h2, e2⟩ := List.getElem?_eq_some_iff.mp hj
    exact (List.getElem_inj nd6).mp (e2.trans e1.symm)
  · intro q
    subst q
    rw [h] at hj
    exact Option.some.inj hj
def RK (A : Ad4) : Str → PyData → Addr → Prop := fun nm fld C => ∃ i : Nat, (l4 A)[i]? = some C ∧ nm4[i]? = some nm ∧ Fine fld
def kindsD (i : Nat) : List PyData := ((List.range 4).map fun j => PyData.bool (decide (j = i))) ++ [.bool true]
def namesD : List PyData := [.str "house", .str "number", .str "walk", .str "walks", .str "value"]
def tolD (i : Nat) : List PyData := picked ((namesD.zip (kindsD i)).map fun p => .tuple [p.1, p.2]) (fun d => match d with | .tuple [_, .bool b] => b | _ => false) (fun d => match d with | .tuple [x, _] => x | _ => .none)
theorem tol_is {i : Nat} {nm : Str} (h : nm4[i]? = some nm) : tolD i = [.str nm, .str "value"] := by
  match i, h with
  | 0, h => cases h; rfl
  | 1, h => cases h; rfl
  | 2, h => cases h; rfl
  | 3, h => cases h; rfl
theorem tol_sh {i : Nat} {nm : Str} (h : nm4[i]? = some nm) : SeqAt.shaped (.list [.str nm, .str "value"]) = true ∧ PyData.eqv (.list [.str nm, .str "value"]) (.list [.str nm, .str "value"]) = true := by
  match i, h with
  | 0, h => cases h; exact ⟨by decide +kernel, by decide +kernel⟩
  | 1, h => cases h; exact ⟨by decide +kernel, by decide +kernel⟩
  | 2, h => cases h; exact ⟨by decide +kernel, by decide +kernel⟩
  | 3, h => cases h; exact ⟨by decide +kernel, by decide +kernel⟩
end
abbrev s__law_refused : Stmt := topS 101
theorem S_refused : FnScope ["_law_call_here", "_law_name", "_law_value", "_law_error", "_law_before", "e", "_law_kinds", "_law_word", "_law_kind"] ["_law_call_here", "_law_name", "_law_value"] (defScope s__law_refused) := ⟨rfl, rfl, rfl, by decide +kernel, rfl, by decide +kernel, by decide +kernel⟩
theorem g__law_refused {X : Cx} {A : Ad4} {DE : Addr} {k : Nat} (T : B7 X.mg) (sm : ∃ mm, X.base.Ns sysModules mm) (M : Ce X.K X.mg A DE) : Gives X ["_law_call_here", "_law_name", "_law_value", "_law_error", "_law_before", "e", "_law_kinds", "_law_word", "_law_kind"] "_law_refused" s__law_refused k "_law_call_here" (TTr X.K (RK A)) := by
  intro g cdg f cc s H Q tl vs gu hr act hcc ⟨B, nm, v, v', fld, C, hvs, sB, dv, dv', ⟨i, hC, hn, hF⟩, htl, hQ⟩
  subst hvs
  have S := S_refused
  have kn := M.knd hC
  have hc : (cxOf CX0 X.prog X.w X.K X.mg X.base ["_law_call_here", "_law_name", "_law_value", "_law_error", "_law_before", "e", "_law_kinds", "_law_word", "_law_kind"] "_law_refused" (defScope s__law_refused) g cdg X.A X.stack s H E0).nox.calm = true := rfl
  have hu : (cxOf CX0 X.prog X.w X.K X.mg X.base ["_law_call_here", "_law_name", "_law_value", "_law_error", "_law_before", "e", "_law_kinds", "_law_word", "_law_kind"] "_law_refused" (defScope s__law_refused) g cdg X.A X.stack s H E0).nox.A.units + 200 < cLine := Nat.lt_of_le_of_lt (Nat.add_le_add_right (Nat.le_add_right _ _) _) hr.un
  have hu64 : (cxOf CX0 X.prog X.w X.K X.mg X.base ["_law_call_here", "_law_name", "_law_value", "_law_error", "_law_before", "e", "_law_kinds", "_law_word", "_law_kind"] "_law_refused" (defScope s__law_refused) g cdg X.A X.stack s H E0).nox.A.units + 64 < cLine := hr.units
  refine ⟨_, (pss_cons (ps_par (i := 3) (j := 4) hc S.nd rfl rfl (by decide) rfl rfl (pa_cons pe_non (pa_cons (pe_callB (call_reprA sm gu hu) (by rfl) T.repr (by decide +kernel) (pa_cons (pv 2) pa_nil)) pa_nil)) (by rfl))
  (pss_cons (ps_keep (i := 5) (tb := (fun W => tAct f cc (X.env.qual ++ "<lambda>") tl W)) rfl rfl rfl S.nd rfl rfl ⟨rfl, by decide, Or.inl M.sD.gC⟩ (fun W pn xe tk _ => (pss_one (ps_act (fun E => act W pn xe E _ _ tk)))) (fun a oe cls d pn hz hf => (pss_one (ps_set (i := 3) S.nd rfl (by first | exact Or.inl rfl | exact Or.inr rfl) (pv 5)))))
  (pss_cons (ps_set (i := 6) S.nd rfl (by first | exact Or.inl rfl | exact Or.inr rfl) (pe_lst (pa_cons (pe_callB call_isK (by rfl) T.isinstance (by decide +kernel) (pa_cons (pv 3) (pa_cons (pe_glob (v := .ref A.InvalidHouse) (by rfl) M.s_InvalidHouse.gC rfl) pa_nil))) (pa_cons (pe_callB call_isK (by rfl) T.isinstance (by decide +kernel) (pa_cons (pv 3) (pa_cons (pe_glob (v := .ref A.InvalidNumber) (by rfl) M.s_InvalidNumber.gC rfl) pa_nil))) (pa_cons (pe_callB call_isK (by rfl) T.isinstance (by decide +kernel) (pa_cons (pv 3) (pa_cons (pe_glob (v := .ref A.InvalidWalk) (by rfl) M.s_InvalidWalk.gC rfl) pa_nil))) pa_nil)))))
  (pss_cons (ps_set (i := 6) S.nd rfl (by first | exact Or.inl rfl | exact Or.inr rfl) (pe_op op_cat (pv 6) (pe_lst (pa_cons (pe_callB call_isK (by rfl) T.isinstance (by decide +kernel) (pa_cons (pv 3) (pa_cons (pe_glob (v := .ref A.InvalidWalks) (by rfl) M.s_InvalidWalks.gC rfl) pa_nil))) (pa_cons (pe_callB call_isK (by rfl) T.isinstance (by decide +kernel) (pa_cons (pv 3) (pa_cons (pe_bltn (v := .ty "ValueError") (by rfl) T.ValueError boot_ValueError rfl) pa_nil))) pa_nil)))))
  (pss_cons (ps_if (pt_cmpR (op_neA sm hu64) (pe_lc (own := [("_law_word", 7), ("_law_kind", 8)]) hc S.nd (pi_zip (by rfl) T.zip (pa_cons (pe_lst (pa_cons pe_str (pa_cons pe_str (pa_cons pe_str (pa_cons pe_str (pa_cons pe_str pa_nil)))))) (pa_cons (pv 6) pa_nil))) (blkOk_by (N := ["_law_call_here", "_law_name", "_law_value", "_law_error", "_law_before", "e", "_law_kinds", "_law_word", "_law_kind"]) (sc := defScope s__law_refused) (by decide +kernel)) (fun _ _ _ _ _ => (pg_tupK (K := X.K) (n := 2) rfl (by exact rfl) (pgs_cons (pg_name (i := 7) S.nd rfl (by first | exact Or.inl rfl | exact Or.inr rfl)) (pgs_cons (pg_name (i := 8) S.nd rfl (by first | exact Or.inl rfl | exact Or.inr rfl)) pgs_nil)))) (fun _ _ _ _ _ => (pts_one (pt_val (pv 8)))) (fun _ _ _ _ _ => (pv 7))) (pe_lst (pa_cons (pv 1) (pa_cons pe_str pa_nil))) (nomark _)) (pss_one (ps_ret pe_bl)) pss_nil)
  (pss_one (ps_ret (pe_cmpR op_eq (pe_callB (call_reprA sm gu hu) (by rfl) T.repr (by decide +kernel) (pa_cons (pe_valueK (pv 3)) pa_nil)) (pv 4) (nomark _))))))))), ?_⟩
  have sd : SD X.K B (L2.start ["_law_call_here", "_law_name", "_law_value", "_law_error", "_law_before", "e", "_law_kinds", "_law_word", "_law_kind"] [.ref f, .str nm, v]) [none, some (.str nm), some fld, none, none, none, none, none, none] := ⟨rfl, fun i d h => by
    match i, h with
    | 1, h => cases h; exact ⟨_, rfl, .str nm⟩
    | 2, h => cases h; exact ⟨_, rfl, dv⟩
    | i + 9, h => cases h⟩
  have e0 : (L2.start ["_law_call_here", "_law_name", "_law_value", "_law_error", "_law_before", "e", "_law_kinds", "_law_word", "_law_kind"] [.ref f, .str nm, v])[0]? = some (some (.ref f)) := rfl
  generalize L2.start ["_law_call_here", "_law_name", "_law_value", "_law_error", "_law_before", "e", "_law_kinds", "_law_word", "_law_kind"] [.ref f, .str nm, v] = σ at *
  -- error, before
  refine q_par (ea_cons ed_non (ea_cons (ed_cb (ea_cons (ed_var (i := 2) rfl) ea_nil) (rc_repr hF)) ea_nil) σ B H sB sd _ fun vs B1 H1 l1 d1 => ?_)
  obtain ⟨v3, r3, rfl, d3, d1⟩ := d1.inv1
  obtain ⟨v4, r4, rfl, d4, d1⟩ := d1.inv1
  cases d1
  refine ⟨v3, v4, rfl, ?_⟩
  have sd1 := ((sd.up l1.ek).put 3 d3).put 4 d4
  have len1 := sd1.1
  have g0 : ((σ.set 3 (some v3)).set 4 (some v4))[0]? = some (some (.ref f)) := by
    rw [List.getElem?_set_ne (by decide), List.getElem?_set_ne (by decide)]
    exact e0
  generalize (σ.set 3 (some v3)).set 4 (some v4) = σ1 at *
  -- the call
  refine ⟨fun c d J => wKeep _ _ _ _ _ c d σ1 J, g0, l1.ex _ _ hcc, fun _ _ _ h => h, htl _ B1 H1 _ l1 fun x B2 H2 l2 hx => ⟨C, x, rfl, rfl, kn.ex, fun ax hax => ?_⟩⟩
  -- it is kept
  refine ⟨.ref ax, by rw [List.getElem?_set_self (by rw [len1]; exact Nat.le_of_ble_eq_true rfl)], ?_⟩
  have nx : x ≠ ax := fun z => by
    rw [z, hax] at hx
    cases hx
  have l3 : Le B2 H2 B2 (upd H2 ax (exk ax C x)) := ⟨Ex.new hax, Ex.refl B2, l2.sub.trans (Ex.new hax), fun _ h _ => h⟩
  have sd3 := (((sd1.up l2.ek).drop 5 (some (.ref ax))).drop 3 (some (.ref ax))).drop 5 none
  have j3 : JC 3 ax C v' (((σ1.set 5 (some (.ref ax))).set 3 (some (.ref ax))).set 5 none) (upd H2 ax (exk ax C x)) := by
    refine ⟨?_, x, upd_same, ?_⟩
    · rw [List.getElem?_set_ne (by decide), List.getElem?_set_self (by rw [List.length_set, len1]; exact Nat.le_of_ble_eq_true rfl)]
    · rw [upd_ne nx]
      exact hx
  have lq : Le B H B2 (upd H2 ax (exk ax C x)) := (l1.tr l2).tr l3
  have s3 := l3.sub
  have dv3 := dv'.ex lq.ek
  try dsimp only [gName]
  generalize ((σ1.set 5 (some (.ref ax))).set 3 (some (.ref ax))).set 5 none = σ3 at *
  generalize upd H2 ax (exk ax C x) = H3 at *
  -- kinds
  refine q_asg ((edj_lst (eaj_cons jc_stab (edj_isK kn.T (.own _) (kn.kd 0 _ rfl)) (eaj_cons jc_stab (edj_isK kn.T (.own _) (kn.kd 1 _ rfl)) (eaj_cons jc_stab (edj_isK kn.T (.own _) (kn.kd 2 _ rfl)) eaj_nil)))) σ3 B2 H3 s3 sd3 j3 _ fun v8 B5 H5 l5 d5 => ?_)
  have sd5 := (sd3.up l5.ek).put 6 d5
  have j5 : JC 3 ax C v' (σ3.set 6 (some v8)) H5 := ⟨by rw [List.getElem?_set_ne (by decide)]; exact j3.1, j3.2.ex l5.ex⟩
  try dsimp only [gName]
  generalize σ3.set 6 (some v8) = σ5 at *
  refine q_asg ((edj_op jc_stab (edj_of (ed_var (i := 6) rfl)) (edj_lst (eaj_cons jc_stab (edj_isK kn.T (.own _) (kn.kd 3 _ rfl)) (eaj_cons jc_stab (edj_isK kn.T (.ty _) kn.ve) eaj_nil))) (r_cat (Nat.le_of_ble_eq_true rfl))) σ5 B5 H5 l5.sub sd5 j5 _ fun v9 B6 H6 l6 d6 => ?_)
  have sd6 := (sd5.up l6.ek).put 6 d6
  have j6 : JC 3 ax C v' (σ5.set 6 (some v9)) H6 := ⟨by rw [List.getElem?_set_ne (by decide)]; exact j5.1, j5.2.ex l6.ex⟩
  try dsimp only [gName]
  generalize σ5.set 6 (some v9) = σ6 at *
  -- just these
  refine q_if ((etj_of (J := JC 3 ax C v') (et_is (b := false) (et_test (ed_op (ed_lcZ (ds := namesD) (es := kindsD i) (fun d => match d with | .tuple [_, .bool b] => b | _ => false) (fun d => match d with | .tuple [x, _] => x | _ => .none) (ea_cons (ed_lst (ea_cons ed_str (ea_cons ed_str (ea_cons ed_str (ea_cons ed_str (ea_cons ed_str ea_nil))))) (Nat.le_of_ble_eq_true rfl)) (ea_cons (ed_var (i := 6) rfl) ea_nil)) rfl (by decide) (by decide) (Nat.le_of_ble_eq_true rfl) (fun k x y hx hy => ?_) (fun k x y hx hy _ => ed_var rfl)) (ed_lst (ea_cons (ed_var (i := 1) rfl) (ea_cons ed_str ea_nil)) (Nat.le_of_ble_eq_true rfl)) (r_neA ?_ (tol_sh hn).1))) ?_)) σ6 B6 H6 l6.sub sd6 j6 _ fun B8 H8 l8 => ?_)
  · obtain ⟨b, rfl⟩ : ∃ b, y = .bool b := by
      have hy' := List.mem_of_getElem? hy
      unfold kindsD at hy'
      rcases List.mem_append.mp hy' with z | z
      · obtain ⟨_, _, e⟩ := List.mem_map.mp z
        exact ⟨_, e.symm⟩
      · rw [List.mem_singleton.mp z]
        exact ⟨_, rfl⟩
    exact et_B (ed_var rfl)
  · show SeqAt.shaped (.list (tolD i)) = true
    rw [tol_is hn]
    exact (tol_sh hn).1
  · show (!PyData.eqv (.list (tolD i)) (.list [.str nm, .str "value"])) = false
    rw [tol_is hn, (tol_sh hn).2]
    rfl
  rw [if_neg (by decide)]
  have sd8 := sd6.up l8.ek
  have j8 := jc_stab.ex _ _ _ l8.ex j6
  -- the field
  have dv8 : Da X.K B8 v' fld := dv3.ex (l5.ek.trans (l6.ek.trans l8.ek))
  have lq8 := lq.tr (l5.tr (l6.tr l8))
  refine ⟨.ref ax, j8.1, ax, C, v', rfl, j8.2, kn.T, kn.no, v', fld, rfl, dv8.ex l8.sub, hF, ?_⟩
  obtain ⟨w4, e4, da4⟩ := sd8.2 4 (.str fld.shown) rfl
  cases da4
  refine ⟨.str fld.shown, e4, rfl, ?_⟩
  rw [decide_eq_true rfl]
  exact hQ B8 H8 lq8
end TD

set_option maxHeartbeats 4000000
namespace TD
open PySem PySem.Spec PyProof.Rows L2
open Evl (Ex)
section
variable {P : Program} {w : World} {K : Fg} {mg : Str → Option Value} {base : Heap} {A : Ad4}
structure Cd (P : Program) (w : World) (K : Fg) (mg : Str → Option Value) (base : Heap) (A : Ad4) : Prop where
  is_walk : Fx P w K mg base "is_walk" ["house", "value"] 11 (SpX K (RF F_is_walk) (XFy (clA A) F_is_walk))
  pressed_by : Fx P w K mg base "pressed_by" ["house", "walks"] 11 (SpX K (RF F_pressed_by) (XFy (clA A) F_pressed_by))
  hands_light : Fx P w K mg base "hands_light" ["house", "walks"] 11 (SpX K (RF F_hands_light) (XFy (clA A) F_hands_light))
  first_shut : Fx P w K mg base "first_shut" ["house", "walks"] 11 (SpX K (RF F_first_shut) (XFy (clA A) F_first_shut))
  greatest_playable : Fx P w K mg base "greatest_playable" ["house", "walks"] 11 (SpX K (RF F_greatest_playable) (XFy (clA A) F_greatest_playable))
  why_unplayable : Fx P w K mg base "why_unplayable" ["house", "walks"] 11 (SpX K (RF F_why_unplayable) (XFy (clA A) F_why_unplayable))
  debts : Fx P w K mg base "debts" ["house", "walks"] 11 (SpX K (RF F_debts) (XFy (clA A) F_debts))
  are_stays : Fx P w K mg base "are_stays" ["house", "value"] 11 (SpX K (RF F_are_stays) (XFy (clA A) F_are_stays))
  far_steps : Fx P w K mg base "far_steps" ["house", "stays"] 11 (SpX K (RF F_far_steps) (XFy (clA A) F_far_steps))
  earned : Fx P w K mg base "earned" ["house", "walks"] 11 (SpX K (RF F_earned) (XFy (clA A) F_earned))
  steps_between : Fx P w K mg base "steps_between" ["house", "place", "goal"] 11 (SpX K (RF F_steps_between) (XFy (clA A) F_steps_between))
  open_steps : Fx P w K mg base "open_steps" ["house", "walks", "number"] 11 (SpX K (RF F_open_steps) (XFy (clA A) F_open_steps))
  opened_by : Fx P w K mg base "opened_by" ["house", "walks", "number", "tick"] 11 (SpX K (RF F_opened_by) (XFy (clA A) F_opened_by))
def X_call (A : Ad4) : List PyData → Addr → Nat → Prop := fun ds C j => ∃ (k : Nat) (b g : PyData), ds = [.int (k : Int), b, g] ∧ k < 13 ∧ j = 1 ∧ C = A.House ∧ HB b
theorem way_lt {ρ : En} {k n : Nat} (h0 : ρ[0]? = some (some (.int (k : Int)))) (h : k < n) : ET K (tTest (tOp (rI0 fun i j => .bl (decide (i < j))) (tVar 0) (tC (.int (n : Int))))) ρ true :=
  et_is (et_test (ed_op (ed_var h0) ed_int (r_Ib (g := fun i j => decide (i < j))))) (decide_eq_true (by omega))
theorem way_ge {ρ : En} {k n : Nat} (h0 : ρ[0]? = some (some (.int (k : Int)))) (h : n ≤ k) : ET K (tTest (tOp (rI0 fun i j => .bl (decide (i < j))) (tVar 0) (tC (.int (n : Int))))) ρ false :=
  et_is (et_test (ed_op (ed_var h0) ed_int (r_Ib (g := fun i j => decide (i < j))))) (decide_eq_false (by omega))
theorem way_sub {ρ : En} {k n j : Nat} (h0 : ρ[0]? = some (some (.int (k : Int)))) (h : k = j + n) : ED K (tOp (rI0 fun i j => .int (i - j)) (tVar 0) (tC (.int (n : Int)))) ρ (.int (j : Int)) :=
  ed_is (ed_op (ed_var h0) ed_int (r_Ii (g := fun i j => i - j))) (by rw [h]; congr 1; omega)
abbrev s__law_call : Stmt := topS 102
theorem f__law_call (c : Cd P w K mg base A) (a : At K mg "_law_call" s__law_call) : Fx P w K mg base "_law_call" ["_law_way", "_law_house", "_law_given"] 12 (SpX K R_none (X_call A)) := by
  have S : FnScope ["_law_way", "_law_house", "_law_given", "_law_calls"] ["_law_way", "_law_house", "_law_given"] (defScope s__law_call) := ⟨rfl, rfl, rfl, by decide +kernel, rfl, by decide +kernel, by decide +kernel⟩
  obtain ⟨a_is_walk, m_is_walk⟩ := c.is_walk.at
  obtain ⟨a_pressed_by, m_pressed_by⟩ := c.pressed_by.at
  obtain ⟨a_hands_light, m_hands_light⟩ := c.hands_light.at
  obtain ⟨a_first_shut, m_first_shut⟩ := c.first_shut.at
  obtain ⟨a_greatest_playable, m_greatest_playable⟩ := c.greatest_playable.at
  obtain ⟨a_why_unplayable, m_why_unplayable⟩ := c.why_unplayable.at
  obtain ⟨a_debts, m_debts⟩ := c.debts.at
  obtain ⟨a_are_stays, m_are_stays⟩ := c.are_stays.at
  obtain ⟨a_far_steps, m_far_steps⟩ := c.far_steps.at
  obtain ⟨a_earned, m_earned⟩ := c.earned.at
  obtain ⟨a_steps_between, m_steps_between⟩ := c.steps_between.at
  obtain ⟨a_open_steps, m_open_steps⟩ := c.open_steps.at
  obtain ⟨a_opened_by, m_opened_by⟩ := c.opened_by.at
  have c_opened_by := c.opened_by
  refine fx_mk a S (fun _ _ _ _ _ _ us hl => match us, hl with | [_, _, _], _ => rfl) (fun _ _ h => h.elim) (by rintro _ _ _ ⟨k, b, g, rfl, _⟩; rfl) fun f cdv A' outer s H E gu hr tk => ?_
  refine ⟨_, (pss_cons (ps_if (pt_cmpR op_lt (pv 0) pe_int (nomark _)) (pss_cons (ps_set (i := 3) S.nd rfl (by first | exact Or.inl rfl | exact Or.inr rfl) (pe_lst (pa_cons (pe_glob (v := .ref a_is_walk) (by rfl) m_is_walk rfl) (pa_cons (pe_glob (v := .ref a_pressed_by) (by rfl) m_pressed_by rfl) (pa_cons (pe_glob (v := .ref a_hands_light) (by rfl) m_hands_light rfl) (pa_cons (pe_glob (v := .ref a_first_shut) (by rfl) m_first_shut rfl) (pa_cons (pe_glob (v := .ref a_greatest_playable) (by rfl) m_greatest_playable rfl) (pa_cons (pe_glob (v := .ref a_why_unplayable) (by rfl) m_why_unplayable rfl) (pa_cons (pe_glob (v := .ref a_debts) (by rfl) m_debts rfl) (pa_cons (pe_glob (v := .ref a_are_stays) (by rfl) m_are_stays rfl) pa_nil))))))))))
  (pss_one (ps_ret (pe_callF gu (fun σ => passAt tk σ) (pe_ix ix_list (pv 3) (pv 0) (fun _ _ => rfl)) (pa_cons (pv 1) (pa_cons (pv 2) pa_nil)))))) pss_nil)
  (pss_cons (ps_if (pt_cmpR op_lt (pv 0) pe_int (nomark _)) (pss_one (ps_ret (pe_callF gu (fun σ => passAt tk σ) (pe_ix ix_list (pe_lst (pa_cons (pe_glob (v := .ref a_far_steps) (by rfl) m_far_steps rfl) (pa_cons (pe_glob (v := .ref a_earned) (by rfl) m_earned rfl) pa_nil))) (pe_op op_sub (pv 0) pe_int) (fun _ _ => rfl)) (pa_cons (pv 1) (pa_cons (pv 2) pa_nil))))) pss_nil)
  (pss_cons (ps_if (pt_cmpR op_lt (pv 0) pe_int (nomark _)) (pss_one (ps_ret (pe_callF gu (fun σ => passAt tk σ) (pe_ix ix_list (pe_lst (pa_cons (pe_glob (v := .ref a_steps_between) (by rfl) m_steps_between rfl) (pa_cons (pe_glob (v := .ref a_open_steps) (by rfl) m_open_steps rfl) pa_nil))) (pe_op op_sub (pv 0) pe_int) (fun _ _ => rfl)) (pa_cons (pv 1) (pa_cons (pv 2) (pa_cons pe_non pa_nil)))))) pss_nil)
  (pss_one (ps_ret (pe_fx c_opened_by gu (hr.mono (by decide)) (by rfl) (fun σ => passAt tk σ) (pa_cons (pv 1) (pa_cons (pv 2) (pa_cons pe_non (pa_cons pe_non pa_nil)))))))))), fun _ _ h => h.elim, ?_⟩
  rintro _ C _ ⟨k, b, g, rfl, hk, rfl, rfl, hb⟩
  by_cases h8 : k < 8
  · refine xz_in (way_lt rfl h8) ?_
    have hR : ∀ F ∈ fns2, XFy (clA A) F [b, g] A.House 0 := fun F hF => ⟨0, hb.two g F hF, rfl⟩
    have ar := eai_here (K := K) (ρ := (enOf ["_law_way", "_law_house", "_law_given", "_law_calls"] [.int (k : Int), b, g])) (i := 1) rfl (ea_cons (ed_var (i := 2) rfl) ea_nil)
    obtain ⟨j, hj, hjn⟩ : ∃ j, k = j + 0 ∧ j < 8 := ⟨k - 0, by omega, by omega⟩
    match j, hj, hjn with
    | 0, hj, _ => exact xz_asgF (fs := [a_is_walk, a_pressed_by, a_hands_light, a_first_shut, a_greatest_playable, a_why_unplayable, a_debts, a_are_stays]) (k := 0) (evs_cons (evs_cons (evs_cons (evs_cons (evs_cons (evs_cons (evs_cons (evs_cons evs_nil)))))))) (Nat.le_of_ble_eq_true rfl) (by decide) rfl (ed_is (ed_var (i := 0) rfl) (by rw [hj])) rfl (c.is_walk.callee (hr.mono (by decide)) m_is_walk) ar (hR _ (by simp [fns2]))
    | 1, hj, _ => exact xz_asgF (fs := [a_is_walk, a_pressed_by, a_hands_light, a_first_shut, a_greatest_playable, a_why_unplayable, a_debts, a_are_stays]) (k := 1) (evs_cons (evs_cons (evs_cons (evs_cons (evs_cons (evs_cons (evs_cons (evs_cons evs_nil)))))))) (Nat.le_of_ble_eq_true rfl) (by decide) rfl (ed_is (ed_var (i := 0) rfl) (by rw [hj])) rfl (c.pressed_by.callee (hr.mono (by decide)) m_pressed_by) ar (hR _ (by simp [fns2]))
    | 2, hj, _ => exact xz_asgF (fs := [a_is_walk, a_pressed_by, a_hands_light, a_first_shut, a_greatest_playable, a_why_unplayable, a_debts, a_are_stays]) (k := 2) (evs_cons (evs_cons (evs_cons (evs_cons (evs_cons (evs_cons (evs_cons (evs_cons evs_nil)))))))) (Nat.le_of_ble_eq_true rfl) (by decide) rfl (ed_is (ed_var (i := 0) rfl) (by rw [hj])) rfl (c.hands_light.callee (hr.mono (by decide)) m_hands_light) ar (hR _ (by simp [fns2]))
    | 3, hj, _ => exact xz_asgF (fs := [a_is_walk, a_pressed_by, a_hands_light, a_first_shut, a_greatest_playable, a_why_unplayable, a_debts, a_are_stays]) (k := 3) (evs_cons (evs_cons (evs_cons (evs_cons (evs_cons (evs_cons (evs_cons (evs_cons evs_nil)))))))) (Nat.le_of_ble_eq_true rfl) (by decide) rfl (ed_is (ed_var (i := 0) rfl) (by rw [hj])) rfl (c.first_shut.callee (hr.mono (by decide)) m_first_shut) ar (hR _ (by simp [fns2]))
    | 4, hj, _ => exact xz_asgF (fs := [a_is_walk, a_pressed_by, a_hands_light, a_first_shut, a_greatest_playable, a_why_unplayable, a_debts, a_are_stays]) (k := 4) (evs_cons (evs_cons (evs_cons (evs_cons (evs_cons (evs_cons (evs_cons (evs_cons evs_nil)))))))) (Nat.le_of_ble_eq_true rfl) (by decide) rfl (ed_is (ed_var (i := 0) rfl) (by rw [hj])) rfl (c.greatest_playable.callee (hr.mono (by decide)) m_greatest_playable) ar (hR _ (by simp [fns2]))
    | 5, hj, _ => exact xz_asgF (fs := [a_is_walk, a_pressed_by, a_hands_light, a_first_shut, a_greatest_playable, a_why_unplayable, a_debts, a_are_stays]) (k := 5) (evs_cons (evs_cons (evs_cons (evs_cons (evs_cons (evs_cons (evs_cons (evs_cons evs_nil)))))))) (Nat.le_of_ble_eq_true rfl) (by decide) rfl (ed_is (ed_var (i := 0) rfl) (by rw [hj])) rfl (c.why_unplayable.callee (hr.mono (by decide)) m_why_unplayable) ar (hR _ (by simp [fns2]))
    | 6, hj, _ => exact xz_asgF (fs := [a_is_walk, a_pressed_by, a_hands_light, a_first_shut, a_greatest_playable, a_why_unplayable, a_debts, a_are_stays]) (k := 6) (evs_cons (evs_cons (evs_cons (evs_cons (evs_cons (evs_cons (evs_cons (evs_cons evs_nil)))))))) (Nat.le_of_ble_eq_true rfl) (by decide) rfl (ed_is (ed_var (i := 0) rfl) (by rw [hj])) rfl (c.debts.callee (hr.mono (by decide)) m_debts) ar (hR _ (by simp [fns2]))
    | 7, hj, _ => exact xz_asgF (fs := [a_is_walk, a_pressed_by, a_hands_light, a_first_shut, a_greatest_playable, a_why_unplayable, a_debts, a_are_stays]) (k := 7) (evs_cons (evs_cons (evs_cons (evs_cons (evs_cons (evs_cons (evs_cons (evs_cons evs_nil)))))))) (Nat.le_of_ble_eq_true rfl) (by decide) rfl (ed_is (ed_var (i := 0) rfl) (by rw [hj])) rfl (c.are_stays.callee (hr.mono (by decide)) m_are_stays) ar (hR _ (by simp [fns2]))
  refine xz_skip (way_ge (n := 8) rfl (by omega)) ?_
  by_cases h10 : k < 10
  · refine xz_in (way_lt rfl h10) ?_
    have hR : ∀ F ∈ fns2, XFy (clA A) F [b, g] A.House 0 := fun F hF => ⟨0, hb.two g F hF, rfl⟩
    have ar := eai_here (K := K) (ρ := (enOf ["_law_way", "_law_house", "_law_given", "_law_calls"] [.int (k : Int), b, g])) (i := 1) rfl (ea_cons (ed_var (i := 2) rfl) ea_nil)
    obtain ⟨j, hj, hjn⟩ : ∃ j, k = j + 8 ∧ j < 2 := ⟨k - 8, by omega, by omega⟩
    match j, hj, hjn with
    | 0, hj, _ => exact xz_retF (ef_ix (fs := [a_far_steps, a_earned]) (evs_cons (evs_cons evs_nil)) (way_sub rfl hj) (i := 0) rfl (Nat.le_of_ble_eq_true rfl)) (c.far_steps.callee (hr.mono (by decide)) m_far_steps) ar (hR _ (by simp [fns2]))
    | 1, hj, _ => exact xz_retF (ef_ix (fs := [a_far_steps, a_earned]) (evs_cons (evs_cons evs_nil)) (way_sub rfl hj) (i := 1) rfl (Nat.le_of_ble_eq_true rfl)) (c.earned.callee (hr.mono (by decide)) m_earned) ar (hR _ (by simp [fns2]))
  obtain ⟨t1, t2, t3⟩ := hb.three g
  refine xz_skip (way_ge (n := 10) rfl (by omega)) ?_
  by_cases h12 : k < 12
  · refine xz_in (way_lt rfl h12) ?_
    have ar := eai_here (K := K) (ρ := (enOf ["_law_way", "_law_house", "_law_given", "_law_calls"] [.int (k : Int), b, g])) (i := 1) rfl (ea_cons (ed_var (i := 2) rfl) (ea_cons ed_non ea_nil))
    obtain ⟨j, hj, hjn⟩ : ∃ j, k = j + 10 ∧ j < 2 := ⟨k - 10, by omega, by omega⟩
    match j, hj, hjn with
    | 0, hj, _ => exact xz_retF (ef_ix (fs := [a_steps_between, a_open_steps]) (evs_cons (evs_cons evs_nil)) (way_sub rfl hj) (i := 0) rfl (Nat.le_of_ble_eq_true rfl)) (c.steps_between.callee (hr.mono (by decide)) m_steps_between) ar ⟨0, t1, rfl⟩
    | 1, hj, _ => exact xz_retF (ef_ix (fs := [a_steps_between, a_open_steps]) (evs_cons (evs_cons evs_nil)) (way_sub rfl hj) (i := 1) rfl (Nat.le_of_ble_eq_true rfl)) (c.open_steps.callee (hr.mono (by decide)) m_open_steps) ar ⟨0, t2, rfl⟩
  refine xz_skip (way_ge (n := 12) rfl (by omega)) ?_
  exact xz_ret (eai_here (i := 1) rfl (ea_cons (ed_var (i := 2) rfl) (ea_cons ed_non (ea_cons ed_non ea_nil)))) ⟨0, t3, rfl⟩
end
end TD

set_option maxHeartbeats 8000000
namespace TD
open PySem PySem.Spec PyProof.Rows L2
open Evl (Ex)
theorem ed_dnew {K : Fg} {ρ : En} : ED K tDNewK ρ (.dict []) := fun σ B H s _ Q q => fun p hp => q _ _ _ (Le.new s hp) (.dic (kvs := []) upd_same .nil)
abbrev gdo (b : PyData) : Bool := gdB 8 1000000 b
abbrev GB (x : PyData) : Prop := Gd 8 1000000 x
theorem fine0 {x : PyData} (h : GB x) : Fine x := h.fine (by decide) (by decide)
theorem gd_big {i : Int} (h : -10 ^ 30 ≤ i ∧ i ≤ 10 ^ 30) : Gd 0 2000 (.int i) := by
  refine ⟨rfl, decide_eq_true ?_, Nat.zero_le _, Nat.le_of_ble_eq_true rfl⟩
  have h1 : i.natAbs < 2 ^ 100 := Nat.lt_of_le_of_lt (show i.natAbs ≤ 10 ^ 30 by omega) (by decide)
  exact Nat.lt_of_lt_of_le (PySem.Flt.log2_lt_of (by decide) h1) (by decide)
theorem gb_big {i : Int} (h : -10 ^ 30 ≤ i ∧ i ≤ 10 ^ 30) : GB (.int i) := (gd_big h).up' (by decide) (by decide)
theorem gl1 {k w : Nat} {d : PyData} (h : Gd k w d) : Gd (k + 1) (1 * (w + 2) + 5) (.list [d]) := gd_list (fun x hx => by rw [List.mem_singleton.mp hx]; exact h) (Nat.le_refl _) (by decide)
def levD : PyData := .tuple [.int 2, .list [.tuple [.list [.int 0], .int 1, .int (-1)]]]
def backD : PyData := .tuple [levD, .list [.list [], .list [.int 0]], .list [.tuple [.int 0, .int 1, .list [.int 1]], .tuple [.int 1, .int 0, .list []]]]
def oneD : PyData := .tuple [.tuple [.int 1, .list []], .list [.list [], .list []], .list [.tuple [.int 0, .int 1, .list []]]]
def fns7 : List (List PyData → FR) := [F_pressed_by, F_hands_light, F_first_shut, F_greatest_playable, F_why_unplayable, F_debts, F_earned]
def zs : List PyData := [.none, .int 0]
def houB0 : List PyData := [.none, .int 5, .tuple [], .list [], .tuple [levD, .list [.list []]], .tuple [levD, .list [], .list []], .tuple [levD, .list [.list [.int 2]], .list []], .tuple [levD, .list [.list [.int 1, .int 0]], .list []]]
def houB1 : List PyData := [.tuple [levD, .tuple [.list []], .list []], .tuple [levD, .list [.list []], .none], .tuple [levD, .list [.list [], .list []], .list [.tuple [.int 0, .int 0, .list []]]]]
def houB2 : List PyData := [.tuple [levD, .list [.list [], .list []], .list [.tuple [.int 0, .int 2, .list []]]], .tuple [levD, .list [.list [], .list []], .list [.tuple [.int 0, .int 1]]], .tuple [levD, .list [.list [], .list []], .list [.list [.int 0, .int 1, .list []]]]]
def houB3 : List PyData := [.tuple [.tuple [.int 0, .list []], .list [.list []], .list []], .tuple [.none, .list [.list []], .list []], .list [levD, .list [.list []], .list []], .tuple [levD, .list [.list [.bool true]], .list []]]
def oddB0 : List PyData := [.tuple [.int 0, .int 1, .list [.int 1, .int 0]], .tuple [.int 0, .int 1, .list [.int 0, .int 0]], .tuple [.int 0, .int 1, .none], .tuple [.int 0, .int 1, .tuple []], .tuple [.int 0, .int 1, .list [.str "0"]], .tuple [.int 0, .int 1, .list [.bool true]], .tuple [.int 0, .int 1, .list [.int (-1)]]]
def oddB1 : List PyData := [.tuple [.int 0, .int (-1), .list []], .tuple [.int 2, .int 0, .list []], .tuple [.bool true, .int 0, .list []], .tuple [.none, .int 1, .list []], .tuple [.int 0, .str "1", .list []], .tuple [.int 0, .int 1, .list [], .int 0]]
def walB0 : List PyData := [.none, .int 0, .tuple [], .dict [], .str "0", .list [.list []], .list [.list [.int 0], .list []], .list [.int 0], .list [.tuple [.int 0, .int 1]], .list [.list [.int 2]], .list [.list [.int (-1)]], .list [.list [.bool true]], .list [.list [.str "0"]], .list [.list [.none]]]
def walB1 (n : Int) : List PyData := [.list [.list [.int 0, .int 1], .list [.int 0, .int 2]], .tuple [.list [.int 0, .int 1]], .list [.list [.list [.int 0]]], .list [.list [.int (n + 2)]]]
def oneB0 : List PyData := [.list [.list [.int 1, .int 0]], .list [.list [.int 0, .int 1], .list [.int 1, .int 0]], .list [.list [.int 0, .int 0, .int 1, .int 0]]]
def putB0 : List PyData := [.none, .int 0, .tuple [], .dict [], .str "0", .list [.list []], .list [.list [.int 0], .list []], .list [.int 0], .list [.tuple [.int 0]], .list [.list [.int (-1)]], .list [.list [.bool true]], .list [.list [.str "0"]], .list [.list [.int 0], .none]]
def putN0 (n : Int) : List PyData := [.none, .int (-1), .bool true, .str "1", .list [.int 1], .int ((0 - 1) - n)]
def numB_0 (n : Int) : List PyData := [.none, .int (-1), .int 2, .bool true, .str "0", .list [.int 0], .tuple [.int 0], .int (n + 2)]
def staB0 : List PyData := [.none, .int 0, .tuple [], .dict [], .list [], .list [.tuple [.int 0, .int 0]], .list [.tuple [.int 0, .int 1], .tuple [.int 0, .int 1]], .list [.tuple [.int 2, .int 1]], .list [.tuple [.int (-1), .int 1]], .list [.list [.int 0, .int 1]], .list [.tuple [.int 0]], .list [.tuple [.int 0, .int 1, .int 1]]]
def staB1 (n : Int) : List PyData := [.list [.tuple [.int 0, .bool true]], .list [.tuple [.bool true, .int 1]], .list [.tuple [.int 0, .str "1"]], .tuple [.tuple [.int 0, .int 1]], .list [.tuple [.int 0, .int 1], .none], .list [.tuple [.int (n + 2), .int 1]]]
def stepG (x : PyData) : PyData := .tuple [levD, .list [.list [], .list []], .list [.tuple [.int 1, .int 0, .list []], x]]
def houC : List PyData := picked (oddB0 ++ oddB1) (fun _ => true) stepG
def okH (b : PyData) : Bool := !isMark b && isV false (F_fits_house [b]) && gdo b
theorem h_ok {b : PyData} (h : okH b = true) : HB b ∧ Fine b := by
  unfold okH at h
  simp only [Bool.and_eq_true, Bool.not_eq_true'] at h
  exact ⟨⟨h.1.1, isV_eq h.1.2⟩, fine0 (gd_of h.2)⟩
def okWv (b : PyData) : Bool := (fns7.all fun F => isX 3 1 (F [backD, b])) && zs.all fun z => isX 3 1 (F_open_steps [backD, b, z]) && isX 3 1 (F_opened_by [backD, b, z, .none])
structure WB (b : PyData) : Prop where
  two : ∀ F ∈ fns7, F [backD, b] = .x 3 1
  op : ∀ z ∈ zs, F_open_steps [backD, b, z] = .x 3 1
  ob : ∀ z ∈ zs, F_opened_by [backD, b, z, .none] = .x 3 1
  fi : Fine b
theorem w_ok {b : PyData} (h : okWv b = true) (g : Fine b) : WB b := by
  unfold okWv at h
  rw [Bool.and_eq_true, List.all_eq_true, List.all_eq_true] at h
  refine ⟨fun F hF => isX_eq (h.1 F hF), fun z hz => ?_, fun z hz => ?_, g⟩
  · have := h.2 z hz
    rw [Bool.and_eq_true] at this
    exact isX_eq this.1
  · have := h.2 z hz
    rw [Bool.and_eq_true] at this
    exact isX_eq this.2
def okW (b : PyData) : Bool := okWv b && gdo b
theorem w_ok' {b : PyData} (h : okW b = true) : WB b := by
  unfold okW at h
  rw [Bool.and_eq_true] at h
  exact w_ok h.1 (fine0 (gd_of h.2))
def okO (b : PyData) : Bool := (fns7.all fun F => isX 3 1 (F [oneD, b])) && isX 3 1 (F_open_steps [oneD, b, .int 0]) && isX 3 1 (F_opened_by [oneD, b, .int 0, .int 0]) && gdo b
structure OB (b : PyData) : Prop where
  two : ∀ F ∈ fns7, F [oneD, b] = .x 3 1
  op : F_open_steps [oneD, b, .int 0] = .x 3 1
  ob : F_opened_by [oneD, b, .int 0, .int 0] = .x 3 1
  fi : Fine b
theorem o_ok {b : PyData} (h : okO b = true) : OB b := by
  unfold okO at h
  simp only [Bool.and_eq_true] at h
  exact ⟨fun F hF => isX_eq (List.all_eq_true.mp h.1.1.1 F hF), isX_eq h.1.1.2, isX_eq h.1.2, fine0 (gd_of h.2)⟩
def okP' (b : PyData) : Bool := isX 3 0 (F_put_off [b, .none]) && isX 3 0 (F_put_off [b, .int 1]) && gdo b
structure PB (b : PyData) : Prop where
  tw : ∀ z ∈ ([.none, .int 1] : List PyData), F_put_off [b, z] = .x 3 0
  fi : Fine b
theorem p_ok {b : PyData} (h : okP' b = true) : PB b := by
  unfold okP' at h
  simp only [Bool.and_eq_true] at h
  exact ⟨List.forall_mem_cons.mpr ⟨isX_eq h.1.1, List.forall_mem_cons.mpr ⟨isX_eq h.1.2, fun _ w => nomatch w⟩⟩, fine0 (gd_of h.2)⟩
def w01 : PyData := .list [.list [.int 0, .int 1]]
def okN' (b : PyData) : Bool := isX 1 1 (F_put_off [w01, b]) && gdo b
structure QB (b : PyData) : Prop where
  pu : F_put_off [w01, b] = .x 1 1
  fi : Fine b
theorem q_ok {b : PyData} (h : okN' b = true) : QB b := by
  unfold okN' at h
  simp only [Bool.and_eq_true] at h
  exact ⟨isX_eq h.1, fine0 (gd_of h.2)⟩
def wA : PyData := .list [.list [.int 0, .int 1], .list [.int 1]]
def wC : PyData := .list [.list [.int 0, .int 1, .int 1], .list [.int 1]]
def okNv (b : PyData) : Bool := (zs.all fun z => isX 1 1 (F_steps_between [backD, b, z]) && isX 1 2 (F_opened_by [backD, wA, b, z])) && (isX 1 2 (F_steps_between [backD, .int 1, b]) && (isX 1 2 (F_open_steps [backD, wA, b]) && isX 1 3 (F_opened_by [backD, wC, .int 0, b])))
structure NB (b : PyData) : Prop where
  s1 : ∀ z ∈ zs, F_steps_between [backD, b, z] = .x 1 1
  o1 : ∀ z ∈ zs, F_opened_by [backD, wA, b, z] = .x 1 2
  s2 : F_steps_between [backD, .int 1, b] = .x 1 2
  o2 : F_open_steps [backD, wA, b] = .x 1 2
  o3 : F_opened_by [backD, wC, .int 0, b] = .x 1 3
  fi : Fine b
theorem n_ok {b : PyData} (h : okNv b = true) (g : Fine b) : NB b := by
  unfold okNv at h
  simp only [Bool.and_eq_true, List.all_eq_true] at h
  exact ⟨fun z hz => isX_eq (h.1 z hz).1, fun z hz => isX_eq (h.1 z hz).2, isX_eq h.2.1, isX_eq h.2.2.1, isX_eq h.2.2.2, g⟩
theorem n_ok' {b : PyData} (h : (okNv b && gdo b) = true) : NB b := by
  rw [Bool.and_eq_true] at h
  exact n_ok h.1 (fine0 (gd_of h.2))
def okSv (b : PyData) : Bool := isX 2 1 (F_far_steps [backD, b]) && isV false (F_are_stays [backD, b])
structure SB (b : PyData) : Prop where
  fa : F_far_steps [backD, b] = .x 2 1
  st : F_are_stays [backD, b] = .v (.bool false) .none
  fi : Fine b
theorem s_ok {b : PyData} (h : okSv b = true) (g : Fine b) : SB b := by
  unfold okSv at h
  simp only [Bool.and_eq_true] at h
  exact ⟨isX_eq h.1, isV_eq h.2, g⟩
theorem s_ok' {b : PyData} (h : (okSv b && gdo b) = true) : SB b := by
  rw [Bool.and_eq_true] at h
  exact s_ok h.1 (fine0 (gd_of h.2))
theorem far_nat {n : Int} (hn : 0 ≤ n ∧ n < 10 ^ 29) : ∃ k : Nat, n = Int.ofNat k := ⟨n.toNat, by show n = ((n.toNat : Nat) : Int); omega⟩
theorem wal_far {n : Int} (hn : 0 ≤ n ∧ n < 10 ^ 29) : WB (.list [.list [.int (n + 2)]]) := by
  refine w_ok ?_ (fine0 ((gl1 (gl1 (gd_big (i := n + 2) (by omega)))).up' (by decide) (by decide)))
  obtain ⟨k, rfl⟩ := far_nat hn
  with_unfolding_all rfl
theorem put_far {n : Int} (hn : 0 ≤ n ∧ n < 10 ^ 29) : QB (.int ((0 - 1) - n)) := by
  refine ⟨?_, fine0 (gb_big (by omega))⟩
  obtain ⟨k, e⟩ : ∃ k : Nat, (0 - 1) - n = Int.negSucc k := ⟨n.toNat, by show (0 - 1) - n = Int.negSucc n.toNat; omega⟩
  rw [e]
  with_unfolding_all rfl
theorem zCallX {F : List PyData → FR} {ks : List AK} {fl : En → AR} {ρ ρ1 : En} {ds : List PyData} {c j i : Nat} (h : fl ρ = .vs ds ρ1) (h2 : F ds = .x c j) (hk : ownArg 0 ks = none := by rfl) (hj : ks[j]? = some (.s i) := by rfl) : eCall F ks fl ρ = .x c i := by
  unfold eCall aE
  rw [h]
  dsimp only
  rw [hk]
  dsimp only
  rw [h2]
  dsimp only
  rw [hj]
theorem zDropX {fa : En → ER} {ρ : En} {c i : Nat} (h : fa ρ = .x c i) : sDrop (eFz fa) ρ = .x c i := by
  unfold sDrop eFz
  rw [h]
theorem tick_no {i m : Int} (h : 0 ≤ i ∧ m ≤ i) : F_check_tick [.int m, .int i] = .x 1 1 := by
  have c : tVal' (eCB gIsCount (aCons (eVar 1) aNil)) [some (.int m), some (.int i)] = .b true [some (.int m), some (.int i)] := zVal (zCB (zOne (zVar rfl)) (by show some (PyData.bool (decide (0 ≤ i))) = _; rw [decide_eq_true h.1]))
  have d : tVal' (eOp (gB fun i j => decide (j ≤ i)) (eVar 1) (eVar 0)) [some (.int m), some (.int i)] = .b true [some (.int m), some (.int i)] := zVal (zOp (zVar rfl) (zVar rfl) (by show some (PyData.bool (decide (m ≤ i))) = _; rw [decide_eq_true h.2]))
  have e : sIf (tOrZ (tNotZ (tVal' (eCB gIsCount (aCons (eVar 1) aNil)))) (tVal' (eOp (gB fun i j => decide (j ≤ i)) (eVar 1) (eVar 0)))) (sRaise 1 1) sNext [some (.int m), some (.int i)] = .x 1 1 := zSIfT (zOrF (zNot (b := true) c) d) rfl
  exact zFn rfl (congrArg (finY none) e)
theorem num_far {n : Int} (hn : 0 ≤ n ∧ n < 10 ^ 29) : NB (.int (n + 2)) := by
  have t2 := tick_no (i := n + 2) (m := 2) (by omega)
  have o1 : ∀ z : PyData, F_opened_by [backD, wA, .int (n + 2), z] = .x 1 2 := fun z => by
    refine zFn rfl (congrArg (finY none) (zSeq (ρ1 := [some backD, some wA, some (.int (n + 2)), some z]) (by with_unfolding_all rfl) (zSeq (ρ1 := [some backD, some wA, some (.int (n + 2)), some z]) (by with_unfolding_all rfl) (zSeqX (zDropX (zCallX (ds := [.int 2, .int (n + 2)]) (zTwo (zCB (zOne (zVar rfl)) rfl) (zVar rfl)) t2))))))
  have o2 : F_open_steps [backD, wA, .int (n + 2)] = .x 1 2 := by
    refine zFn rfl (congrArg (finY none) (zSeq (ρ1 := [some backD, some wA, some (.int (n + 2)), none, none]) (by with_unfolding_all rfl) (zSeq (ρ1 := [some backD, some wA, some (.int (n + 2)), none, none]) (by with_unfolding_all rfl) (zSeqX (zDropX (zCallX (ds := [.int 2, .int (n + 2)]) (zTwo (zCB (zOne (zVar rfl)) rfl) (zVar rfl)) t2))))))
  have o3 : F_opened_by [backD, wC, .int 0, .int (n + 2)] = .x 1 3 := by
    refine zFn rfl (congrArg (finY none) (zSeq (ρ1 := [some backD, some wC, some (.int 0), some (.int (n + 2))]) (by with_unfolding_all rfl) (zSeq (ρ1 := [some backD, some wC, some (.int 0), some (.int (n + 2))]) (by with_unfolding_all rfl) (zSeq (ρ1 := [some backD, some wC, some (.int 0), some (.int (n + 2))]) (by with_unfolding_all rfl) (zSeqX (zDropX (zCallX (ds := [.int 2, .int (n + 2)]) (zTwo (zOp (zCB (zOne (zOp (zVar rfl) (zVar rfl) rfl)) rfl) (show eC (.int 1) _ = .v (.int 1) _ from rfl) rfl) (zVar rfl)) t2)))))))
  refine ⟨?_, fun z _ => o1 z, ?_, o2, o3, fine0 (gb_big (by omega))⟩
  · obtain ⟨k, rfl⟩ := far_nat hn
    exact List.forall_mem_cons.mpr ⟨by with_unfolding_all rfl, List.forall_mem_cons.mpr ⟨by with_unfolding_all rfl, fun _ w => nomatch w⟩⟩
  · obtain ⟨k, rfl⟩ := far_nat hn
    with_unfolding_all rfl
theorem sta_far {n : Int} (hn : 0 ≤ n ∧ n < 10 ^ 29) : SB (.list [.tuple [.int (n + 2), .int 1]]) := by
  refine s_ok ?_ (fine0 ((gl1 (gd_tup (k := 0) (w := 2000) (n := 2) (ds := [.int (n + 2), .int 1]) (List.forall_mem_cons.mpr ⟨gd_big (by omega), List.forall_mem_cons.mpr ⟨gd_big (by omega), fun _ h => nomatch h⟩⟩) (Nat.le_refl _) (by decide))).up' (by decide) (by decide)))
  obtain ⟨k, rfl⟩ := far_nat hn
  with_unfolding_all rfl
theorem houB0_ok : ∀ b ∈ houB0, HB b ∧ Fine b := fun b hb => h_ok (List.all_eq_true.mp (show houB0.all okH = true by decide +kernel) b hb)
theorem houB1_ok : ∀ b ∈ houB1, HB b ∧ Fine b := fun b hb => h_ok (List.all_eq_true.mp (show houB1.all okH = true by decide +kernel) b hb)
theorem houB2_ok : ∀ b ∈ houB2, HB b ∧ Fine b := fun b hb => h_ok (List.all_eq_true.mp (show houB2.all okH = true by decide +kernel) b hb)
theorem houB3_ok : ∀ b ∈ houB3, HB b ∧ Fine b := fun b hb => h_ok (List.all_eq_true.mp (show houB3.all okH = true by decide +kernel) b hb)
theorem houC_ok : ∀ b ∈ houC, HB b ∧ Fine b := fun b hb => h_ok (List.all_eq_true.mp (show houC.all okH = true by decide +kernel) b hb)
theorem walB0_ok : ∀ b ∈ walB0, WB b := fun b hb => w_ok' (List.all_eq_true.mp (show walB0.all okW = true by decide +kernel) b hb)
theorem walB1_ok {n : Int} (hn : 0 ≤ n ∧ n < 10 ^ 29) : ∀ b ∈ walB1 n, WB b := List.forall_mem_cons.mpr ⟨(w_ok' (by decide +kernel)), List.forall_mem_cons.mpr ⟨(w_ok' (by decide +kernel)), List.forall_mem_cons.mpr ⟨(w_ok' (by decide +kernel)), List.forall_mem_cons.mpr ⟨(wal_far hn), fun _ h => nomatch h⟩⟩⟩⟩
theorem oneB0_ok : ∀ b ∈ oneB0, OB b := fun b hb => o_ok (List.all_eq_true.mp (show oneB0.all okO = true by decide +kernel) b hb)
theorem putB0_ok : ∀ b ∈ putB0, PB b := fun b hb => p_ok (List.all_eq_true.mp (show putB0.all okP' = true by decide +kernel) b hb)
theorem putN0_ok {n : Int} (hn : 0 ≤ n ∧ n < 10 ^ 29) : ∀ b ∈ putN0 n, QB b := List.forall_mem_cons.mpr ⟨(q_ok (by decide +kernel)), List.forall_mem_cons.mpr ⟨(q_ok (by decide +kernel)), List.forall_mem_cons.mpr ⟨(q_ok (by decide +kernel)), List.forall_mem_cons.mpr ⟨(q_ok (by decide +kernel)), List.forall_mem_cons.mpr ⟨(q_ok (by decide +kernel)), List.forall_mem_cons.mpr ⟨(put_far hn), fun _ h => nomatch h⟩⟩⟩⟩⟩⟩
theorem numB_0_ok {n : Int} (hn : 0 ≤ n ∧ n < 10 ^ 29) : ∀ b ∈ numB_0 n, NB b := List.forall_mem_cons.mpr ⟨(n_ok' (by decide +kernel)), List.forall_mem_cons.mpr ⟨(n_ok' (by decide +kernel)), List.forall_mem_cons.mpr ⟨(n_ok' (by decide +kernel)), List.forall_mem_cons.mpr ⟨(n_ok' (by decide +kernel)), List.forall_mem_cons.mpr ⟨(n_ok' (by decide +kernel)), List.forall_mem_cons.mpr ⟨(n_ok' (by decide +kernel)), List.forall_mem_cons.mpr ⟨(n_ok' (by decide +kernel)), List.forall_mem_cons.mpr ⟨(num_far hn), fun _ h => nomatch h⟩⟩⟩⟩⟩⟩⟩⟩
theorem staB0_ok : ∀ b ∈ staB0, SB b := fun b hb => s_ok' (List.all_eq_true.mp (show staB0.all (fun b => okSv b && gdo b) = true by decide +kernel) b hb)
theorem staB1_ok {n : Int} (hn : 0 ≤ n ∧ n < 10 ^ 29) : ∀ b ∈ staB1 n, SB b := List.forall_mem_cons.mpr ⟨(s_ok' (by decide +kernel)), List.forall_mem_cons.mpr ⟨(s_ok' (by decide +kernel)), List.forall_mem_cons.mpr ⟨(s_ok' (by decide +kernel)), List.forall_mem_cons.mpr ⟨(s_ok' (by decide +kernel)), List.forall_mem_cons.mpr ⟨(s_ok' (by decide +kernel)), List.forall_mem_cons.mpr ⟨(sta_far hn), fun _ h => nomatch h⟩⟩⟩⟩⟩⟩
abbrev houB : List PyData := ((((houB0 ++ houB1) ++ houB2) ++ houB3) ++ houC)
theorem houB_ok : ∀ b ∈ houB, HB b ∧ Fine b := fun b hb => (List.mem_append.mp hb).elim (fun h4 => (List.mem_append.mp h4).elim (fun h3 => (List.mem_append.mp h3).elim (fun h2 => (List.mem_append.mp h2).elim (fun h1 => houB0_ok b h1) (fun h1 => houB1_ok b h1)) (fun h2 => houB2_ok b h2)) (fun h3 => houB3_ok b h3)) (fun h4 => houC_ok b h4)
abbrev walB (n : Int) : List PyData := (walB0 ++ walB1 n)
theorem walB_ok {n : Int} (hn : 0 ≤ n ∧ n < 10 ^ 29) : ∀ b ∈ walB n, WB b := fun b hb => (List.mem_append.mp hb).elim (fun h1 => walB0_ok b h1) (fun h1 => walB1_ok hn b h1)
abbrev staB (n : Int) : List PyData := (staB0 ++ staB1 n)
theorem staB_ok {n : Int} (hn : 0 ≤ n ∧ n < 10 ^ 29) : ∀ b ∈ staB n, SB b := fun b hb => (List.mem_append.mp hb).elim (fun h1 => staB0_ok b h1) (fun h1 => staB1_ok hn b h1)
def staysD : PyData := .list [.tuple [.int 1, .int 1], .tuple [.int 0, .int 1]]
theorem stays_no : F_far_steps [oneD, staysD] = .x 2 1 ∧ Fine staysD := ⟨isX_eq (by decide +kernel), fine0 (gd_of (by decide +kernel))⟩
theorem last_no : F_opened_by [backD, wA, .int 1, .int 0] = .x 1 3 ∧ F_open_steps [backD, .list [], .int 0] = .x 1 2 ∧ F_is_walk [backD, .none] = .v (.bool false) .none := ⟨isX_eq (by decide +kernel), isX_eq (by decide +kernel), isV_eq (by decide +kernel)⟩
end TD

set_option maxHeartbeats 8000000
namespace TD
open PySem PySem.Spec PyProof.Rows L2
open Evl (Ex)
open LamX (CodeO Tabs TabS TabB ExtN)
structure BR (mg : Str → Option Value) : Prop where
  range : mg "range" = none
def qL (x : Str) : Str := (x ++ ".<locals>.") ++ "<lambda>"
def spTab (K : Fg) (Ts : List (Addr × Str)) : Sp := fun vs H Q _ => ∃ n : Int, vs = [.int n] ∧ (0 ≤ n ∧ n < 10 ^ 29) ∧ Tabs Ts H ∧ ∀ H', Tabs Ts H' → Q (.bl true) H'
def spTab0 (K : Fg) (Ts : List (Addr × Str)) : Sp := fun vs H Q _ => vs = [] ∧ Tabs Ts H ∧ ∀ H', Tabs Ts H' → Q (.bl true) H'
section
variable {K : Fg} {ta : TA} {u : TS} {ρ : En} {i j : Nat} {d1 : PyData} {T : List (Addr × Str)}
theorem xt_asg2 {D : Ends} {σ : L2.St} {B H : Hp} (h : EA K ta ρ [d1]) (hi : i < ρ.length) (hj : j ≠ i) (r : ∀ σ B H, Ex B H → SD K B σ ((ρ.set i none).set j (some d1)) → TQ T i 0 σ B H → u D σ H) (s : Ex B H) (nt : NT B) (sd : SD K B σ ρ) (tb : Tabs T H) :
    tSeq (tAsg (tTup (tCons (tLst tNil) ta)) (gTup K 2 (gCons (gName i) (gCons (gName j) gNil)))) u D σ H := by
  refine ⟨by show 0 ≤ sizeLine; decide, fun p hp => ?_⟩
  have bp : B p = none := Evl.fresh_back s hp
  have l0 : Le B H B (upd H p (.lst [])) := ⟨Ex.new hp, Ex.refl B, s.trans (Ex.new hp), fun _ h _ => h⟩
  refine h σ B _ l0.sub sd _ fun vs B1 H1 l1 dd => ?_
  obtain ⟨v1, r1, rfl, a1, dd⟩ := dd.inv1
  cases dd
  have e := l1.ex _ _ (upd_same (H := H) (a := p) (o := .lst []))
  have nb : B1 p = none := l1.old p bp (fun z => by rw [upd_same] at z; cases z)
  refine ⟨by show 2 ≤ sizeLine; decide, fun q hq => ?_⟩
  have k : Ex H1 (upd H1 q (.tup [.ref p, v1])) := Ex.new hq
  refine ⟨q, _, rfl, Evl.st_of upd_same, rfl, _, _, rfl, _, _, rfl, rfl, ?_⟩
  refine r _ (noT B1) _ ((noT_sub l1.sub).trans k) (((sd.up l1.ek).drop i _).put j a1).noT ⟨noT_nt B1, ⟨p, [], ?_, k _ _ e, noT_none nb, Nat.le_refl _, fun _ h => nomatch h⟩, ((tb.ext (Ex.new hp)).ext l1.ex).ext k⟩
  rw [List.getElem?_set_ne hj, List.getElem?_set_self (by rw [sd.1]; exact hi)]
end
section
variable {P : Program} {w : World} {K : Fg} {mg : Str → Option Value} {base : Heap} {A : Ad4} {DE : Addr} {Ts : List (Addr × Str)} {cd Pt : Addr}
theorem call_bad {x : Nat} {b g : PyData} (hx : x < 13) (h : HB b) : X_call A [.int ((0 : Int) + (x : Int)), b, g] A.House 1 := ⟨x, b, g, by rw [Int.zero_add], hx, rfl, rfl, h⟩
theorem cx_none {P : Program} {w : World} {os : List Env} {H : Hp} {s s' : Shared} {e : Value} (h : L2.CX P w os H s (fun _ _ _ => False) e s') : False := by
  obtain ⟨_, _, _, _, _, h⟩ := h
  exact h.2.2.2.2.2.2.2
def B0 : Hp := fun _ => none
theorem ex_B0 {H : Hp} : Ex B0 H := fun _ _ z => nomatch z
theorem nt_B0 : NT B0 := fun _ _ z => nomatch z
theorem is_false {te : TE} {ρ : En} (h : ED K te ρ (.bool false)) : ED K (tOp rIsB te (tC (.bl false))) ρ (.bool true) := ed_op h ed_bl (o_isB _ _ _ rfl)
abbrev s__law_houses_refused : Stmt := topS 103
theorem f__law_houses_refused (T : BR mg) (T7 : B7 mg) (sm : ∃ mm, base.Ns sysModules mm) (Z : Ce K mg A DE) (kIn : K.In base) (hns : base.Ns mainGlobals mg) (htab : PySem.W.tabIn K "_law_houses_refused" = some (cd, Pt)) (TB : TabB base mg cd Pt) (hmT : (Pt, qL "_law_houses_refused") ∈ Ts) (huT : ∀ p ∈ Ts, p.1 = Pt → p.2 = qL "_law_houses_refused")
    (c_ref : At K mg "_law_refused" s__law_refused) (c__law_call : Fx P w K mg base "_law_call" ["_law_way", "_law_house", "_law_given"] 12 (SpX K R_none (X_call A))) (c_is_house : Fx P w K mg base "is_house" ["value"] 10 (SpX K (RF F_is_house) (XFy (clA A) F_is_house))) (a : At K mg "_law_houses_refused" s__law_houses_refused) : Fc P w K mg base "_law_houses_refused" [] 15 (spTab0 K Ts) := by
  have S : FnScope ["_law_due", "_law_level", "_law_bads", "_law_odd", "_law_step", "_law_bad", "_law_way", "_law_given"] [] (defScope s__law_houses_refused) := ⟨rfl, rfl, rfl, by decide +kernel, rfl, by decide +kernel, by decide +kernel⟩
  obtain ⟨f, fd, F, hm⟩ := a
  refine ⟨f, fd, hm, F.kp, F.binds (fun _ _ _ _ _ _ us hl => match us, hl with | [], _ => rfl), fnGT F hm kIn hns htab S (by rintro vs H Q E ⟨rfl, _⟩; rfl) ?_⟩
  rintro A' outer s H vs Q E gu hr ⟨rfl, tb, hq⟩
  have hc : (cxOf CX0 P w K mg base ["_law_due", "_law_level", "_law_bads", "_law_odd", "_law_step", "_law_bad", "_law_way", "_law_given"] "_law_houses_refused" (defScope s__law_houses_refused) f (.ref cd) A' outer s H E).nox.calm = true := rfl
  have hps : ∃ t, PSs (cxOf CX0 P w K mg base ["_law_due", "_law_level", "_law_bads", "_law_odd", "_law_step", "_law_bad", "_law_way", "_law_given"] "_law_houses_refused" (defScope s__law_houses_refused) f (.ref cd) A' outer s H E).nox (defBody s__law_houses_refused) t ∧ t { nx := fun _ H' => Q .non H', rt := Q } (L2.start ["_law_due", "_law_level", "_law_bads", "_law_odd", "_law_step", "_law_bad", "_law_way", "_law_given"] []) H := by
    refine ⟨_, (pss_cons (ps_asg (pe_tup (pa_cons (pe_lst pa_nil) (pa_cons (pe_tup (pa_cons pe_int (pa_cons (pe_lst (pa_cons (pe_tup (pa_cons (pe_lst (pa_cons pe_int pa_nil)) (pa_cons pe_int (pa_cons (pe_un un_neg pe_int) pa_nil)))) pa_nil)) pa_nil))) pa_nil))) (pg_tup hc (pgs_cons (pg_name (i := 0) S.nd rfl (by first | exact Or.inl rfl | exact Or.inr rfl)) (pgs_cons (pg_name (i := 1) S.nd rfl (by first | exact Or.inl rfl | exact Or.inr rfl)) pgs_nil))))
  (pss_cons (ps_set (i := 2) S.nd rfl (by first | exact Or.inl rfl | exact Or.inr rfl) (pe_lst (pa_cons pe_non (pa_cons pe_int (pa_cons (pe_tup pa_nil) (pa_cons (pe_lst pa_nil) (pa_cons (pe_tup (pa_cons (pv 1) (pa_cons (pe_lst (pa_cons (pe_lst pa_nil) pa_nil)) pa_nil))) (pa_cons (pe_tup (pa_cons (pv 1) (pa_cons (pe_lst pa_nil) (pa_cons (pe_lst pa_nil) pa_nil)))) (pa_cons (pe_tup (pa_cons (pv 1) (pa_cons (pe_lst (pa_cons (pe_lst (pa_cons pe_int pa_nil)) pa_nil)) (pa_cons (pe_lst pa_nil) pa_nil)))) (pa_cons (pe_tup (pa_cons (pv 1) (pa_cons (pe_lst (pa_cons (pe_lst (pa_cons pe_int (pa_cons pe_int pa_nil))) pa_nil)) (pa_cons (pe_lst pa_nil) pa_nil)))) pa_nil))))))))))
  (pss_cons (ps_set (i := 2) S.nd rfl (by first | exact Or.inl rfl | exact Or.inr rfl) (pe_op op_cat (pv 2) (pe_lst (pa_cons (pe_tup (pa_cons (pv 1) (pa_cons (pe_tup (pa_cons (pe_lst pa_nil) pa_nil)) (pa_cons (pe_lst pa_nil) pa_nil)))) (pa_cons (pe_tup (pa_cons (pv 1) (pa_cons (pe_lst (pa_cons (pe_lst pa_nil) pa_nil)) (pa_cons pe_non pa_nil)))) (pa_cons (pe_tup (pa_cons (pv 1) (pa_cons (pe_lst (pa_cons (pe_lst pa_nil) (pa_cons (pe_lst pa_nil) pa_nil))) (pa_cons (pe_lst (pa_cons (pe_tup (pa_cons pe_int (pa_cons pe_int (pa_cons (pe_lst pa_nil) pa_nil)))) pa_nil)) pa_nil)))) pa_nil))))))
  (pss_cons (ps_set (i := 2) S.nd rfl (by first | exact Or.inl rfl | exact Or.inr rfl) (pe_op op_cat (pv 2) (pe_lst (pa_cons (pe_tup (pa_cons (pv 1) (pa_cons (pe_lst (pa_cons (pe_lst pa_nil) (pa_cons (pe_lst pa_nil) pa_nil))) (pa_cons (pe_lst (pa_cons (pe_tup (pa_cons pe_int (pa_cons pe_int (pa_cons (pe_lst pa_nil) pa_nil)))) pa_nil)) pa_nil)))) (pa_cons (pe_tup (pa_cons (pv 1) (pa_cons (pe_lst (pa_cons (pe_lst pa_nil) (pa_cons (pe_lst pa_nil) pa_nil))) (pa_cons (pe_lst (pa_cons (pe_tup (pa_cons pe_int (pa_cons pe_int pa_nil))) pa_nil)) pa_nil)))) (pa_cons (pe_tup (pa_cons (pv 1) (pa_cons (pe_lst (pa_cons (pe_lst pa_nil) (pa_cons (pe_lst pa_nil) pa_nil))) (pa_cons (pe_lst (pa_cons (pe_lst (pa_cons pe_int (pa_cons pe_int (pa_cons (pe_lst pa_nil) pa_nil)))) pa_nil)) pa_nil)))) pa_nil))))))
  (pss_cons (ps_set (i := 2) S.nd rfl (by first | exact Or.inl rfl | exact Or.inr rfl) (pe_op op_cat (pv 2) (pe_lst (pa_cons (pe_tup (pa_cons (pe_tup (pa_cons pe_int (pa_cons (pe_lst pa_nil) pa_nil))) (pa_cons (pe_lst (pa_cons (pe_lst pa_nil) pa_nil)) (pa_cons (pe_lst pa_nil) pa_nil)))) (pa_cons (pe_tup (pa_cons pe_non (pa_cons (pe_lst (pa_cons (pe_lst pa_nil) pa_nil)) (pa_cons (pe_lst pa_nil) pa_nil)))) (pa_cons (pe_lst (pa_cons (pv 1) (pa_cons (pe_lst (pa_cons (pe_lst pa_nil) pa_nil)) (pa_cons (pe_lst pa_nil) pa_nil)))) (pa_cons (pe_tup (pa_cons (pv 1) (pa_cons (pe_lst (pa_cons (pe_lst (pa_cons pe_bl pa_nil)) pa_nil)) (pa_cons (pe_lst pa_nil) pa_nil)))) pa_nil)))))))
  (pss_cons (ps_set (i := 3) S.nd rfl (by first | exact Or.inl rfl | exact Or.inr rfl) (pe_lst (pa_cons (pe_tup (pa_cons pe_int (pa_cons pe_int (pa_cons (pe_lst (pa_cons pe_int (pa_cons pe_int pa_nil))) pa_nil)))) (pa_cons (pe_tup (pa_cons pe_int (pa_cons pe_int (pa_cons (pe_lst (pa_cons pe_int (pa_cons pe_int pa_nil))) pa_nil)))) (pa_cons (pe_tup (pa_cons pe_int (pa_cons pe_int (pa_cons pe_non pa_nil)))) (pa_cons (pe_tup (pa_cons pe_int (pa_cons pe_int (pa_cons (pe_tup pa_nil) pa_nil)))) (pa_cons (pe_tup (pa_cons pe_int (pa_cons pe_int (pa_cons (pe_lst (pa_cons pe_str pa_nil)) pa_nil)))) (pa_cons (pe_tup (pa_cons pe_int (pa_cons pe_int (pa_cons (pe_lst (pa_cons pe_bl pa_nil)) pa_nil)))) (pa_cons (pe_tup (pa_cons pe_int (pa_cons pe_int (pa_cons (pe_lst (pa_cons (pe_un un_neg pe_int) pa_nil)) pa_nil)))) pa_nil)))))))))
  (pss_cons (ps_set (i := 3) S.nd rfl (by first | exact Or.inl rfl | exact Or.inr rfl) (pe_op op_cat (pv 3) (pe_lst (pa_cons (pe_tup (pa_cons pe_int (pa_cons (pe_un un_neg pe_int) (pa_cons (pe_lst pa_nil) pa_nil)))) (pa_cons (pe_tup (pa_cons pe_int (pa_cons pe_int (pa_cons (pe_lst pa_nil) pa_nil)))) (pa_cons (pe_tup (pa_cons pe_bl (pa_cons pe_int (pa_cons (pe_lst pa_nil) pa_nil)))) (pa_cons (pe_tup (pa_cons pe_non (pa_cons pe_int (pa_cons (pe_lst pa_nil) pa_nil)))) (pa_cons (pe_tup (pa_cons pe_int (pa_cons pe_str (pa_cons (pe_lst pa_nil) pa_nil)))) (pa_cons (pe_tup (pa_cons pe_int (pa_cons pe_int (pa_cons (pe_lst pa_nil) (pa_cons pe_int pa_nil))))) pa_nil)))))))))
  (pss_cons (ps_set (i := 2) S.nd rfl (by first | exact Or.inl rfl | exact Or.inr rfl) (pe_op op_cat (pv 2) (pe_lc (own := [("_law_step", 4)]) hc S.nd (pi_list (pv 3)) (blkOk_by (N := ["_law_due", "_law_level", "_law_bads", "_law_odd", "_law_step", "_law_bad", "_law_way", "_law_given"]) (sc := defScope s__law_houses_refused) (by decide +kernel)) (fun _ _ _ _ _ => (pg_name (i := 4) S.nd rfl (by first | exact Or.inl rfl | exact Or.inr rfl))) (fun _ _ _ _ _ => pts_nil) (fun _ _ _ _ _ => (pe_tup (pa_cons (pv 1) (pa_cons (pe_lst (pa_cons (pe_lst pa_nil) (pa_cons (pe_lst pa_nil) pa_nil))) (pa_cons (pe_lst (pa_cons (pe_tup (pa_cons pe_int (pa_cons pe_int (pa_cons (pe_lst pa_nil) pa_nil)))) (pa_cons (pv 4) pa_nil))) pa_nil))))))))
  (pss_cons (ps_for PassesOwn.never hc (pi_list (pv 2)) (pg_name (i := 5) S.nd rfl (by first | exact Or.inl rfl | exact Or.inr rfl))
    (pss_cons (ps_for PassesOwn.never hc (pi_range1 (by rfl) T.range (pa_cons pe_int pa_nil)) (pg_name (i := 6) S.nd rfl (by first | exact Or.inl rfl | exact Or.inr rfl))
    (pss_one (ps_for PassesOwn.never hc (pi_list (pe_lst (pa_cons pe_non (pa_cons (pe_lst (pa_cons (pe_lst (pa_cons pe_int pa_nil)) pa_nil)) pa_nil)))) (pg_name (i := 7) S.nd rfl (by first | exact Or.inl rfl | exact Or.inr rfl))
    (pss_one (ps_expr (pe_bm PySem.F.plainAttrs_list PySem.F.slot_list_append PySem.F.type_list_append mt_append (pv 0) (pa_cons (pe_lam3 (T := Ts) (k := 12) c_ref S_refused rfl (fun _ _ _ _ _ _ us hl => match us, hl with | [_, _, _], _ => rfl) (g__law_refused T7 sm Z) (by rfl) gu (hr.mono (by decide)) rfl rfl TB rfl hmT huT (LamX.lamS_by (sc := defScope s__law_houses_refused) (by decide +kernel)) rfl (fun _ _ _ _ _ => rfl) (fun A2 outer2 s2 H2 E2 f2 cc2 gu2 hr2 => (pe_fx c__law_call gu2 (hr2.mono (by decide)) (by rfl) (fun σ => passAt (takes_of rfl rfl rfl rfl) σ) (pa_cons (pv 6) (pa_cons (pv 5) (pa_cons (pv 7) pa_nil))))) (pa_cons pe_str (pa_cons (pv 5) pa_nil))) pa_nil)))))))
  (pss_one (ps_expr (pe_bm PySem.F.plainAttrs_list PySem.F.slot_list_append PySem.F.type_list_append mt_append (pv 0) (pa_cons (pe_cmpR op_isBl (pe_fx (E := fun _ _ _ _ => False) c_is_house gu (hr.mono (by decide)) (by rfl) (fun σ _ _ _ _ _ _ h => (cx_none h).elim) (pa_cons (pv 5) pa_nil)) pe_bl (nomark _)) pa_nil))))))
  (pss_one (ps_ret (pe_cmpR op_notIn_seq pe_bl (pv 0) (by with_unfolding_all rfl))))))))))))), ?_⟩
    refine xt_asg2 (K := K) (ρ := [none, none, none, none, none, none, none, none]) (d1 := levD) (ea_cons (ed_tup (ea_cons ed_int (ea_cons (ed_lst (ea_cons (ed_tup (ea_cons (ed_lst (ea_cons ed_int ea_nil) (Nat.le_of_ble_eq_true rfl)) (ea_cons ed_int (ea_cons ed_neg1 ea_nil))) (Nat.le_of_ble_eq_true rfl)) ea_nil) (Nat.le_of_ble_eq_true rfl)) ea_nil)) (Nat.le_of_ble_eq_true rfl)) ea_nil) (Nat.le_of_ble_eq_true rfl) (by decide) (fun σ B H s sd a => ?_) ex_B0 nt_B0 (sd_start (N := ["_law_due", "_law_level", "_law_bads", "_law_odd", "_law_step", "_law_bad", "_law_way", "_law_given"]) .nil) tb
    refine xt_step (xt_asg (d := .list houB0) (j := 2) (by decide) (ed_lst (ea_cons ed_non (ea_cons ed_int (ea_cons (ed_tup ea_nil (Nat.le_of_ble_eq_true rfl)) (ea_cons (ed_lst ea_nil (Nat.le_of_ble_eq_true rfl)) (ea_cons (ed_tup (ea_cons (ed_var (i := 1) rfl) (ea_cons (ed_lst (ea_cons (ed_lst ea_nil (Nat.le_of_ble_eq_true rfl)) ea_nil) (Nat.le_of_ble_eq_true rfl)) ea_nil)) (Nat.le_of_ble_eq_true rfl)) (ea_cons (ed_tup (ea_cons (ed_var (i := 1) rfl) (ea_cons (ed_lst ea_nil (Nat.le_of_ble_eq_true rfl)) (ea_cons (ed_lst ea_nil (Nat.le_of_ble_eq_true rfl)) ea_nil))) (Nat.le_of_ble_eq_true rfl)) (ea_cons (ed_tup (ea_cons (ed_var (i := 1) rfl) (ea_cons (ed_lst (ea_cons (ed_lst (ea_cons ed_int ea_nil) (Nat.le_of_ble_eq_true rfl)) ea_nil) (Nat.le_of_ble_eq_true rfl)) (ea_cons (ed_lst ea_nil (Nat.le_of_ble_eq_true rfl)) ea_nil))) (Nat.le_of_ble_eq_true rfl)) (ea_cons (ed_tup (ea_cons (ed_var (i := 1) rfl) (ea_cons (ed_lst (ea_cons (ed_lst (ea_cons ed_int (ea_cons ed_int ea_nil)) (Nat.le_of_ble_eq_true rfl)) ea_nil) (Nat.le_of_ble_eq_true rfl)) (ea_cons (ed_lst ea_nil (Nat.le_of_ble_eq_true rfl)) ea_nil))) (Nat.le_of_ble_eq_true rfl)) ea_nil)))))))) (Nat.le_of_ble_eq_true rfl))) (fun σ B H s sd a => ?_) s sd a
    refine xt_step (xt_asg (d := .list (houB0 ++ houB1)) (j := 2) (by decide) (ed_op (y := .list houB1) (ed_var (i := 2) rfl) (ed_lst (ea_cons (ed_tup (ea_cons (ed_var (i := 1) rfl) (ea_cons (ed_tup (ea_cons (ed_lst ea_nil (Nat.le_of_ble_eq_true rfl)) ea_nil) (Nat.le_of_ble_eq_true rfl)) (ea_cons (ed_lst ea_nil (Nat.le_of_ble_eq_true rfl)) ea_nil))) (Nat.le_of_ble_eq_true rfl)) (ea_cons (ed_tup (ea_cons (ed_var (i := 1) rfl) (ea_cons (ed_lst (ea_cons (ed_lst ea_nil (Nat.le_of_ble_eq_true rfl)) ea_nil) (Nat.le_of_ble_eq_true rfl)) (ea_cons ed_non ea_nil))) (Nat.le_of_ble_eq_true rfl)) (ea_cons (ed_tup (ea_cons (ed_var (i := 1) rfl) (ea_cons (ed_lst (ea_cons (ed_lst ea_nil (Nat.le_of_ble_eq_true rfl)) (ea_cons (ed_lst ea_nil (Nat.le_of_ble_eq_true rfl)) ea_nil)) (Nat.le_of_ble_eq_true rfl)) (ea_cons (ed_lst (ea_cons (ed_tup (ea_cons ed_int (ea_cons ed_int (ea_cons (ed_lst ea_nil (Nat.le_of_ble_eq_true rfl)) ea_nil))) (Nat.le_of_ble_eq_true rfl)) ea_nil) (Nat.le_of_ble_eq_true rfl)) ea_nil))) (Nat.le_of_ble_eq_true rfl)) ea_nil))) (Nat.le_of_ble_eq_true rfl)) (r_cat (Nat.le_of_ble_eq_true rfl)))) (fun σ B H s sd a => ?_) s sd a
    refine xt_step (xt_asg (d := .list ((houB0 ++ houB1) ++ houB2)) (j := 2) (by decide) (ed_op (y := .list houB2) (ed_var (i := 2) rfl) (ed_lst (ea_cons (ed_tup (ea_cons (ed_var (i := 1) rfl) (ea_cons (ed_lst (ea_cons (ed_lst ea_nil (Nat.le_of_ble_eq_true rfl)) (ea_cons (ed_lst ea_nil (Nat.le_of_ble_eq_true rfl)) ea_nil)) (Nat.le_of_ble_eq_true rfl)) (ea_cons (ed_lst (ea_cons (ed_tup (ea_cons ed_int (ea_cons ed_int (ea_cons (ed_lst ea_nil (Nat.le_of_ble_eq_true rfl)) ea_nil))) (Nat.le_of_ble_eq_true rfl)) ea_nil) (Nat.le_of_ble_eq_true rfl)) ea_nil))) (Nat.le_of_ble_eq_true rfl)) (ea_cons (ed_tup (ea_cons (ed_var (i := 1) rfl) (ea_cons (ed_lst (ea_cons (ed_lst ea_nil (Nat.le_of_ble_eq_true rfl)) (ea_cons (ed_lst ea_nil (Nat.le_of_ble_eq_true rfl)) ea_nil)) (Nat.le_of_ble_eq_true rfl)) (ea_cons (ed_lst (ea_cons (ed_tup (ea_cons ed_int (ea_cons ed_int ea_nil)) (Nat.le_of_ble_eq_true rfl)) ea_nil) (Nat.le_of_ble_eq_true rfl)) ea_nil))) (Nat.le_of_ble_eq_true rfl)) (ea_cons (ed_tup (ea_cons (ed_var (i := 1) rfl) (ea_cons (ed_lst (ea_cons (ed_lst ea_nil (Nat.le_of_ble_eq_true rfl)) (ea_cons (ed_lst ea_nil (Nat.le_of_ble_eq_true rfl)) ea_nil)) (Nat.le_of_ble_eq_true rfl)) (ea_cons (ed_lst (ea_cons (ed_lst (ea_cons ed_int (ea_cons ed_int (ea_cons (ed_lst ea_nil (Nat.le_of_ble_eq_true rfl)) ea_nil))) (Nat.le_of_ble_eq_true rfl)) ea_nil) (Nat.le_of_ble_eq_true rfl)) ea_nil))) (Nat.le_of_ble_eq_true rfl)) ea_nil))) (Nat.le_of_ble_eq_true rfl)) (r_cat (Nat.le_of_ble_eq_true rfl)))) (fun σ B H s sd a => ?_) s sd a
    refine xt_step (xt_asg (d := .list (((houB0 ++ houB1) ++ houB2) ++ houB3)) (j := 2) (by decide) (ed_op (y := .list houB3) (ed_var (i := 2) rfl) (ed_lst (ea_cons (ed_tup (ea_cons (ed_tup (ea_cons ed_int (ea_cons (ed_lst ea_nil (Nat.le_of_ble_eq_true rfl)) ea_nil)) (Nat.le_of_ble_eq_true rfl)) (ea_cons (ed_lst (ea_cons (ed_lst ea_nil (Nat.le_of_ble_eq_true rfl)) ea_nil) (Nat.le_of_ble_eq_true rfl)) (ea_cons (ed_lst ea_nil (Nat.le_of_ble_eq_true rfl)) ea_nil))) (Nat.le_of_ble_eq_true rfl)) (ea_cons (ed_tup (ea_cons ed_non (ea_cons (ed_lst (ea_cons (ed_lst ea_nil (Nat.le_of_ble_eq_true rfl)) ea_nil) (Nat.le_of_ble_eq_true rfl)) (ea_cons (ed_lst ea_nil (Nat.le_of_ble_eq_true rfl)) ea_nil))) (Nat.le_of_ble_eq_true rfl)) (ea_cons (ed_lst (ea_cons (ed_var (i := 1) rfl) (ea_cons (ed_lst (ea_cons (ed_lst ea_nil (Nat.le_of_ble_eq_true rfl)) ea_nil) (Nat.le_of_ble_eq_true rfl)) (ea_cons (ed_lst ea_nil (Nat.le_of_ble_eq_true rfl)) ea_nil))) (Nat.le_of_ble_eq_true rfl)) (ea_cons (ed_tup (ea_cons (ed_var (i := 1) rfl) (ea_cons (ed_lst (ea_cons (ed_lst (ea_cons ed_bl ea_nil) (Nat.le_of_ble_eq_true rfl)) ea_nil) (Nat.le_of_ble_eq_true rfl)) (ea_cons (ed_lst ea_nil (Nat.le_of_ble_eq_true rfl)) ea_nil))) (Nat.le_of_ble_eq_true rfl)) ea_nil)))) (Nat.le_of_ble_eq_true rfl)) (r_cat (Nat.le_of_ble_eq_true rfl)))) (fun σ B H s sd a => ?_) s sd a
    refine xt_step (xt_asg (d := .list oddB0) (j := 3) (by decide) (ed_lst (ea_cons (ed_tup (ea_cons ed_int (ea_cons ed_int (ea_cons (ed_lst (ea_cons ed_int (ea_cons ed_int ea_nil)) (Nat.le_of_ble_eq_true rfl)) ea_nil))) (Nat.le_of_ble_eq_true rfl)) (ea_cons (ed_tup (ea_cons ed_int (ea_cons ed_int (ea_cons (ed_lst (ea_cons ed_int (ea_cons ed_int ea_nil)) (Nat.le_of_ble_eq_true rfl)) ea_nil))) (Nat.le_of_ble_eq_true rfl)) (ea_cons (ed_tup (ea_cons ed_int (ea_cons ed_int (ea_cons ed_non ea_nil))) (Nat.le_of_ble_eq_true rfl)) (ea_cons (ed_tup (ea_cons ed_int (ea_cons ed_int (ea_cons (ed_tup ea_nil (Nat.le_of_ble_eq_true rfl)) ea_nil))) (Nat.le_of_ble_eq_true rfl)) (ea_cons (ed_tup (ea_cons ed_int (ea_cons ed_int (ea_cons (ed_lst (ea_cons ed_str ea_nil) (Nat.le_of_ble_eq_true rfl)) ea_nil))) (Nat.le_of_ble_eq_true rfl)) (ea_cons (ed_tup (ea_cons ed_int (ea_cons ed_int (ea_cons (ed_lst (ea_cons ed_bl ea_nil) (Nat.le_of_ble_eq_true rfl)) ea_nil))) (Nat.le_of_ble_eq_true rfl)) (ea_cons (ed_tup (ea_cons ed_int (ea_cons ed_int (ea_cons (ed_lst (ea_cons ed_neg1 ea_nil) (Nat.le_of_ble_eq_true rfl)) ea_nil))) (Nat.le_of_ble_eq_true rfl)) ea_nil))))))) (Nat.le_of_ble_eq_true rfl))) (fun σ B H s sd a => ?_) s sd a
    refine xt_step (xt_asg (d := .list (oddB0 ++ oddB1)) (j := 3) (by decide) (ed_op (y := .list oddB1) (ed_var (i := 3) rfl) (ed_lst (ea_cons (ed_tup (ea_cons ed_int (ea_cons ed_neg1 (ea_cons (ed_lst ea_nil (Nat.le_of_ble_eq_true rfl)) ea_nil))) (Nat.le_of_ble_eq_true rfl)) (ea_cons (ed_tup (ea_cons ed_int (ea_cons ed_int (ea_cons (ed_lst ea_nil (Nat.le_of_ble_eq_true rfl)) ea_nil))) (Nat.le_of_ble_eq_true rfl)) (ea_cons (ed_tup (ea_cons ed_bl (ea_cons ed_int (ea_cons (ed_lst ea_nil (Nat.le_of_ble_eq_true rfl)) ea_nil))) (Nat.le_of_ble_eq_true rfl)) (ea_cons (ed_tup (ea_cons ed_non (ea_cons ed_int (ea_cons (ed_lst ea_nil (Nat.le_of_ble_eq_true rfl)) ea_nil))) (Nat.le_of_ble_eq_true rfl)) (ea_cons (ed_tup (ea_cons ed_int (ea_cons ed_str (ea_cons (ed_lst ea_nil (Nat.le_of_ble_eq_true rfl)) ea_nil))) (Nat.le_of_ble_eq_true rfl)) (ea_cons (ed_tup (ea_cons ed_int (ea_cons ed_int (ea_cons (ed_lst ea_nil (Nat.le_of_ble_eq_true rfl)) (ea_cons ed_int ea_nil)))) (Nat.le_of_ble_eq_true rfl)) ea_nil)))))) (Nat.le_of_ble_eq_true rfl)) (r_cat (Nat.le_of_ble_eq_true rfl)))) (fun σ B H s sd a => ?_) s sd a
    refine xt_step (xt_asg (d := .list houB) (j := 2) (by decide) (ed_op (y := .list houC) (ed_var (i := 2) rfl) (ed_lcL (tt := tYes) (fun _ => true) stepG (ed_var (i := 3) rfl) (by decide) (Nat.le_of_ble_eq_true rfl) (fun _ _ => et_yes) (fun d _ _ => (ed_tup (ea_cons (ed_var (i := 1) rfl) (ea_cons (ed_lst (ea_cons (ed_lst ea_nil (Nat.le_of_ble_eq_true rfl)) (ea_cons (ed_lst ea_nil (Nat.le_of_ble_eq_true rfl)) ea_nil)) (Nat.le_of_ble_eq_true rfl)) (ea_cons (ed_lst (ea_cons (ed_tup (ea_cons ed_int (ea_cons ed_int (ea_cons (ed_lst ea_nil (Nat.le_of_ble_eq_true rfl)) ea_nil))) (Nat.le_of_ble_eq_true rfl)) (ea_cons (ed_var (i := 4) rfl) ea_nil)) (Nat.le_of_ble_eq_true rfl)) ea_nil))) (Nat.le_of_ble_eq_true rfl)))) (r_cat (Nat.le_of_ble_eq_true rfl)))) (fun σ B H s sd a => ?_) s sd a
    have len1 : houB.length = 31 := rfl
    refine xt_step (xt_for (j := 5) (n := 0) (k := 27) (ds := houB) (by decide) (ed_var (i := 2) rfl) fun b hb n1 h1 => ?_) (fun σ B H s sd a => ?_) s sd a
    · obtain ⟨nl, fb⟩ := houB_ok b hb
      refine xt_less [5] (xt_up (xt_seq (xt_forR1 (j := 6) (c := 13) (k := 2) (by decide) (ea_cons ed_int ea_nil) (Nat.le_of_ble_eq_true rfl) fun x hx n2 h2 => ?_) (xt_app (edj_of (is_false (ed_callS (ea_cons (ed_var (i := 5) rfl) ea_nil) ⟨_, nl.is⟩))) (by omega))) (by omega)) rfl
      refine xt_less [6] (xt_up (xt_for (j := 7) (k := 1) (ds := [.none, .list [.list [.int 0]]]) (by decide) (ed_lst (ea_cons ed_non (ea_cons (ed_lst (ea_cons (ed_lst (ea_cons ed_int ea_nil) (Nat.le_of_ble_eq_true rfl)) ea_nil) (Nat.le_of_ble_eq_true rfl)) ea_nil)) (Nat.le_of_ble_eq_true rfl)) fun z hz n3 h3 => ?_) (by simp only [List.length_cons, List.length_nil]; omega)) rfl
      have h3' : n3 ≤ n2 + 2 * 1 := h3
      exact xt_less [7] (xt_lam (nm := "house") (fld := b) (C := A.House) (lam_call (m := 5) (i := 5) (j := 1) (ds := [.int ((0 : Int) + (x : Int)), b, z]) (eai_next (ed_var (i := 6) rfl) (eai_here (i := 5) rfl (ea_cons (ed_var (i := 7) rfl) ea_nil))) (call_bad (by omega) nl) rfl rfl) ⟨0, rfl, rfl, fb⟩ (by omega)) rfl
    exact xt_end (fun ds hT hl => xs_notin hT rfl) s sd a fun v B' H' dv tb => by
      cases dv
      exact hq H' tb
  obtain ⟨t, h1, h2⟩ := hps
  exact ⟨t, h1.nox, h2⟩
end
end TD

set_option maxHeartbeats 8000000
namespace TD
open PySem PySem.Spec PyProof.Rows L2
open Evl (Ex)
open LamX (CodeO Tabs TabS TabB ExtN)
section
variable {P : Program} {w : World} {K : Fg} {mg : Str → Option Value} {base : Heap} {A : Ad4} {DE : Addr} {Ts : List (Addr × Str)} {cd Pt : Addr}
abbrev s__law_walks_refused : Stmt := topS 104
theorem f__law_walks_refused (T7 : B7 mg) (sm : ∃ mm, base.Ns sysModules mm) (Z : Ce K mg A DE) (kIn : K.In base) (hns : base.Ns mainGlobals mg) (htab : PySem.W.tabIn K "_law_walks_refused" = some (cd, Pt)) (TB : TabB base mg cd Pt) (hmT : (Pt, qL "_law_walks_refused") ∈ Ts) (huT : ∀ p ∈ Ts, p.1 = Pt → p.2 = qL "_law_walks_refused")
    (c_ref : At K mg "_law_refused" s__law_refused) (c : Cd P w K mg base A) (c_put_off : Fx P w K mg base "put_off" ["walks", "ticks"] 4 (SpX K (RF F_put_off) (XFy (clA A) F_put_off))) (a : At K mg "_law_walks_refused" s__law_walks_refused) : Fc P w K mg base "_law_walks_refused" ["_law_far"] 15 (spTab K Ts) := by
  have S : FnScope ["_law_far", "_law_due", "_law_back", "_law_bads", "_law_bad", "_law_call_here", "_law_number", "_law_one", "_law_stays", "_law_ticks"] ["_law_far"] (defScope s__law_walks_refused) := ⟨rfl, rfl, rfl, by decide +kernel, rfl, by decide +kernel, by decide +kernel⟩
  obtain ⟨a_pressed_by, m_pressed_by⟩ := c.pressed_by.at
  obtain ⟨a_hands_light, m_hands_light⟩ := c.hands_light.at
  obtain ⟨a_first_shut, m_first_shut⟩ := c.first_shut.at
  obtain ⟨a_greatest_playable, m_greatest_playable⟩ := c.greatest_playable.at
  obtain ⟨a_why_unplayable, m_why_unplayable⟩ := c.why_unplayable.at
  obtain ⟨a_debts, m_debts⟩ := c.debts.at
  obtain ⟨a_earned, m_earned⟩ := c.earned.at
  have c_open_steps := c.open_steps
  have c_opened_by := c.opened_by
  have c_far_steps := c.far_steps
  obtain ⟨f, fd, F, hm⟩ := a
  refine ⟨f, fd, hm, F.kp, F.binds (fun _ _ _ _ _ _ us hl => match us, hl with | [_], _ => rfl), fnGT F hm kIn hns htab S (by rintro vs H Q E ⟨n, rfl, _⟩; rfl) ?_⟩
  rintro A' outer s H vs Q E gu hr ⟨n, rfl, hn, tb, hq⟩
  have hc : (cxOf CX0 P w K mg base ["_law_far", "_law_due", "_law_back", "_law_bads", "_law_bad", "_law_call_here", "_law_number", "_law_one", "_law_stays", "_law_ticks"] "_law_walks_refused" (defScope s__law_walks_refused) f (.ref cd) A' outer s H E).nox.calm = true := rfl
  have hps : ∃ t, PSs (cxOf CX0 P w K mg base ["_law_far", "_law_due", "_law_back", "_law_bads", "_law_bad", "_law_call_here", "_law_number", "_law_one", "_law_stays", "_law_ticks"] "_law_walks_refused" (defScope s__law_walks_refused) f (.ref cd) A' outer s H E).nox (defBody s__law_walks_refused) t ∧ t { nx := fun _ H' => Q .non H', rt := Q } (L2.start ["_law_far", "_law_due", "_law_back", "_law_bads", "_law_bad", "_law_call_here", "_law_number", "_law_one", "_law_stays", "_law_ticks"] [.int n]) H := by
    refine ⟨_, (pss_cons (ps_asg (pe_tup (pa_cons (pe_lst pa_nil) (pa_cons (pe_tup (pa_cons (pe_tup (pa_cons pe_int (pa_cons (pe_lst (pa_cons (pe_tup (pa_cons (pe_lst (pa_cons pe_int pa_nil)) (pa_cons pe_int (pa_cons (pe_un un_neg pe_int) pa_nil)))) pa_nil)) pa_nil))) (pa_cons (pe_lst (pa_cons (pe_lst pa_nil) (pa_cons (pe_lst (pa_cons pe_int pa_nil)) pa_nil))) (pa_cons (pe_lst (pa_cons (pe_tup (pa_cons pe_int (pa_cons pe_int (pa_cons (pe_lst (pa_cons pe_int pa_nil)) pa_nil)))) (pa_cons (pe_tup (pa_cons pe_int (pa_cons pe_int (pa_cons (pe_lst pa_nil) pa_nil)))) pa_nil))) pa_nil)))) pa_nil))) (pg_tup hc (pgs_cons (pg_name (i := 1) S.nd rfl (by first | exact Or.inl rfl | exact Or.inr rfl)) (pgs_cons (pg_name (i := 2) S.nd rfl (by first | exact Or.inl rfl | exact Or.inr rfl)) pgs_nil))))
  (pss_cons (ps_set (i := 3) S.nd rfl (by first | exact Or.inl rfl | exact Or.inr rfl) (pe_lst (pa_cons pe_non (pa_cons pe_int (pa_cons (pe_tup pa_nil) (pa_cons pe_dnewK (pa_cons pe_str (pa_cons (pe_lst (pa_cons (pe_lst pa_nil) pa_nil)) (pa_cons (pe_lst (pa_cons (pe_lst (pa_cons pe_int pa_nil)) (pa_cons (pe_lst pa_nil) pa_nil))) (pa_cons (pe_lst (pa_cons pe_int pa_nil)) (pa_cons (pe_lst (pa_cons (pe_tup (pa_cons pe_int (pa_cons pe_int pa_nil))) pa_nil)) (pa_cons (pe_lst (pa_cons (pe_lst (pa_cons pe_int pa_nil)) pa_nil)) (pa_cons (pe_lst (pa_cons (pe_lst (pa_cons (pe_un un_neg pe_int) pa_nil)) pa_nil)) (pa_cons (pe_lst (pa_cons (pe_lst (pa_cons pe_bl pa_nil)) pa_nil)) (pa_cons (pe_lst (pa_cons (pe_lst (pa_cons pe_str pa_nil)) pa_nil)) (pa_cons (pe_lst (pa_cons (pe_lst (pa_cons pe_non pa_nil)) pa_nil)) pa_nil))))))))))))))))
  (pss_cons (ps_set (i := 3) S.nd rfl (by first | exact Or.inl rfl | exact Or.inr rfl) (pe_op op_cat (pv 3) (pe_lst (pa_cons (pe_lst (pa_cons (pe_lst (pa_cons pe_int (pa_cons pe_int pa_nil))) (pa_cons (pe_lst (pa_cons pe_int (pa_cons pe_int pa_nil))) pa_nil))) (pa_cons (pe_tup (pa_cons (pe_lst (pa_cons pe_int (pa_cons pe_int pa_nil))) pa_nil)) (pa_cons (pe_lst (pa_cons (pe_lst (pa_cons (pe_lst (pa_cons pe_int pa_nil)) pa_nil)) pa_nil)) (pa_cons (pe_lst (pa_cons (pe_lst (pa_cons (pe_op op_add (pv 0) pe_int) pa_nil)) pa_nil)) pa_nil)))))))
  (pss_cons (ps_for PassesOwn.never hc (pi_list (pv 3)) (pg_name (i := 4) S.nd rfl (by first | exact Or.inl rfl | exact Or.inr rfl))
    (pss_cons (ps_for PassesOwn.never hc (pi_list (pe_lst (pa_cons (pe_glob (v := .ref a_pressed_by) (by rfl) m_pressed_by rfl) (pa_cons (pe_glob (v := .ref a_hands_light) (by rfl) m_hands_light rfl) (pa_cons (pe_glob (v := .ref a_first_shut) (by rfl) m_first_shut rfl) (pa_cons (pe_glob (v := .ref a_greatest_playable) (by rfl) m_greatest_playable rfl) (pa_cons (pe_glob (v := .ref a_why_unplayable) (by rfl) m_why_unplayable rfl) (pa_cons (pe_glob (v := .ref a_debts) (by rfl) m_debts rfl) (pa_cons (pe_glob (v := .ref a_earned) (by rfl) m_earned rfl) pa_nil))))))))) (pg_name (i := 5) S.nd rfl (by first | exact Or.inl rfl | exact Or.inr rfl))
    (pss_one (ps_expr (pe_bm PySem.F.plainAttrs_list PySem.F.slot_list_append PySem.F.type_list_append mt_append (pv 1) (pa_cons (pe_lam3 (T := Ts) (k := 12) c_ref S_refused rfl (fun _ _ _ _ _ _ us hl => match us, hl with | [_, _, _], _ => rfl) (g__law_refused T7 sm Z) (by rfl) gu (hr.mono (by decide)) rfl rfl TB rfl hmT huT (LamX.lamS_by (sc := defScope s__law_walks_refused) (by decide +kernel)) rfl (fun _ _ _ _ _ => rfl) (fun A2 outer2 s2 H2 E2 f2 cc2 gu2 hr2 => (pe_callN (k := 12) (CP := CPx P w K mg base 12) (fun _ _ h => h) gu2 hr2 (fun σ => passAt (takes_of rfl rfl rfl rfl) σ) (i := 5) rfl (by first | exact Or.inl rfl | exact Or.inr (Or.inl rfl) | exact Or.inr (Or.inr rfl)) (pa_cons (pv 2) (pa_cons (pv 4) pa_nil)))) (pa_cons pe_str (pa_cons (pv 4) pa_nil))) pa_nil)))))
  (pss_one (ps_for PassesOwn.never hc (pi_list (pe_lst (pa_cons pe_non (pa_cons pe_int pa_nil)))) (pg_name (i := 6) S.nd rfl (by first | exact Or.inl rfl | exact Or.inr rfl))
    (pss_cons (ps_expr (pe_bm PySem.F.plainAttrs_list PySem.F.slot_list_append PySem.F.type_list_append mt_append (pv 1) (pa_cons (pe_lam3 (T := Ts) (k := 12) c_ref S_refused rfl (fun _ _ _ _ _ _ us hl => match us, hl with | [_, _, _], _ => rfl) (g__law_refused T7 sm Z) (by rfl) gu (hr.mono (by decide)) rfl rfl TB rfl hmT huT (LamX.lamS_by (sc := defScope s__law_walks_refused) (by decide +kernel)) rfl (fun _ _ _ _ _ => rfl) (fun A2 outer2 s2 H2 E2 f2 cc2 gu2 hr2 => (pe_fx c_open_steps gu2 (hr2.mono (by decide)) (by rfl) (fun σ => passAt (takes_of rfl rfl rfl rfl) σ) (pa_cons (pv 2) (pa_cons (pv 4) (pa_cons (pv 6) pa_nil))))) (pa_cons pe_str (pa_cons (pv 4) pa_nil))) pa_nil)))
  (pss_one (ps_expr (pe_bm PySem.F.plainAttrs_list PySem.F.slot_list_append PySem.F.type_list_append mt_append (pv 1) (pa_cons (pe_lam3 (T := Ts) (k := 12) c_ref S_refused rfl (fun _ _ _ _ _ _ us hl => match us, hl with | [_, _, _], _ => rfl) (g__law_refused T7 sm Z) (by rfl) gu (hr.mono (by decide)) rfl rfl TB rfl hmT huT (LamX.lamS_by (sc := defScope s__law_walks_refused) (by decide +kernel)) rfl (fun _ _ _ _ _ => rfl) (fun A2 outer2 s2 H2 E2 f2 cc2 gu2 hr2 => (pe_fx c_opened_by gu2 (hr2.mono (by decide)) (by rfl) (fun σ => passAt (takes_of rfl rfl rfl rfl) σ) (pa_cons (pv 2) (pa_cons (pv 4) (pa_cons (pv 6) (pa_cons pe_non pa_nil)))))) (pa_cons pe_str (pa_cons (pv 4) pa_nil))) pa_nil)))))))))
  (pss_cons (ps_set (i := 7) S.nd rfl (by first | exact Or.inl rfl | exact Or.inr rfl) (pe_tup (pa_cons (pe_tup (pa_cons pe_int (pa_cons (pe_lst pa_nil) pa_nil))) (pa_cons (pe_lst (pa_cons (pe_lst pa_nil) (pa_cons (pe_lst pa_nil) pa_nil))) (pa_cons (pe_lst (pa_cons (pe_tup (pa_cons pe_int (pa_cons pe_int (pa_cons (pe_lst pa_nil) pa_nil)))) pa_nil)) pa_nil)))))
  (pss_cons (ps_for PassesOwn.never hc (pi_list (pe_lst (pa_cons (pe_lst (pa_cons (pe_lst (pa_cons pe_int (pa_cons pe_int pa_nil))) pa_nil)) (pa_cons (pe_lst (pa_cons (pe_lst (pa_cons pe_int (pa_cons pe_int pa_nil))) (pa_cons (pe_lst (pa_cons pe_int (pa_cons pe_int pa_nil))) pa_nil))) (pa_cons (pe_lst (pa_cons (pe_lst (pa_cons pe_int (pa_cons pe_int (pa_cons pe_int (pa_cons pe_int pa_nil))))) pa_nil)) pa_nil))))) (pg_name (i := 4) S.nd rfl (by first | exact Or.inl rfl | exact Or.inr rfl))
    (pss_cons (ps_for PassesOwn.never hc (pi_list (pe_lst (pa_cons (pe_glob (v := .ref a_pressed_by) (by rfl) m_pressed_by rfl) (pa_cons (pe_glob (v := .ref a_hands_light) (by rfl) m_hands_light rfl) (pa_cons (pe_glob (v := .ref a_first_shut) (by rfl) m_first_shut rfl) (pa_cons (pe_glob (v := .ref a_greatest_playable) (by rfl) m_greatest_playable rfl) (pa_cons (pe_glob (v := .ref a_why_unplayable) (by rfl) m_why_unplayable rfl) (pa_cons (pe_glob (v := .ref a_debts) (by rfl) m_debts rfl) (pa_cons (pe_glob (v := .ref a_earned) (by rfl) m_earned rfl) pa_nil))))))))) (pg_name (i := 5) S.nd rfl (by first | exact Or.inl rfl | exact Or.inr rfl))
    (pss_one (ps_expr (pe_bm PySem.F.plainAttrs_list PySem.F.slot_list_append PySem.F.type_list_append mt_append (pv 1) (pa_cons (pe_lam3 (T := Ts) (k := 12) c_ref S_refused rfl (fun _ _ _ _ _ _ us hl => match us, hl with | [_, _, _], _ => rfl) (g__law_refused T7 sm Z) (by rfl) gu (hr.mono (by decide)) rfl rfl TB rfl hmT huT (LamX.lamS_by (sc := defScope s__law_walks_refused) (by decide +kernel)) rfl (fun _ _ _ _ _ => rfl) (fun A2 outer2 s2 H2 E2 f2 cc2 gu2 hr2 => (pe_callN (k := 12) (CP := CPx P w K mg base 12) (fun _ _ h => h) gu2 hr2 (fun σ => passAt (takes_of rfl rfl rfl rfl) σ) (i := 5) rfl (by first | exact Or.inl rfl | exact Or.inr (Or.inl rfl) | exact Or.inr (Or.inr rfl)) (pa_cons (pv 7) (pa_cons (pv 4) pa_nil)))) (pa_cons pe_str (pa_cons (pv 4) pa_nil))) pa_nil)))))
  (pss_cons (ps_expr (pe_bm PySem.F.plainAttrs_list PySem.F.slot_list_append PySem.F.type_list_append mt_append (pv 1) (pa_cons (pe_lam3 (T := Ts) (k := 12) c_ref S_refused rfl (fun _ _ _ _ _ _ us hl => match us, hl with | [_, _, _], _ => rfl) (g__law_refused T7 sm Z) (by rfl) gu (hr.mono (by decide)) rfl rfl TB rfl hmT huT (LamX.lamS_by (sc := defScope s__law_walks_refused) (by decide +kernel)) rfl (fun _ _ _ _ _ => rfl) (fun A2 outer2 s2 H2 E2 f2 cc2 gu2 hr2 => (pe_fx c_open_steps gu2 (hr2.mono (by decide)) (by rfl) (fun σ => passAt (takes_of rfl rfl rfl rfl) σ) (pa_cons (pv 7) (pa_cons (pv 4) (pa_cons pe_int pa_nil))))) (pa_cons pe_str (pa_cons (pv 4) pa_nil))) pa_nil)))
  (pss_one (ps_expr (pe_bm PySem.F.plainAttrs_list PySem.F.slot_list_append PySem.F.type_list_append mt_append (pv 1) (pa_cons (pe_lam3 (T := Ts) (k := 12) c_ref S_refused rfl (fun _ _ _ _ _ _ us hl => match us, hl with | [_, _, _], _ => rfl) (g__law_refused T7 sm Z) (by rfl) gu (hr.mono (by decide)) rfl rfl TB rfl hmT huT (LamX.lamS_by (sc := defScope s__law_walks_refused) (by decide +kernel)) rfl (fun _ _ _ _ _ => rfl) (fun A2 outer2 s2 H2 E2 f2 cc2 gu2 hr2 => (pe_fx c_opened_by gu2 (hr2.mono (by decide)) (by rfl) (fun σ => passAt (takes_of rfl rfl rfl rfl) σ) (pa_cons (pv 7) (pa_cons (pv 4) (pa_cons pe_int (pa_cons pe_int pa_nil)))))) (pa_cons pe_str (pa_cons (pv 4) pa_nil))) pa_nil)))))))
  (pss_cons (ps_set (i := 8) S.nd rfl (by first | exact Or.inl rfl | exact Or.inr rfl) (pe_lst (pa_cons (pe_tup (pa_cons pe_int (pa_cons pe_int pa_nil))) (pa_cons (pe_tup (pa_cons pe_int (pa_cons pe_int pa_nil))) pa_nil))))
  (pss_cons (ps_expr (pe_bm PySem.F.plainAttrs_list PySem.F.slot_list_append PySem.F.type_list_append mt_append (pv 1) (pa_cons (pe_lam3 (T := Ts) (k := 12) c_ref S_refused rfl (fun _ _ _ _ _ _ us hl => match us, hl with | [_, _, _], _ => rfl) (g__law_refused T7 sm Z) (by rfl) gu (hr.mono (by decide)) rfl rfl TB rfl hmT huT (LamX.lamS_by (sc := defScope s__law_walks_refused) (by decide +kernel)) rfl (fun _ _ _ _ _ => rfl) (fun A2 outer2 s2 H2 E2 f2 cc2 gu2 hr2 => (pe_fx c_far_steps gu2 (hr2.mono (by decide)) (by rfl) (fun σ => passAt (takes_of rfl rfl rfl rfl) σ) (pa_cons (pv 7) (pa_cons (pv 8) pa_nil)))) (pa_cons pe_str (pa_cons (pv 8) pa_nil))) pa_nil)))
  (pss_cons (ps_for PassesOwn.never hc (pi_list (pe_lst (pa_cons pe_non (pa_cons pe_int (pa_cons (pe_tup pa_nil) (pa_cons pe_dnewK (pa_cons pe_str (pa_cons (pe_lst (pa_cons (pe_lst pa_nil) pa_nil)) (pa_cons (pe_lst (pa_cons (pe_lst (pa_cons pe_int pa_nil)) (pa_cons (pe_lst pa_nil) pa_nil))) (pa_cons (pe_lst (pa_cons pe_int pa_nil)) (pa_cons (pe_lst (pa_cons (pe_tup (pa_cons pe_int pa_nil)) pa_nil)) (pa_cons (pe_lst (pa_cons (pe_lst (pa_cons (pe_un un_neg pe_int) pa_nil)) pa_nil)) (pa_cons (pe_lst (pa_cons (pe_lst (pa_cons pe_bl pa_nil)) pa_nil)) (pa_cons (pe_lst (pa_cons (pe_lst (pa_cons pe_str pa_nil)) pa_nil)) (pa_cons (pe_lst (pa_cons (pe_lst (pa_cons pe_int pa_nil)) (pa_cons pe_non pa_nil))) pa_nil))))))))))))))) (pg_name (i := 4) S.nd rfl (by first | exact Or.inl rfl | exact Or.inr rfl))
    (pss_one (ps_for PassesOwn.never hc (pi_list (pe_lst (pa_cons pe_non (pa_cons pe_int pa_nil)))) (pg_name (i := 9) S.nd rfl (by first | exact Or.inl rfl | exact Or.inr rfl))
    (pss_one (ps_expr (pe_bm PySem.F.plainAttrs_list PySem.F.slot_list_append PySem.F.type_list_append mt_append (pv 1) (pa_cons (pe_lam3 (T := Ts) (k := 12) c_ref S_refused rfl (fun _ _ _ _ _ _ us hl => match us, hl with | [_, _, _], _ => rfl) (g__law_refused T7 sm Z) (by rfl) gu (hr.mono (by decide)) rfl rfl TB rfl hmT huT (LamX.lamS_by (sc := defScope s__law_walks_refused) (by decide +kernel)) rfl (fun _ _ _ _ _ => rfl) (fun A2 outer2 s2 H2 E2 f2 cc2 gu2 hr2 => (pe_fx c_put_off gu2 (hr2.mono (by decide)) (by rfl) (fun σ => passAt (takes_of rfl rfl rfl rfl) σ) (pa_cons (pv 4) (pa_cons (pv 9) pa_nil)))) (pa_cons pe_str (pa_cons (pv 4) pa_nil))) pa_nil)))))))
  (pss_cons (ps_for PassesOwn.never hc (pi_list (pe_lst (pa_cons pe_non (pa_cons (pe_un un_neg pe_int) (pa_cons pe_bl (pa_cons pe_str (pa_cons (pe_lst (pa_cons pe_int pa_nil)) (pa_cons (pe_op op_sub (pe_op op_sub pe_int pe_int) (pv 0)) pa_nil)))))))) (pg_name (i := 4) S.nd rfl (by first | exact Or.inl rfl | exact Or.inr rfl))
    (pss_one (ps_expr (pe_bm PySem.F.plainAttrs_list PySem.F.slot_list_append PySem.F.type_list_append mt_append (pv 1) (pa_cons (pe_lam3 (T := Ts) (k := 12) c_ref S_refused rfl (fun _ _ _ _ _ _ us hl => match us, hl with | [_, _, _], _ => rfl) (g__law_refused T7 sm Z) (by rfl) gu (hr.mono (by decide)) rfl rfl TB rfl hmT huT (LamX.lamS_by (sc := defScope s__law_walks_refused) (by decide +kernel)) rfl (fun _ _ _ _ _ => rfl) (fun A2 outer2 s2 H2 E2 f2 cc2 gu2 hr2 => (pe_fx c_put_off gu2 (hr2.mono (by decide)) (by rfl) (fun σ => passAt (takes_of rfl rfl rfl rfl) σ) (pa_cons (pe_lst (pa_cons (pe_lst (pa_cons pe_int (pa_cons pe_int pa_nil))) pa_nil)) (pa_cons (pv 4) pa_nil)))) (pa_cons pe_str (pa_cons (pv 4) pa_nil))) pa_nil)))))
  (pss_one (ps_ret (pe_cmpR op_notIn_seq pe_bl (pv 1) (by with_unfolding_all rfl)))))))))))))), ?_⟩
    refine xt_asg2 (K := K) (ρ := [some (.int n), none, none, none, none, none, none, none, none, none]) (d1 := backD) (ea_cons (ed_tup (ea_cons (ed_tup (ea_cons ed_int (ea_cons (ed_lst (ea_cons (ed_tup (ea_cons (ed_lst (ea_cons ed_int ea_nil) (Nat.le_of_ble_eq_true rfl)) (ea_cons ed_int (ea_cons ed_neg1 ea_nil))) (Nat.le_of_ble_eq_true rfl)) ea_nil) (Nat.le_of_ble_eq_true rfl)) ea_nil)) (Nat.le_of_ble_eq_true rfl)) (ea_cons (ed_lst (ea_cons (ed_lst ea_nil (Nat.le_of_ble_eq_true rfl)) (ea_cons (ed_lst (ea_cons ed_int ea_nil) (Nat.le_of_ble_eq_true rfl)) ea_nil)) (Nat.le_of_ble_eq_true rfl)) (ea_cons (ed_lst (ea_cons (ed_tup (ea_cons ed_int (ea_cons ed_int (ea_cons (ed_lst (ea_cons ed_int ea_nil) (Nat.le_of_ble_eq_true rfl)) ea_nil))) (Nat.le_of_ble_eq_true rfl)) (ea_cons (ed_tup (ea_cons ed_int (ea_cons ed_int (ea_cons (ed_lst ea_nil (Nat.le_of_ble_eq_true rfl)) ea_nil))) (Nat.le_of_ble_eq_true rfl)) ea_nil)) (Nat.le_of_ble_eq_true rfl)) ea_nil))) (Nat.le_of_ble_eq_true rfl)) ea_nil) (Nat.le_of_ble_eq_true rfl) (by decide) (fun σ B H s sd a => ?_) ex_B0 nt_B0 (sd_start (N := ["_law_far", "_law_due", "_law_back", "_law_bads", "_law_bad", "_law_call_here", "_law_number", "_law_one", "_law_stays", "_law_ticks"]) (.cons (.int n) .nil)) tb
    refine xt_step (xt_asg (d := .list walB0) (j := 3) (by decide) (ed_lst (ea_cons ed_non (ea_cons ed_int (ea_cons (ed_tup ea_nil (Nat.le_of_ble_eq_true rfl)) (ea_cons ed_dnew (ea_cons ed_str (ea_cons (ed_lst (ea_cons (ed_lst ea_nil (Nat.le_of_ble_eq_true rfl)) ea_nil) (Nat.le_of_ble_eq_true rfl)) (ea_cons (ed_lst (ea_cons (ed_lst (ea_cons ed_int ea_nil) (Nat.le_of_ble_eq_true rfl)) (ea_cons (ed_lst ea_nil (Nat.le_of_ble_eq_true rfl)) ea_nil)) (Nat.le_of_ble_eq_true rfl)) (ea_cons (ed_lst (ea_cons ed_int ea_nil) (Nat.le_of_ble_eq_true rfl)) (ea_cons (ed_lst (ea_cons (ed_tup (ea_cons ed_int (ea_cons ed_int ea_nil)) (Nat.le_of_ble_eq_true rfl)) ea_nil) (Nat.le_of_ble_eq_true rfl)) (ea_cons (ed_lst (ea_cons (ed_lst (ea_cons ed_int ea_nil) (Nat.le_of_ble_eq_true rfl)) ea_nil) (Nat.le_of_ble_eq_true rfl)) (ea_cons (ed_lst (ea_cons (ed_lst (ea_cons ed_neg1 ea_nil) (Nat.le_of_ble_eq_true rfl)) ea_nil) (Nat.le_of_ble_eq_true rfl)) (ea_cons (ed_lst (ea_cons (ed_lst (ea_cons ed_bl ea_nil) (Nat.le_of_ble_eq_true rfl)) ea_nil) (Nat.le_of_ble_eq_true rfl)) (ea_cons (ed_lst (ea_cons (ed_lst (ea_cons ed_str ea_nil) (Nat.le_of_ble_eq_true rfl)) ea_nil) (Nat.le_of_ble_eq_true rfl)) (ea_cons (ed_lst (ea_cons (ed_lst (ea_cons ed_non ea_nil) (Nat.le_of_ble_eq_true rfl)) ea_nil) (Nat.le_of_ble_eq_true rfl)) ea_nil)))))))))))))) (Nat.le_of_ble_eq_true rfl))) (fun σ B H s sd a => ?_) s sd a
    refine xt_step (xt_asg (d := .list (walB0 ++ (walB1 n))) (j := 3) (by decide) (ed_op (y := .list (walB1 n)) (ed_var (i := 3) rfl) (ed_lst (ea_cons (ed_lst (ea_cons (ed_lst (ea_cons ed_int (ea_cons ed_int ea_nil)) (Nat.le_of_ble_eq_true rfl)) (ea_cons (ed_lst (ea_cons ed_int (ea_cons ed_int ea_nil)) (Nat.le_of_ble_eq_true rfl)) ea_nil)) (Nat.le_of_ble_eq_true rfl)) (ea_cons (ed_tup (ea_cons (ed_lst (ea_cons ed_int (ea_cons ed_int ea_nil)) (Nat.le_of_ble_eq_true rfl)) ea_nil) (Nat.le_of_ble_eq_true rfl)) (ea_cons (ed_lst (ea_cons (ed_lst (ea_cons (ed_lst (ea_cons ed_int ea_nil) (Nat.le_of_ble_eq_true rfl)) ea_nil) (Nat.le_of_ble_eq_true rfl)) ea_nil) (Nat.le_of_ble_eq_true rfl)) (ea_cons (ed_lst (ea_cons (ed_lst (ea_cons (ed_op (ed_var (i := 0) rfl) ed_int r_Ii) ea_nil) (Nat.le_of_ble_eq_true rfl)) ea_nil) (Nat.le_of_ble_eq_true rfl)) ea_nil)))) (Nat.le_of_ble_eq_true rfl)) (r_cat (Nat.le_of_ble_eq_true rfl)))) (fun σ B H s sd a => ?_) s sd a
    have len1 : (walB n).length = 18 := rfl
    refine xt_step (xt_for (j := 4) (n := 0) (k := 11) (ds := walB n) (by decide) (ed_var (i := 3) rfl) fun b hb n1 h1 => ?_) (fun σ B H s sd a => ?_) s sd a
    · have hw := walB_ok hn b hb
      refine xt_less [4] (xt_up (xt_seq (xt_forF (fs := [a_pressed_by, a_hands_light, a_first_shut, a_greatest_playable, a_why_unplayable, a_debts, a_earned]) (j := 5) (k := 1) (by decide) (Nat.le_of_ble_eq_true rfl) rfl (evs_cons (evs_cons (evs_cons (evs_cons (evs_cons (evs_cons (evs_cons evs_nil))))))) (Nat.le_of_ble_eq_true rfl) fun g hg n2 h2 => ?_) (xt_for (j := 6) (k := 2) (ds := zs) (by decide) (ed_lst (ea_cons ed_non (ea_cons ed_int ea_nil)) (Nat.le_of_ble_eq_true rfl)) fun z hz n2 h2 => ?_)) (by simp only [zs, List.length_cons, List.length_nil]; omega)) rfl
      · have h2' : n2 ≤ n1 + 7 * 1 := h2
        obtain ⟨F, hF, cp⟩ : ∃ F ∈ fns7, CPx P w K mg base 12 g (SpX K (RF F) (XFy (clA A) F)) := by
          simp only [List.mem_cons, List.not_mem_nil, or_false] at hg
          rcases hg with rfl | rfl | rfl | rfl | rfl | rfl | rfl
          · exact ⟨F_pressed_by, by simp [fns7], c.pressed_by.cpx (by decide) m_pressed_by⟩
          · exact ⟨F_hands_light, by simp [fns7], c.hands_light.cpx (by decide) m_hands_light⟩
          · exact ⟨F_first_shut, by simp [fns7], c.first_shut.cpx (by decide) m_first_shut⟩
          · exact ⟨F_greatest_playable, by simp [fns7], c.greatest_playable.cpx (by decide) m_greatest_playable⟩
          · exact ⟨F_why_unplayable, by simp [fns7], c.why_unplayable.cpx (by decide) m_why_unplayable⟩
          · exact ⟨F_debts, by simp [fns7], c.debts.cpx (by decide) m_debts⟩
          · exact ⟨F_earned, by simp [fns7], c.earned.cpx (by decide) m_earned⟩
        exact xt_lam (nm := "walks") (fld := b) (C := A.Walks) (lam_callF (m := 4) (i := 4) (j := 1) (ds := [backD, b]) cp (eai_next (ed_var (i := 2) rfl) (eai_here (i := 4) rfl ea_nil)) ⟨3, hw.two F hF, rfl⟩ rfl rfl) ⟨3, rfl, rfl, hw.fi⟩ (by omega)
      · have h2' : n2 ≤ n1 + 7 * 1 + 2 * 2 := h2
        exact xt_less [6] (xt_seq (xt_lam (nm := "walks") (fld := b) (C := A.Walks) (lam_call (m := 4) (i := 4) (j := 1) (ds := [backD, b, z]) (eai_next (ed_var (i := 2) rfl) (eai_here (i := 4) rfl (ea_cons (ed_var (i := 6) rfl) ea_nil))) ⟨3, hw.op z hz, rfl⟩ rfl rfl) ⟨3, rfl, rfl, hw.fi⟩ (by omega))
          (xt_lam (nm := "walks") (fld := b) (C := A.Walks) (lam_call (m := 4) (i := 4) (j := 1) (ds := [backD, b, z, .none]) (eai_next (ed_var (i := 2) rfl) (eai_here (i := 4) rfl (ea_cons (ed_var (i := 6) rfl) (ea_cons ed_non ea_nil)))) ⟨3, hw.ob z hz, rfl⟩ rfl rfl) ⟨3, rfl, rfl, hw.fi⟩ (by omega))) rfl
    refine xt_step (xt_asg (d := oneD) (j := 7) (by decide) (ed_tup (ea_cons (ed_tup (ea_cons ed_int (ea_cons (ed_lst ea_nil (Nat.le_of_ble_eq_true rfl)) ea_nil)) (Nat.le_of_ble_eq_true rfl)) (ea_cons (ed_lst (ea_cons (ed_lst ea_nil (Nat.le_of_ble_eq_true rfl)) (ea_cons (ed_lst ea_nil (Nat.le_of_ble_eq_true rfl)) ea_nil)) (Nat.le_of_ble_eq_true rfl)) (ea_cons (ed_lst (ea_cons (ed_tup (ea_cons ed_int (ea_cons ed_int (ea_cons (ed_lst ea_nil (Nat.le_of_ble_eq_true rfl)) ea_nil))) (Nat.le_of_ble_eq_true rfl)) ea_nil) (Nat.le_of_ble_eq_true rfl)) ea_nil))) (Nat.le_of_ble_eq_true rfl))) (fun σ B H s sd a => ?_) s sd a
    have len2 : oneB0.length = 3 := rfl
    refine xt_step (xt_for (j := 4) (k := 9) (ds := oneB0) (by decide) (ed_lst (ea_cons (ed_lst (ea_cons (ed_lst (ea_cons ed_int (ea_cons ed_int ea_nil)) (Nat.le_of_ble_eq_true rfl)) ea_nil) (Nat.le_of_ble_eq_true rfl)) (ea_cons (ed_lst (ea_cons (ed_lst (ea_cons ed_int (ea_cons ed_int ea_nil)) (Nat.le_of_ble_eq_true rfl)) (ea_cons (ed_lst (ea_cons ed_int (ea_cons ed_int ea_nil)) (Nat.le_of_ble_eq_true rfl)) ea_nil)) (Nat.le_of_ble_eq_true rfl)) (ea_cons (ed_lst (ea_cons (ed_lst (ea_cons ed_int (ea_cons ed_int (ea_cons ed_int (ea_cons ed_int ea_nil)))) (Nat.le_of_ble_eq_true rfl)) ea_nil) (Nat.le_of_ble_eq_true rfl)) ea_nil))) (Nat.le_of_ble_eq_true rfl)) fun b hb n1 h1 => ?_) (fun σ B H s sd a => ?_) s sd a
    · have hw := oneB0_ok b hb
      refine xt_less [4] (xt_up (xt_seq (xt_forF (fs := [a_pressed_by, a_hands_light, a_first_shut, a_greatest_playable, a_why_unplayable, a_debts, a_earned]) (j := 5) (k := 1) (by decide) (Nat.le_of_ble_eq_true rfl) rfl (evs_cons (evs_cons (evs_cons (evs_cons (evs_cons (evs_cons (evs_cons evs_nil))))))) (Nat.le_of_ble_eq_true rfl) fun g hg n2 h2 => ?_) (xt_seq (xt_lam (nm := "walks") (fld := b) (C := A.Walks) (lam_call (m := 4) (i := 4) (j := 1) (ds := [oneD, b, .int 0]) (eai_next (ed_var (i := 7) rfl) (eai_here (i := 4) rfl (ea_cons ed_int ea_nil))) ⟨3, hw.op, rfl⟩ rfl rfl) ⟨3, rfl, rfl, hw.fi⟩ (by simp only [List.length_cons, List.length_nil]; omega))
          (xt_lam (nm := "walks") (fld := b) (C := A.Walks) (lam_call (m := 4) (i := 4) (j := 1) (ds := [oneD, b, .int 0, .int 0]) (eai_next (ed_var (i := 7) rfl) (eai_here (i := 4) rfl (ea_cons ed_int (ea_cons ed_int ea_nil)))) ⟨3, hw.ob, rfl⟩ rfl rfl) ⟨3, rfl, rfl, hw.fi⟩ (by simp only [List.length_cons, List.length_nil]; omega)))) (by simp only [List.length_cons, List.length_nil]; omega)) rfl
      have h2' : n2 ≤ n1 + 7 * 1 := h2
      obtain ⟨F, hF, cp⟩ : ∃ F ∈ fns7, CPx P w K mg base 12 g (SpX K (RF F) (XFy (clA A) F)) := by
        simp only [List.mem_cons, List.not_mem_nil, or_false] at hg
        rcases hg with rfl | rfl | rfl | rfl | rfl | rfl | rfl
        · exact ⟨F_pressed_by, by simp [fns7], c.pressed_by.cpx (by decide) m_pressed_by⟩
        · exact ⟨F_hands_light, by simp [fns7], c.hands_light.cpx (by decide) m_hands_light⟩
        · exact ⟨F_first_shut, by simp [fns7], c.first_shut.cpx (by decide) m_first_shut⟩
        · exact ⟨F_greatest_playable, by simp [fns7], c.greatest_playable.cpx (by decide) m_greatest_playable⟩
        · exact ⟨F_why_unplayable, by simp [fns7], c.why_unplayable.cpx (by decide) m_why_unplayable⟩
        · exact ⟨F_debts, by simp [fns7], c.debts.cpx (by decide) m_debts⟩
        · exact ⟨F_earned, by simp [fns7], c.earned.cpx (by decide) m_earned⟩
      exact xt_lam (nm := "walks") (fld := b) (C := A.Walks) (lam_callF (m := 4) (i := 4) (j := 1) (ds := [oneD, b]) cp (eai_next (ed_var (i := 7) rfl) (eai_here (i := 4) rfl ea_nil)) ⟨3, hw.two F hF, rfl⟩ rfl rfl) ⟨3, rfl, rfl, hw.fi⟩ (by omega)
    refine xt_step (xt_asg (d := staysD) (j := 8) (by decide) (ed_lst (ea_cons (ed_tup (ea_cons ed_int (ea_cons ed_int ea_nil)) (Nat.le_of_ble_eq_true rfl)) (ea_cons (ed_tup (ea_cons ed_int (ea_cons ed_int ea_nil)) (Nat.le_of_ble_eq_true rfl)) ea_nil)) (Nat.le_of_ble_eq_true rfl))) (fun σ B H s sd a => ?_) s sd a
    refine xt_step (xt_lam (nm := "walk") (fld := staysD) (C := A.Walk) (lam_call (m := 8) (i := 8) (j := 1) (ds := [oneD, staysD]) (eai_next (ed_var (i := 7) rfl) (eai_here (i := 8) rfl ea_nil)) ⟨2, stays_no.1, rfl⟩ rfl rfl) ⟨2, rfl, rfl, stays_no.2⟩ (by omega)) (fun σ B H s sd a => ?_) s sd a
    have len3 : putB0.length = 13 := rfl
    refine xt_step (xt_for (j := 4) (k := 2) (ds := putB0) (by decide) (ed_lst (ea_cons ed_non (ea_cons ed_int (ea_cons (ed_tup ea_nil (Nat.le_of_ble_eq_true rfl)) (ea_cons ed_dnew (ea_cons ed_str (ea_cons (ed_lst (ea_cons (ed_lst ea_nil (Nat.le_of_ble_eq_true rfl)) ea_nil) (Nat.le_of_ble_eq_true rfl)) (ea_cons (ed_lst (ea_cons (ed_lst (ea_cons ed_int ea_nil) (Nat.le_of_ble_eq_true rfl)) (ea_cons (ed_lst ea_nil (Nat.le_of_ble_eq_true rfl)) ea_nil)) (Nat.le_of_ble_eq_true rfl)) (ea_cons (ed_lst (ea_cons ed_int ea_nil) (Nat.le_of_ble_eq_true rfl)) (ea_cons (ed_lst (ea_cons (ed_tup (ea_cons ed_int ea_nil) (Nat.le_of_ble_eq_true rfl)) ea_nil) (Nat.le_of_ble_eq_true rfl)) (ea_cons (ed_lst (ea_cons (ed_lst (ea_cons ed_neg1 ea_nil) (Nat.le_of_ble_eq_true rfl)) ea_nil) (Nat.le_of_ble_eq_true rfl)) (ea_cons (ed_lst (ea_cons (ed_lst (ea_cons ed_bl ea_nil) (Nat.le_of_ble_eq_true rfl)) ea_nil) (Nat.le_of_ble_eq_true rfl)) (ea_cons (ed_lst (ea_cons (ed_lst (ea_cons ed_str ea_nil) (Nat.le_of_ble_eq_true rfl)) ea_nil) (Nat.le_of_ble_eq_true rfl)) (ea_cons (ed_lst (ea_cons (ed_lst (ea_cons ed_int ea_nil) (Nat.le_of_ble_eq_true rfl)) (ea_cons ed_non ea_nil)) (Nat.le_of_ble_eq_true rfl)) ea_nil))))))))))))) (Nat.le_of_ble_eq_true rfl)) fun b hb n1 h1 => ?_) (fun σ B H s sd a => ?_) s sd a
    · have hw := putB0_ok b hb
      refine xt_less [4] (xt_up (xt_for (j := 9) (k := 1) (ds := [.none, .int 1]) (by decide) (ed_lst (ea_cons ed_non (ea_cons ed_int ea_nil)) (Nat.le_of_ble_eq_true rfl)) fun z hz n2 h2 => ?_) (by simp only [List.length_cons, List.length_nil]; omega)) rfl
      have h2' : n2 ≤ n1 + 2 * 1 := h2
      exact xt_less [9] (xt_lam (nm := "walks") (fld := b) (C := A.Walks) (lam_call (m := 4) (i := 4) (j := 0) (ds := [b, z]) (eai_here (i := 4) rfl (ea_cons (ed_var (i := 9) rfl) ea_nil)) ⟨3, hw.tw z hz, rfl⟩ rfl rfl) ⟨3, rfl, rfl, hw.fi⟩ (by omega)) rfl
    have len4 : (putN0 n).length = 6 := rfl
    refine xt_step (xt_for (j := 4) (k := 1) (ds := putN0 n) (by decide) (ed_lst (ea_cons ed_non (ea_cons ed_neg1 (ea_cons ed_bl (ea_cons ed_str (ea_cons (ed_lst (ea_cons ed_int ea_nil) (Nat.le_of_ble_eq_true rfl)) (ea_cons (ed_op (ed_op ed_int ed_int r_Ii) (ed_var (i := 0) rfl) r_Ii) ea_nil)))))) (Nat.le_of_ble_eq_true rfl)) fun b hb n1 h1 => ?_) (fun σ B H s sd a => ?_) s sd a
    · have hw := putN0_ok hn b hb
      exact xt_less [4] (xt_lam (nm := "number") (fld := b) (C := A.Number) (lam_call (m := 4) (i := 4) (j := 1) (ds := [w01, b]) (eai_next (ed_lst (ea_cons (ed_lst (ea_cons ed_int (ea_cons ed_int ea_nil)) (Nat.le_of_ble_eq_true rfl)) ea_nil) (Nat.le_of_ble_eq_true rfl)) (eai_here (i := 4) rfl ea_nil)) ⟨1, hw.pu, rfl⟩ rfl rfl) ⟨1, rfl, rfl, hw.fi⟩ (by omega)) rfl
    exact xt_end (fun ds hT hl => xs_notin hT rfl) s sd a fun v B' H' dv tb => by
      cases dv
      exact hq H' tb
  obtain ⟨t, h1, h2⟩ := hps
  exact ⟨t, h1.nox, h2⟩
abbrev s__law_numbers_refused : Stmt := topS 105
theorem f__law_numbers_refused (T7 : B7 mg) (sm : ∃ mm, base.Ns sysModules mm) (Z : Ce K mg A DE) (kIn : K.In base) (hns : base.Ns mainGlobals mg) (htab : PySem.W.tabIn K "_law_numbers_refused" = some (cd, Pt)) (TB : TabB base mg cd Pt) (hmT : (Pt, qL "_law_numbers_refused") ∈ Ts) (huT : ∀ p ∈ Ts, p.1 = Pt → p.2 = qL "_law_numbers_refused")
    (c_ref : At K mg "_law_refused" s__law_refused) (c : Cd P w K mg base A) (a : At K mg "_law_numbers_refused" s__law_numbers_refused) : Fc P w K mg base "_law_numbers_refused" ["_law_far"] 15 (spTab K Ts) := by
  have S : FnScope ["_law_far", "_law_due", "_law_back", "_law_bad", "_law_other", "_law_bads"] ["_law_far"] (defScope s__law_numbers_refused) := ⟨rfl, rfl, rfl, by decide +kernel, rfl, by decide +kernel, by decide +kernel⟩
  have c_steps_between := c.steps_between
  have c_open_steps := c.open_steps
  have c_opened_by := c.opened_by
  have c_far_steps := c.far_steps
  have c_are_stays := c.are_stays
  have c_is_walk := c.is_walk
  obtain ⟨f, fd, F, hm⟩ := a
  refine ⟨f, fd, hm, F.kp, F.binds (fun _ _ _ _ _ _ us hl => match us, hl with | [_], _ => rfl), fnGT F hm kIn hns htab S (by rintro vs H Q E ⟨n, rfl, _⟩; rfl) ?_⟩
  rintro A' outer s H vs Q E gu hr ⟨n, rfl, hn, tb, hq⟩
  have hc : (cxOf CX0 P w K mg base ["_law_far", "_law_due", "_law_back", "_law_bad", "_law_other", "_law_bads"] "_law_numbers_refused" (defScope s__law_numbers_refused) f (.ref cd) A' outer s H E).nox.calm = true := rfl
  have hps : ∃ t, PSs (cxOf CX0 P w K mg base ["_law_far", "_law_due", "_law_back", "_law_bad", "_law_other", "_law_bads"] "_law_numbers_refused" (defScope s__law_numbers_refused) f (.ref cd) A' outer s H E).nox (defBody s__law_numbers_refused) t ∧ t { nx := fun _ H' => Q .non H', rt := Q } (L2.start ["_law_far", "_law_due", "_law_back", "_law_bad", "_law_other", "_law_bads"] [.int n]) H := by
    refine ⟨_, (pss_cons (ps_asg (pe_tup (pa_cons (pe_lst pa_nil) (pa_cons (pe_tup (pa_cons (pe_tup (pa_cons pe_int (pa_cons (pe_lst (pa_cons (pe_tup (pa_cons (pe_lst (pa_cons pe_int pa_nil)) (pa_cons pe_int (pa_cons (pe_un un_neg pe_int) pa_nil)))) pa_nil)) pa_nil))) (pa_cons (pe_lst (pa_cons (pe_lst pa_nil) (pa_cons (pe_lst (pa_cons pe_int pa_nil)) pa_nil))) (pa_cons (pe_lst (pa_cons (pe_tup (pa_cons pe_int (pa_cons pe_int (pa_cons (pe_lst (pa_cons pe_int pa_nil)) pa_nil)))) (pa_cons (pe_tup (pa_cons pe_int (pa_cons pe_int (pa_cons (pe_lst pa_nil) pa_nil)))) pa_nil))) pa_nil)))) pa_nil))) (pg_tup hc (pgs_cons (pg_name (i := 1) S.nd rfl (by first | exact Or.inl rfl | exact Or.inr rfl)) (pgs_cons (pg_name (i := 2) S.nd rfl (by first | exact Or.inl rfl | exact Or.inr rfl)) pgs_nil))))
  (pss_cons (ps_for PassesOwn.never hc (pi_list (pe_lst (pa_cons pe_non (pa_cons (pe_un un_neg pe_int) (pa_cons pe_int (pa_cons pe_bl (pa_cons pe_str (pa_cons (pe_lst (pa_cons pe_int pa_nil)) (pa_cons (pe_tup (pa_cons pe_int pa_nil)) (pa_cons (pe_op op_add (pv 0) pe_int) pa_nil)))))))))) (pg_name (i := 3) S.nd rfl (by first | exact Or.inl rfl | exact Or.inr rfl))
    (pss_cons (ps_for PassesOwn.never hc (pi_list (pe_lst (pa_cons pe_non (pa_cons pe_int pa_nil)))) (pg_name (i := 4) S.nd rfl (by first | exact Or.inl rfl | exact Or.inr rfl))
    (pss_cons (ps_expr (pe_bm PySem.F.plainAttrs_list PySem.F.slot_list_append PySem.F.type_list_append mt_append (pv 1) (pa_cons (pe_lam3 (T := Ts) (k := 12) c_ref S_refused rfl (fun _ _ _ _ _ _ us hl => match us, hl with | [_, _, _], _ => rfl) (g__law_refused T7 sm Z) (by rfl) gu (hr.mono (by decide)) rfl rfl TB rfl hmT huT (LamX.lamS_by (sc := defScope s__law_numbers_refused) (by decide +kernel)) rfl (fun _ _ _ _ _ => rfl) (fun A2 outer2 s2 H2 E2 f2 cc2 gu2 hr2 => (pe_fx c_steps_between gu2 (hr2.mono (by decide)) (by rfl) (fun σ => passAt (takes_of rfl rfl rfl rfl) σ) (pa_cons (pv 2) (pa_cons (pv 3) (pa_cons (pv 4) pa_nil))))) (pa_cons pe_str (pa_cons (pv 3) pa_nil))) pa_nil)))
  (pss_one (ps_expr (pe_bm PySem.F.plainAttrs_list PySem.F.slot_list_append PySem.F.type_list_append mt_append (pv 1) (pa_cons (pe_lam3 (T := Ts) (k := 12) c_ref S_refused rfl (fun _ _ _ _ _ _ us hl => match us, hl with | [_, _, _], _ => rfl) (g__law_refused T7 sm Z) (by rfl) gu (hr.mono (by decide)) rfl rfl TB rfl hmT huT (LamX.lamS_by (sc := defScope s__law_numbers_refused) (by decide +kernel)) rfl (fun _ _ _ _ _ => rfl) (fun A2 outer2 s2 H2 E2 f2 cc2 gu2 hr2 => (pe_fx c_opened_by gu2 (hr2.mono (by decide)) (by rfl) (fun σ => passAt (takes_of rfl rfl rfl rfl) σ) (pa_cons (pv 2) (pa_cons (pe_lst (pa_cons (pe_lst (pa_cons pe_int (pa_cons pe_int pa_nil))) (pa_cons (pe_lst (pa_cons pe_int pa_nil)) pa_nil))) (pa_cons (pv 3) (pa_cons (pv 4) pa_nil)))))) (pa_cons pe_str (pa_cons (pv 3) pa_nil))) pa_nil))))))
  (pss_cons (ps_expr (pe_bm PySem.F.plainAttrs_list PySem.F.slot_list_append PySem.F.type_list_append mt_append (pv 1) (pa_cons (pe_lam3 (T := Ts) (k := 12) c_ref S_refused rfl (fun _ _ _ _ _ _ us hl => match us, hl with | [_, _, _], _ => rfl) (g__law_refused T7 sm Z) (by rfl) gu (hr.mono (by decide)) rfl rfl TB rfl hmT huT (LamX.lamS_by (sc := defScope s__law_numbers_refused) (by decide +kernel)) rfl (fun _ _ _ _ _ => rfl) (fun A2 outer2 s2 H2 E2 f2 cc2 gu2 hr2 => (pe_fx c_steps_between gu2 (hr2.mono (by decide)) (by rfl) (fun σ => passAt (takes_of rfl rfl rfl rfl) σ) (pa_cons (pv 2) (pa_cons pe_int (pa_cons (pv 3) pa_nil))))) (pa_cons pe_str (pa_cons (pv 3) pa_nil))) pa_nil)))
  (pss_cons (ps_expr (pe_bm PySem.F.plainAttrs_list PySem.F.slot_list_append PySem.F.type_list_append mt_append (pv 1) (pa_cons (pe_lam3 (T := Ts) (k := 12) c_ref S_refused rfl (fun _ _ _ _ _ _ us hl => match us, hl with | [_, _, _], _ => rfl) (g__law_refused T7 sm Z) (by rfl) gu (hr.mono (by decide)) rfl rfl TB rfl hmT huT (LamX.lamS_by (sc := defScope s__law_numbers_refused) (by decide +kernel)) rfl (fun _ _ _ _ _ => rfl) (fun A2 outer2 s2 H2 E2 f2 cc2 gu2 hr2 => (pe_fx c_open_steps gu2 (hr2.mono (by decide)) (by rfl) (fun σ => passAt (takes_of rfl rfl rfl rfl) σ) (pa_cons (pv 2) (pa_cons (pe_lst (pa_cons (pe_lst (pa_cons pe_int (pa_cons pe_int pa_nil))) (pa_cons (pe_lst (pa_cons pe_int pa_nil)) pa_nil))) (pa_cons (pv 3) pa_nil))))) (pa_cons pe_str (pa_cons (pv 3) pa_nil))) pa_nil)))
  (pss_one (ps_expr (pe_bm PySem.F.plainAttrs_list PySem.F.slot_list_append PySem.F.type_list_append mt_append (pv 1) (pa_cons (pe_lam3 (T := Ts) (k := 12) c_ref S_refused rfl (fun _ _ _ _ _ _ us hl => match us, hl with | [_, _, _], _ => rfl) (g__law_refused T7 sm Z) (by rfl) gu (hr.mono (by decide)) rfl rfl TB rfl hmT huT (LamX.lamS_by (sc := defScope s__law_numbers_refused) (by decide +kernel)) rfl (fun _ _ _ _ _ => rfl) (fun A2 outer2 s2 H2 E2 f2 cc2 gu2 hr2 => (pe_fx c_opened_by gu2 (hr2.mono (by decide)) (by rfl) (fun σ => passAt (takes_of rfl rfl rfl rfl) σ) (pa_cons (pv 2) (pa_cons (pe_lst (pa_cons (pe_lst (pa_cons pe_int (pa_cons pe_int (pa_cons pe_int pa_nil)))) (pa_cons (pe_lst (pa_cons pe_int pa_nil)) pa_nil))) (pa_cons pe_int (pa_cons (pv 3) pa_nil)))))) (pa_cons pe_str (pa_cons (pv 3) pa_nil))) pa_nil))))))))
  (pss_cons (ps_expr (pe_bm PySem.F.plainAttrs_list PySem.F.slot_list_append PySem.F.type_list_append mt_append (pv 1) (pa_cons (pe_lam3 (T := Ts) (k := 12) c_ref S_refused rfl (fun _ _ _ _ _ _ us hl => match us, hl with | [_, _, _], _ => rfl) (g__law_refused T7 sm Z) (by rfl) gu (hr.mono (by decide)) rfl rfl TB rfl hmT huT (LamX.lamS_by (sc := defScope s__law_numbers_refused) (by decide +kernel)) rfl (fun _ _ _ _ _ => rfl) (fun A2 outer2 s2 H2 E2 f2 cc2 gu2 hr2 => (pe_fx c_opened_by gu2 (hr2.mono (by decide)) (by rfl) (fun σ => passAt (takes_of rfl rfl rfl rfl) σ) (pa_cons (pv 2) (pa_cons (pe_lst (pa_cons (pe_lst (pa_cons pe_int (pa_cons pe_int pa_nil))) (pa_cons (pe_lst (pa_cons pe_int pa_nil)) pa_nil))) (pa_cons pe_int (pa_cons pe_int pa_nil)))))) (pa_cons pe_str (pa_cons pe_int pa_nil))) pa_nil)))
  (pss_cons (ps_expr (pe_bm PySem.F.plainAttrs_list PySem.F.slot_list_append PySem.F.type_list_append mt_append (pv 1) (pa_cons (pe_lam3 (T := Ts) (k := 12) c_ref S_refused rfl (fun _ _ _ _ _ _ us hl => match us, hl with | [_, _, _], _ => rfl) (g__law_refused T7 sm Z) (by rfl) gu (hr.mono (by decide)) rfl rfl TB rfl hmT huT (LamX.lamS_by (sc := defScope s__law_numbers_refused) (by decide +kernel)) rfl (fun _ _ _ _ _ => rfl) (fun A2 outer2 s2 H2 E2 f2 cc2 gu2 hr2 => (pe_fx c_open_steps gu2 (hr2.mono (by decide)) (by rfl) (fun σ => passAt (takes_of rfl rfl rfl rfl) σ) (pa_cons (pv 2) (pa_cons (pe_lst pa_nil) (pa_cons pe_int pa_nil))))) (pa_cons pe_str (pa_cons pe_int pa_nil))) pa_nil)))
  (pss_cons (ps_set (i := 5) S.nd rfl (by first | exact Or.inl rfl | exact Or.inr rfl) (pe_lst (pa_cons pe_non (pa_cons pe_int (pa_cons (pe_tup pa_nil) (pa_cons pe_dnewK (pa_cons (pe_lst pa_nil) (pa_cons (pe_lst (pa_cons (pe_tup (pa_cons pe_int (pa_cons pe_int pa_nil))) pa_nil)) (pa_cons (pe_lst (pa_cons (pe_tup (pa_cons pe_int (pa_cons pe_int pa_nil))) (pa_cons (pe_tup (pa_cons pe_int (pa_cons pe_int pa_nil))) pa_nil))) (pa_cons (pe_lst (pa_cons (pe_tup (pa_cons pe_int (pa_cons pe_int pa_nil))) pa_nil)) (pa_cons (pe_lst (pa_cons (pe_tup (pa_cons (pe_un un_neg pe_int) (pa_cons pe_int pa_nil))) pa_nil)) (pa_cons (pe_lst (pa_cons (pe_lst (pa_cons pe_int (pa_cons pe_int pa_nil))) pa_nil)) (pa_cons (pe_lst (pa_cons (pe_tup (pa_cons pe_int pa_nil)) pa_nil)) (pa_cons (pe_lst (pa_cons (pe_tup (pa_cons pe_int (pa_cons pe_int (pa_cons pe_int pa_nil)))) pa_nil)) pa_nil))))))))))))))
  (pss_cons (ps_set (i := 5) S.nd rfl (by first | exact Or.inl rfl | exact Or.inr rfl) (pe_op op_cat (pv 5) (pe_lst (pa_cons (pe_lst (pa_cons (pe_tup (pa_cons pe_int (pa_cons pe_bl pa_nil))) pa_nil)) (pa_cons (pe_lst (pa_cons (pe_tup (pa_cons pe_bl (pa_cons pe_int pa_nil))) pa_nil)) (pa_cons (pe_lst (pa_cons (pe_tup (pa_cons pe_int (pa_cons pe_str pa_nil))) pa_nil)) (pa_cons (pe_tup (pa_cons (pe_tup (pa_cons pe_int (pa_cons pe_int pa_nil))) pa_nil)) (pa_cons (pe_lst (pa_cons (pe_tup (pa_cons pe_int (pa_cons pe_int pa_nil))) (pa_cons pe_non pa_nil))) (pa_cons (pe_lst (pa_cons (pe_tup (pa_cons (pe_op op_add (pv 0) pe_int) (pa_cons pe_int pa_nil))) pa_nil)) pa_nil)))))))))
  (pss_cons (ps_for PassesOwn.never hc (pi_list (pv 5)) (pg_name (i := 3) S.nd rfl (by first | exact Or.inl rfl | exact Or.inr rfl))
    (pss_cons (ps_expr (pe_bm PySem.F.plainAttrs_list PySem.F.slot_list_append PySem.F.type_list_append mt_append (pv 1) (pa_cons (pe_lam3 (T := Ts) (k := 12) c_ref S_refused rfl (fun _ _ _ _ _ _ us hl => match us, hl with | [_, _, _], _ => rfl) (g__law_refused T7 sm Z) (by rfl) gu (hr.mono (by decide)) rfl rfl TB rfl hmT huT (LamX.lamS_by (sc := defScope s__law_numbers_refused) (by decide +kernel)) rfl (fun _ _ _ _ _ => rfl) (fun A2 outer2 s2 H2 E2 f2 cc2 gu2 hr2 => (pe_fx c_far_steps gu2 (hr2.mono (by decide)) (by rfl) (fun σ => passAt (takes_of rfl rfl rfl rfl) σ) (pa_cons (pv 2) (pa_cons (pv 3) pa_nil)))) (pa_cons pe_str (pa_cons (pv 3) pa_nil))) pa_nil)))
  (pss_one (ps_expr (pe_bm PySem.F.plainAttrs_list PySem.F.slot_list_append PySem.F.type_list_append mt_append (pv 1) (pa_cons (pe_cmpR op_isBl (pe_fx (E := fun _ _ _ _ => False) c_are_stays gu (hr.mono (by decide)) (by rfl) (fun σ _ _ _ _ _ _ h => (cx_none h).elim) (pa_cons (pv 2) (pa_cons (pv 3) pa_nil))) pe_bl (nomark _)) pa_nil))))))
  (pss_cons (ps_expr (pe_bm PySem.F.plainAttrs_list PySem.F.slot_list_append PySem.F.type_list_append mt_append (pv 1) (pa_cons (pe_cmpR op_isBl (pe_fx (E := fun _ _ _ _ => False) c_is_walk gu (hr.mono (by decide)) (by rfl) (fun σ _ _ _ _ _ _ h => (cx_none h).elim) (pa_cons (pv 2) (pa_cons pe_non pa_nil))) pe_bl (nomark _)) pa_nil)))
  (pss_one (ps_ret (pe_cmpR op_notIn_seq pe_bl (pv 1) (by with_unfolding_all rfl)))))))))))), ?_⟩
    refine xt_asg2 (K := K) (ρ := [some (.int n), none, none, none, none, none]) (d1 := backD) (ea_cons (ed_tup (ea_cons (ed_tup (ea_cons ed_int (ea_cons (ed_lst (ea_cons (ed_tup (ea_cons (ed_lst (ea_cons ed_int ea_nil) (Nat.le_of_ble_eq_true rfl)) (ea_cons ed_int (ea_cons ed_neg1 ea_nil))) (Nat.le_of_ble_eq_true rfl)) ea_nil) (Nat.le_of_ble_eq_true rfl)) ea_nil)) (Nat.le_of_ble_eq_true rfl)) (ea_cons (ed_lst (ea_cons (ed_lst ea_nil (Nat.le_of_ble_eq_true rfl)) (ea_cons (ed_lst (ea_cons ed_int ea_nil) (Nat.le_of_ble_eq_true rfl)) ea_nil)) (Nat.le_of_ble_eq_true rfl)) (ea_cons (ed_lst (ea_cons (ed_tup (ea_cons ed_int (ea_cons ed_int (ea_cons (ed_lst (ea_cons ed_int ea_nil) (Nat.le_of_ble_eq_true rfl)) ea_nil))) (Nat.le_of_ble_eq_true rfl)) (ea_cons (ed_tup (ea_cons ed_int (ea_cons ed_int (ea_cons (ed_lst ea_nil (Nat.le_of_ble_eq_true rfl)) ea_nil))) (Nat.le_of_ble_eq_true rfl)) ea_nil)) (Nat.le_of_ble_eq_true rfl)) ea_nil))) (Nat.le_of_ble_eq_true rfl)) ea_nil) (Nat.le_of_ble_eq_true rfl) (by decide) (fun σ B H s sd a => ?_) ex_B0 nt_B0 (sd_start (N := ["_law_far", "_law_due", "_law_back", "_law_bad", "_law_other", "_law_bads"]) (.cons (.int n) .nil)) tb
    have len1 : (numB_0 n).length = 8 := rfl
    refine xt_step (xt_for (j := 3) (n := 0) (k := 7) (ds := numB_0 n) (by decide) (ed_lst (ea_cons ed_non (ea_cons ed_neg1 (ea_cons ed_int (ea_cons ed_bl (ea_cons ed_str (ea_cons (ed_lst (ea_cons ed_int ea_nil) (Nat.le_of_ble_eq_true rfl)) (ea_cons (ed_tup (ea_cons ed_int ea_nil) (Nat.le_of_ble_eq_true rfl)) (ea_cons (ed_op (ed_var (i := 0) rfl) ed_int r_Ii) ea_nil)))))))) (Nat.le_of_ble_eq_true rfl)) fun b hb n1 h1 => ?_) (fun σ B H s sd a => ?_) s sd a
    · have hw := numB_0_ok hn b hb
      refine xt_less [3] (xt_up (xt_seq (xt_for (j := 4) (k := 2) (ds := zs) (by decide) (ed_lst (ea_cons ed_non (ea_cons ed_int ea_nil)) (Nat.le_of_ble_eq_true rfl)) fun z hz n2 h2 => ?_) (xt_seq (xt_less [4] (xt_lam (nm := "number") (fld := b) (C := A.Number) (lam_call (m := 3) (i := 3) (j := 2) (ds := [backD, .int 1, b]) (eai_next (ed_var (i := 2) rfl) (eai_next ed_int (eai_here (i := 3) rfl ea_nil))) ⟨1, hw.s2, rfl⟩ rfl rfl) ⟨1, rfl, rfl, hw.fi⟩ (by simp only [zs, List.length_cons, List.length_nil]; omega)) rfl) (xt_seq (xt_lam (nm := "number") (fld := b) (C := A.Number) (lam_call (m := 3) (i := 3) (j := 2) (ds := [backD, wA, b]) (eai_next (ed_var (i := 2) rfl) (eai_next (ed_lst (ea_cons (ed_lst (ea_cons ed_int (ea_cons ed_int ea_nil)) (Nat.le_of_ble_eq_true rfl)) (ea_cons (ed_lst (ea_cons ed_int ea_nil) (Nat.le_of_ble_eq_true rfl)) ea_nil)) (Nat.le_of_ble_eq_true rfl)) (eai_here (i := 3) rfl ea_nil))) ⟨1, hw.o2, rfl⟩ rfl rfl) ⟨1, rfl, rfl, hw.fi⟩ (by simp only [zs, List.length_cons, List.length_nil]; omega))
          (xt_lam (nm := "number") (fld := b) (C := A.Number) (lam_call (m := 3) (i := 3) (j := 3) (ds := [backD, wC, .int 0, b]) (eai_next (ed_var (i := 2) rfl) (eai_next (ed_lst (ea_cons (ed_lst (ea_cons ed_int (ea_cons ed_int (ea_cons ed_int ea_nil))) (Nat.le_of_ble_eq_true rfl)) (ea_cons (ed_lst (ea_cons ed_int ea_nil) (Nat.le_of_ble_eq_true rfl)) ea_nil)) (Nat.le_of_ble_eq_true rfl)) (eai_next ed_int (eai_here (i := 3) rfl ea_nil)))) ⟨1, hw.o3, rfl⟩ rfl rfl) ⟨1, rfl, rfl, hw.fi⟩ (by simp only [zs, List.length_cons, List.length_nil]; omega))))) (by simp only [zs, List.length_cons, List.length_nil]; omega)) rfl
      have h2' : n2 ≤ n1 + 2 * 2 := h2
      exact xt_less [4] (xt_seq (xt_lam (nm := "number") (fld := b) (C := A.Number) (lam_call (m := 3) (i := 3) (j := 1) (ds := [backD, b, z]) (eai_next (ed_var (i := 2) rfl) (eai_here (i := 3) rfl (ea_cons (ed_var (i := 4) rfl) ea_nil))) ⟨1, hw.s1 z hz, rfl⟩ rfl rfl) ⟨1, rfl, rfl, hw.fi⟩ (by omega))
          (xt_lam (nm := "number") (fld := b) (C := A.Number) (lam_call (m := 3) (i := 3) (j := 2) (ds := [backD, wA, b, z]) (eai_next (ed_var (i := 2) rfl) (eai_next (ed_lst (ea_cons (ed_lst (ea_cons ed_int (ea_cons ed_int ea_nil)) (Nat.le_of_ble_eq_true rfl)) (ea_cons (ed_lst (ea_cons ed_int ea_nil) (Nat.le_of_ble_eq_true rfl)) ea_nil)) (Nat.le_of_ble_eq_true rfl)) (eai_here (i := 3) rfl (ea_cons (ed_var (i := 4) rfl) ea_nil)))) ⟨1, hw.o1 z hz, rfl⟩ rfl rfl) ⟨1, rfl, rfl, hw.fi⟩ (by omega))) rfl
    refine xt_step (xt_lam (nm := "number") (fld := .int 0) (C := A.Number) (lam_callI (n := 0) (j := 3) (ds := [backD, wA, .int 1, .int 0]) (fun σ B H s sd Q q => (ea_cons (ed_var (i := 2) rfl) (ea_cons (ed_lst (ea_cons (ed_lst (ea_cons ed_int (ea_cons ed_int ea_nil)) (Nat.le_of_ble_eq_true rfl)) (ea_cons (ed_lst (ea_cons ed_int ea_nil) (Nat.le_of_ble_eq_true rfl)) ea_nil)) (Nat.le_of_ble_eq_true rfl)) (ea_cons ed_int (ea_cons ed_int ea_nil)))) σ B H s sd Q fun vs B' H' l dd => q vs B' H' l dd (by
      obtain ⟨v, hv, dv⟩ := dd.getD (i := 3) rfl
      cases dv
      exact hv)) ⟨1, last_no.1, rfl⟩) ⟨1, rfl, rfl, fine0 (gb_big ⟨by decide, by decide⟩)⟩ (by omega)) (fun σ B H s sd a => ?_) s sd a
    refine xt_step (xt_lam (nm := "number") (fld := .int 0) (C := A.Number) (lam_callI (n := 0) (j := 2) (ds := [backD, .list [], .int 0]) (fun σ B H s sd Q q => (ea_cons (ed_var (i := 2) rfl) (ea_cons (ed_lst ea_nil (Nat.le_of_ble_eq_true rfl)) (ea_cons ed_int ea_nil))) σ B H s sd Q fun vs B' H' l dd => q vs B' H' l dd (by
      obtain ⟨v, hv, dv⟩ := dd.getD (i := 2) rfl
      cases dv
      exact hv)) ⟨1, last_no.2.1, rfl⟩) ⟨1, rfl, rfl, fine0 (gb_big ⟨by decide, by decide⟩)⟩ (by omega)) (fun σ B H s sd a => ?_) s sd a
    refine xt_step (xt_asg (d := .list staB0) (j := 5) (by decide) (ed_lst (ea_cons ed_non (ea_cons ed_int (ea_cons (ed_tup ea_nil (Nat.le_of_ble_eq_true rfl)) (ea_cons ed_dnew (ea_cons (ed_lst ea_nil (Nat.le_of_ble_eq_true rfl)) (ea_cons (ed_lst (ea_cons (ed_tup (ea_cons ed_int (ea_cons ed_int ea_nil)) (Nat.le_of_ble_eq_true rfl)) ea_nil) (Nat.le_of_ble_eq_true rfl)) (ea_cons (ed_lst (ea_cons (ed_tup (ea_cons ed_int (ea_cons ed_int ea_nil)) (Nat.le_of_ble_eq_true rfl)) (ea_cons (ed_tup (ea_cons ed_int (ea_cons ed_int ea_nil)) (Nat.le_of_ble_eq_true rfl)) ea_nil)) (Nat.le_of_ble_eq_true rfl)) (ea_cons (ed_lst (ea_cons (ed_tup (ea_cons ed_int (ea_cons ed_int ea_nil)) (Nat.le_of_ble_eq_true rfl)) ea_nil) (Nat.le_of_ble_eq_true rfl)) (ea_cons (ed_lst (ea_cons (ed_tup (ea_cons ed_neg1 (ea_cons ed_int ea_nil)) (Nat.le_of_ble_eq_true rfl)) ea_nil) (Nat.le_of_ble_eq_true rfl)) (ea_cons (ed_lst (ea_cons (ed_lst (ea_cons ed_int (ea_cons ed_int ea_nil)) (Nat.le_of_ble_eq_true rfl)) ea_nil) (Nat.le_of_ble_eq_true rfl)) (ea_cons (ed_lst (ea_cons (ed_tup (ea_cons ed_int ea_nil) (Nat.le_of_ble_eq_true rfl)) ea_nil) (Nat.le_of_ble_eq_true rfl)) (ea_cons (ed_lst (ea_cons (ed_tup (ea_cons ed_int (ea_cons ed_int (ea_cons ed_int ea_nil))) (Nat.le_of_ble_eq_true rfl)) ea_nil) (Nat.le_of_ble_eq_true rfl)) ea_nil)))))))))))) (Nat.le_of_ble_eq_true rfl))) (fun σ B H s sd a => ?_) s sd a
    refine xt_step (xt_asg (d := .list (staB0 ++ (staB1 n))) (j := 5) (by decide) (ed_op (y := .list (staB1 n)) (ed_var (i := 5) rfl) (ed_lst (ea_cons (ed_lst (ea_cons (ed_tup (ea_cons ed_int (ea_cons ed_bl ea_nil)) (Nat.le_of_ble_eq_true rfl)) ea_nil) (Nat.le_of_ble_eq_true rfl)) (ea_cons (ed_lst (ea_cons (ed_tup (ea_cons ed_bl (ea_cons ed_int ea_nil)) (Nat.le_of_ble_eq_true rfl)) ea_nil) (Nat.le_of_ble_eq_true rfl)) (ea_cons (ed_lst (ea_cons (ed_tup (ea_cons ed_int (ea_cons ed_str ea_nil)) (Nat.le_of_ble_eq_true rfl)) ea_nil) (Nat.le_of_ble_eq_true rfl)) (ea_cons (ed_tup (ea_cons (ed_tup (ea_cons ed_int (ea_cons ed_int ea_nil)) (Nat.le_of_ble_eq_true rfl)) ea_nil) (Nat.le_of_ble_eq_true rfl)) (ea_cons (ed_lst (ea_cons (ed_tup (ea_cons ed_int (ea_cons ed_int ea_nil)) (Nat.le_of_ble_eq_true rfl)) (ea_cons ed_non ea_nil)) (Nat.le_of_ble_eq_true rfl)) (ea_cons (ed_lst (ea_cons (ed_tup (ea_cons (ed_op (ed_var (i := 0) rfl) ed_int r_Ii) (ea_cons ed_int ea_nil)) (Nat.le_of_ble_eq_true rfl)) ea_nil) (Nat.le_of_ble_eq_true rfl)) ea_nil)))))) (Nat.le_of_ble_eq_true rfl)) (r_cat (Nat.le_of_ble_eq_true rfl)))) (fun σ B H s sd a => ?_) s sd a
    have len2 : (staB n).length = 18 := rfl
    refine xt_step (xt_for (j := 3) (k := 2) (ds := staB n) (by decide) (ed_var (i := 5) rfl) fun b hb n1 h1 => ?_) (fun σ B H s sd a => ?_) s sd a
    · have hw := staB_ok hn b hb
      exact xt_less [3] (xt_seq (xt_lam (nm := "walk") (fld := b) (C := A.Walk) (lam_call (m := 3) (i := 3) (j := 1) (ds := [backD, b]) (eai_next (ed_var (i := 2) rfl) (eai_here (i := 3) rfl ea_nil)) ⟨2, hw.fa, rfl⟩ rfl rfl) ⟨2, rfl, rfl, hw.fi⟩ (by omega)) (xt_app (edj_of (is_false (ed_callS (ea_cons (ed_var (i := 2) rfl) (ea_cons (ed_var (i := 3) rfl) ea_nil)) ⟨_, hw.st⟩))) (by omega))) rfl
    refine xt_step (xt_app (edj_of (is_false (ed_callS (ea_cons (ed_var (i := 2) rfl) (ea_cons ed_non ea_nil)) ⟨_, last_no.2.2⟩))) (by omega)) (fun σ B H s sd a => ?_) s sd a
    exact xt_end (fun ds hT hl => xs_notin hT rfl) s sd a fun v B' H' dv tb => by
      cases dv
      exact hq H' tb
  obtain ⟨t, h1, h2⟩ := hps
  exact ⟨t, h1.nox, h2⟩
end
end TD

set_option maxHeartbeats 8000000
namespace TD
open PySem PySem.Spec PyProof.Rows L2
open Evl (Ex)
def XW (K : Fg) (W : WX) (t : TS) (ρ : En) (C : Addr) (i : Nat) : Prop := ∀ σ B H D, Ex B H → SD K B σ ρ → ∀ v, σ[i]? = some (some v) →
  (∀ x B' H', Le B H B' H' → H' x = some (xdV v) → W (.ref C) (some x) σ H') → t D σ H
section
variable {K : Fg} {W : WX} {t u : TS} {ρ : En} {C : Addr} {i j : Nat} {ta : TA} {tt : TT} {ds : List PyData} {R : List PyData → PyData → Prop} {RX : List PyData → Addr → Nat → Prop}
theorem xw_call (h : EAi K ta ρ ds j i) (hR : RX ds C j) : XW K W (tDrop (tCallS (SpX K R RX) (WE W) ta)) ρ C i := fun σ B H D s sd v hv q =>
  h σ B H s sd v hv _ fun vs B1 H1 l1 d1 e => ⟨B1, ds, l1.sub, d1, .inr ⟨C, j, v, hR, e, fun x B2 H2 l2 => q x B2 H2 (l1.tr l2)⟩⟩
theorem xw_if1 (h : ET K tt ρ true) (h1 : XW K W t ρ C i) : XW K W (tIfS tt t u) ρ C i := fun σ B H D s sd v hv q =>
  h σ B H s sd _ fun B1 H1 l1 => by
    show t D σ H1
    exact h1 σ B1 H1 D l1.sub (sd.up l1.ek) v hv fun x B2 H2 l2 => q x B2 H2 (l1.tr l2)
theorem xw_if0 (h : ET K tt ρ false) (h1 : XW K W u ρ C i) : XW K W (tIfS tt t u) ρ C i := fun σ B H D s sd v hv q =>
  h σ B H s sd _ fun B1 H1 l1 => by
    show u D σ H1
    exact h1 σ B1 H1 D l1.sub (sd.up l1.ek) v hv fun x B2 H2 l2 => q x B2 H2 (l1.tr l2)
theorem way_eq {n m : Int} {b : Bool} (h0 : ρ[j]? = some (some (.int n))) (e : decide (n = m) = b) : ET K (tTest (tOp rEq (tVar j) (tC (.int m)))) ρ b := et_is (et_test (ed_op (ed_var h0) ed_int r_eqI)) e
end
theorem seq_forR {ta : TA} {g : TG} {tb u : TS} {D : Ends} {σ : L2.St} {H : Hp} (h : ta σ H fun vs H1 => ∃ j : Int, vs = [.int j] ∧ -(2 ^ 62) ≤ j ∧ j < 2 ^ 62 ∧ tFor (fun _ _ R => R (Itr 0 j.toNat) H1) g tb { D with nx := u D } σ H1) : tSeq (tFor (iRng1 ta) g tb) u D σ H := h
def spKept : Sp := fun vs H Q _ => vs = [] ∧ ∀ H', Q (.bl true) H'
abbrev bad7 : PyData := .list [.int 7]
section
variable {P : Program} {w : World} {K : Fg} {mg : Str → Option Value} {base : Heap} {A : Ad4} {DE : Addr}
abbrev s__law_fields_kept : Stmt := topS 106
theorem f__law_fields_kept (T : BR mg) (sm : ∃ mm, base.Ns sysModules mm) (Z : Ce K mg A DE) (a : At K mg "_law_fields_kept" s__law_fields_kept)
    (c_pressed_by : Fx P w K mg base "pressed_by" ["house", "walks"] 11 (SpX K (RF F_pressed_by) (XFy (clA A) F_pressed_by))) (c_debts : Fx P w K mg base "debts" ["house", "walks"] 11 (SpX K (RF F_debts) (XFy (clA A) F_debts))) (c_steps_between : Fx P w K mg base "steps_between" ["house", "place", "goal"] 11 (SpX K (RF F_steps_between) (XFy (clA A) F_steps_between))) (c_open_steps : Fx P w K mg base "open_steps" ["house", "walks", "number"] 11 (SpX K (RF F_open_steps) (XFy (clA A) F_open_steps))) (c_far_steps : Fx P w K mg base "far_steps" ["house", "stays"] 11 (SpX K (RF F_far_steps) (XFy (clA A) F_far_steps))) (c_put_off : Fx P w K mg base "put_off" ["walks", "ticks"] 4 (SpX K (RF F_put_off) (XFy (clA A) F_put_off))) : Fc P w K mg base "_law_fields_kept" [] 12 spKept := by
  have S : FnScope ["_law_back", "_law_way", "_law_bad", "_law_error", "e"] [] (defScope s__law_fields_kept) := ⟨rfl, rfl, rfl, by decide +kernel, rfl, by decide +kernel, by decide +kernel⟩
  obtain ⟨f, fd, F, hm⟩ := a
  refine ⟨f, fd, hm, F.kp, F.binds (fun _ _ _ _ _ _ us hl => match us, hl with | [], _ => rfl), fnG F S (by rintro vs H Q E ⟨rfl, _⟩; rfl) ?_⟩
  rintro cdv A' outer s H vs Q E gu hr ⟨rfl, hq⟩
  have hc : (cxOf CX0 P w K mg base ["_law_back", "_law_way", "_law_bad", "_law_error", "e"] "_law_fields_kept" (defScope s__law_fields_kept) f cdv A' outer s H E).nox.calm = true := rfl
  have hu64 : (cxOf CX0 P w K mg base ["_law_back", "_law_way", "_law_bad", "_law_error", "e"] "_law_fields_kept" (defScope s__law_fields_kept) f cdv A' outer s H E).nox.A.units + 64 < cLine := hr.units
  have hps : ∃ t, PSs (cxOf CX0 P w K mg base ["_law_back", "_law_way", "_law_bad", "_law_error", "e"] "_law_fields_kept" (defScope s__law_fields_kept) f cdv A' outer s H E).nox (defBody s__law_fields_kept) t ∧ t { nx := fun _ H' => Q .non H', rt := Q } (L2.start ["_law_back", "_law_way", "_law_bad", "_law_error", "e"] []) H := by
    refine ⟨_, (pss_cons (ps_set (i := 0) S.nd rfl (by first | exact Or.inl rfl | exact Or.inr rfl) (pe_tup (pa_cons (pe_tup (pa_cons pe_int (pa_cons (pe_lst (pa_cons (pe_tup (pa_cons (pe_lst (pa_cons pe_int pa_nil)) (pa_cons pe_int (pa_cons (pe_un un_neg pe_int) pa_nil)))) pa_nil)) pa_nil))) (pa_cons (pe_lst (pa_cons (pe_lst pa_nil) (pa_cons (pe_lst (pa_cons pe_int pa_nil)) pa_nil))) (pa_cons (pe_lst (pa_cons (pe_tup (pa_cons pe_int (pa_cons pe_int (pa_cons (pe_lst (pa_cons pe_int pa_nil)) pa_nil)))) (pa_cons (pe_tup (pa_cons pe_int (pa_cons pe_int (pa_cons (pe_lst pa_nil) pa_nil)))) pa_nil))) pa_nil)))))
  (pss_cons (ps_for PassesOwn.never hc (pi_range1 (by rfl) T.range (pa_cons pe_int pa_nil)) (pg_name (i := 1) S.nd rfl (by first | exact Or.inl rfl | exact Or.inr rfl))
    (pss_cons (ps_par (i := 2) (j := 3) hc S.nd rfl rfl (by decide) rfl rfl (pa_cons (pe_lst (pa_cons pe_int pa_nil)) (pa_cons pe_non pa_nil)) (by rfl))
  (pss_cons (ps_keep (i := 4) (tb := _) rfl rfl rfl S.nd rfl rfl ⟨rfl, by decide, Or.inl Z.sD.gC⟩ (fun W pn xe tk _ => (pss_one (ps_if (pt_cmpR op_eq (pv 1) pe_int (nomark _)) (pss_one (ps_expr (pe_fx c_pressed_by gu (hr.mono (by decide)) (by rfl) (fun σ => passAt tk σ) (pa_cons (pv 2) (pa_cons pe_non pa_nil))))) (pss_one (ps_if (pt_cmpR op_eq (pv 1) pe_int (nomark _)) (pss_one (ps_expr (pe_fx c_debts gu (hr.mono (by decide)) (by rfl) (fun σ => passAt tk σ) (pa_cons (pv 0) (pa_cons (pv 2) pa_nil))))) (pss_one (ps_if (pt_cmpR op_eq (pv 1) pe_int (nomark _)) (pss_one (ps_expr (pe_fx c_steps_between gu (hr.mono (by decide)) (by rfl) (fun σ => passAt tk σ) (pa_cons (pv 0) (pa_cons (pv 2) (pa_cons pe_non pa_nil)))))) (pss_one (ps_if (pt_cmpR op_eq (pv 1) pe_int (nomark _)) (pss_one (ps_expr (pe_fx c_open_steps gu (hr.mono (by decide)) (by rfl) (fun σ => passAt tk σ) (pa_cons (pv 0) (pa_cons (pe_lst (pa_cons (pe_lst (pa_cons pe_int pa_nil)) pa_nil)) (pa_cons (pv 2) pa_nil)))))) (pss_one (ps_if (pt_cmpR op_eq (pv 1) pe_int (nomark _)) (pss_one (ps_expr (pe_fx c_far_steps gu (hr.mono (by decide)) (by rfl) (fun σ => passAt tk σ) (pa_cons (pv 0) (pa_cons (pv 2) pa_nil))))) (pss_one (ps_expr (pe_fx c_put_off gu (hr.mono (by decide)) (by rfl) (fun σ => passAt tk σ) (pa_cons (pe_lst (pa_cons (pe_lst (pa_cons pe_int pa_nil)) pa_nil)) (pa_cons (pv 2) pa_nil)))))))))))))))) (fun a oe cls d pn hz hf => (pss_one (ps_set (i := 3) S.nd rfl (by first | exact Or.inl rfl | exact Or.inr rfl) (pv 4)))))
  (pss_cons (ps_expr (pe_bm PySem.F.plainAttrs_list PySem.F.slot_list_append PySem.F.type_list_append mt_append (pv 2) (pa_cons pe_str pa_nil)))
  (pss_one (ps_if (PW.pt (pw_or (pt_cmpR op_isN (pv 3) pe_non (nomark _)) (pw_or1 (pt_cmpR (op_neA sm hu64) (pe_valueK (pv 3)) (pe_lst (pa_cons pe_int (pa_cons pe_str pa_nil))) (nomark _))))) (pss_one (ps_ret pe_bl)) pss_nil))))))
  (pss_one (ps_ret pe_bl)))), ?_⟩
    have sd0 : SD K B0 (L2.start ["_law_back", "_law_way", "_law_bad", "_law_error", "e"] []) [none, none, none, none, none] := sd_start (N := ["_law_back", "_law_way", "_law_bad", "_law_error", "e"]) .nil
    generalize L2.start ["_law_back", "_law_way", "_law_bad", "_law_error", "e"] [] = σ at *
    have exB := ex_B0 (H := H)
    generalize B0 = B at *
    -- the house
    refine q_asg ((show ED K _ [none, none, none, none, none] backD from (ed_tup (ea_cons (ed_tup (ea_cons ed_int (ea_cons (ed_lst (ea_cons (ed_tup (ea_cons (ed_lst (ea_cons ed_int ea_nil) (Nat.le_of_ble_eq_true rfl)) (ea_cons ed_int (ea_cons ed_neg1 ea_nil))) (Nat.le_of_ble_eq_true rfl)) ea_nil) (Nat.le_of_ble_eq_true rfl)) ea_nil)) (Nat.le_of_ble_eq_true rfl)) (ea_cons (ed_lst (ea_cons (ed_lst ea_nil (Nat.le_of_ble_eq_true rfl)) (ea_cons (ed_lst (ea_cons ed_int ea_nil) (Nat.le_of_ble_eq_true rfl)) ea_nil)) (Nat.le_of_ble_eq_true rfl)) (ea_cons (ed_lst (ea_cons (ed_tup (ea_cons ed_int (ea_cons ed_int (ea_cons (ed_lst (ea_cons ed_int ea_nil) (Nat.le_of_ble_eq_true rfl)) ea_nil))) (Nat.le_of_ble_eq_true rfl)) (ea_cons (ed_tup (ea_cons ed_int (ea_cons ed_int (ea_cons (ed_lst ea_nil (Nat.le_of_ble_eq_true rfl)) ea_nil))) (Nat.le_of_ble_eq_true rfl)) ea_nil)) (Nat.le_of_ble_eq_true rfl)) ea_nil))) (Nat.le_of_ble_eq_true rfl))) σ B H exB sd0 _ fun v0 B1 H1 l1 d0 => ?_)
    have sd1 := (sd0.up l1.ek).put 0 d0
    have s1 := l1.sub
    generalize σ.set 0 (some v0) = σ1 at *
    -- the turns
    refine seq_forR ?_
    refine ea_cons (K := K) (x := .int 6) ed_int ea_nil σ1 B1 H1 s1 sd1 _ fun vs B2 H2 l2 d2 => ?_
    obtain ⟨v, r, rfl, dv, dz⟩ := d2.inv1
    cases dv
    cases dz
    refine ⟨6, rfl, by decide, by decide, ?_⟩
    refine for_range (lo := 0) (n := 6) (fun _ σ' H' => Ex B2 H' ∧ SD K B2 σ' [some backD, none, none, none, none]) ⟨l2.sub, sd1.up l2.ek⟩ ?_ ?_
    · rintro k σ' H' hk ⟨sx, sd⟩
      have sdk : SD K B2 (σ'.set 1 (some (.int (0 + (k : Int))))) [some backD, some (.int (0 + (k : Int))), none, none, none] := sd.put 1 (.int _)
      show tSeq _ _ _ (σ'.set 1 (some (.int (0 + (k : Int))))) H'
      generalize σ'.set 1 (some (.int (0 + (k : Int)))) = σ2 at *
      -- bad, error
      refine q_par ⟨by show 1 ≤ sizeLine; decide, fun p0 hp0 => ⟨.ref p0, .non, rfl, ?_⟩⟩
      have bp : B2 p0 = none := Evl.fresh_back sx hp0
      have lb : Le B2 H' (upd B2 p0 (.lst [.int 7])) (upd H' p0 (.lst [.int 7])) := Le.new sx hp0
      have b1 : upd B2 p0 (.lst [.int 7]) p0 = some (.lst [.int 7]) := upd_same
      have sd3 : SD K (upd B2 p0 (.lst [.int 7])) ((σ2.set 2 (some (.ref p0))).set 3 (some .non)) [some backD, some (.int (0 + (k : Int))), some bad7, some .none, none] := ((sdk.up lb.ek).put 2 (.lst b1 (.cons (.int 7) .nil))).put 3 .non
      have sd4 : SD K B2 ((σ2.set 2 (some (.ref p0))).set 3 (some .non)) [some backD, none, none, none, none] := (((sdk.drop 2 _).drop 3 _).less rfl fun i d h => by
        match i, h with
        | 0, h => exact h
        | i + 5, h => cases h)
      have g3 : ((σ2.set 2 (some (.ref p0))).set 3 (some .non))[2]? = some (some (.ref p0)) := by
        rw [List.getElem?_set_ne (by decide), List.getElem?_set_self (by rw [sdk.1]; exact Nat.le_of_ble_eq_true rfl)]
      have hlen : ((σ2.set 2 (some (.ref p0))).set 3 (some .non)).length = 5 := sd4.1
      generalize (σ2.set 2 (some (.ref p0))).set 3 (some .non) = σ3 at *
      have hH : upd H' p0 (.lst [.int 7]) p0 = some (.lst [.int 7]) := upd_same
      have keep : ∀ Hx, Ex (upd H' p0 (.lst [.int 7])) Hx → Ex B2 Hx := fun Hx ex b o e => ex b o (by rw [upd_ne (ne_of_none e bp)]; exact sx b o e)
      have s3 := lb.sub
      generalize upd H' p0 (.lst [.int 7]) = H3 at *
      generalize upd B2 p0 (.lst [.int 7]) = B3 at *
      -- what comes behind
      have after : ∀ (C : Addr) (i : Nat), (l4 A)[i]? = some C → ∀ (D : Ends) (rest : TS), (∀ (ax : Addr) (σ4 : L2.St) (H4 : Hp), σ4[2]? = some (some (.ref p0)) → σ4[3]? = some (some (.ref ax)) → SD K B2 σ4 [some backD, none, none, none, none] → H4 p0 = some (.lst [.int 7]) → Cau H4 ax C (.ref p0) → ax ≠ p0 → Ex B2 H4 → rest D σ4 H4) →
          ∀ x B' H4, Le B3 H3 B' H4 → H4 x = some (xdV (.ref p0)) → wKeep K (.ref DE) 4 (tAsg (tVar 4) (gName 3)) { D with nx := rest D } (.ref C) (some x) σ3 H4 := by
        intro C i hC D rest hr x B' H4 l4 hx
        have kn := Z.knd hC
        refine ⟨C, x, rfl, rfl, kn.ex, fun ax hax => ?_⟩
        refine ⟨.ref ax, by rw [List.getElem?_set_self (by rw [hlen]; decide)], ?_⟩
        have h0 := l4.ex _ _ hH
        have nx : x ≠ ax := fun z => by
          rw [z, hax] at hx
          cases hx
        have np : p0 ≠ ax := fun z => by
          rw [z, hax] at h0
          cases h0
        try dsimp only [gName]
        refine hr ax _ _ ?_ ?_ ?_ ?_ ⟨x, upd_same, by rw [upd_ne nx]; exact hx⟩ (Ne.symm np) ?_
        · rw [List.getElem?_set_ne (by decide), List.getElem?_set_ne (by decide), List.getElem?_set_ne (by decide)]
          exact g3
        · rw [List.getElem?_set_ne (by decide), List.getElem?_set_self (by rw [List.length_set, hlen]; decide)]
        · exact ((sd4.drop 4 _).drop 3 _).drop 4 _
        · rw [upd_ne np]
          exact h0
        · exact (keep _ l4.ex).trans (Ex.new hax)
      refine q_any ?_
      obtain ⟨C, i, hC, hw⟩ : ∃ (C : Addr) (i : Nat), (l4 A)[i]? = some C ∧ ∀ W, XW K W (tIfS (tTest (tOp rEq (tVar 1) (tC (.int 0)))) (tDrop (tCallS (SpX K (RF F_pressed_by) (XFy (clA A) F_pressed_by)) (WE W) (tCons (tVar 2) (tCons (tC .non) tNil))))
          (tIfS (tTest (tOp rEq (tVar 1) (tC (.int 1)))) (tDrop (tCallS (SpX K (RF F_debts) (XFy (clA A) F_debts)) (WE W) (tCons (tVar 0) (tCons (tVar 2) tNil))))
          (tIfS (tTest (tOp rEq (tVar 1) (tC (.int 2)))) (tDrop (tCallS (SpX K (RF F_steps_between) (XFy (clA A) F_steps_between)) (WE W) (tCons (tVar 0) (tCons (tVar 2) (tCons (tC .non) tNil)))))
          (tIfS (tTest (tOp rEq (tVar 1) (tC (.int 3)))) (tDrop (tCallS (SpX K (RF F_open_steps) (XFy (clA A) F_open_steps)) (WE W) (tCons (tVar 0) (tCons (tLst (tCons (tLst (tCons (tC (.int 0)) tNil)) tNil)) (tCons (tVar 2) tNil)))))
          (tIfS (tTest (tOp rEq (tVar 1) (tC (.int 4)))) (tDrop (tCallS (SpX K (RF F_far_steps) (XFy (clA A) F_far_steps)) (WE W) (tCons (tVar 0) (tCons (tVar 2) tNil))))
          (tDrop (tCallS (SpX K (RF F_put_off) (XFy (clA A) F_put_off)) (WE W) (tCons (tLst (tCons (tLst (tCons (tC (.int 0)) tNil)) tNil)) (tCons (tVar 2) tNil))))))))) [some backD, some (.int (0 + (k : Int))), some bad7, some .none, none] C 2 := by
        match k, hk with
        | 0, _ => exact ⟨A.House, 0, rfl, fun W => (xw_if1 (way_eq rfl rfl) (xw_call (j := 0) (ds := [bad7, .none]) (eai_here (i := 2) rfl (ea_cons ed_non ea_nil)) ⟨0, isX_eq (by decide +kernel), rfl⟩))⟩
        | 1, _ => exact ⟨A.Walks, 3, rfl, fun W => (xw_if0 (way_eq rfl rfl) (xw_if1 (way_eq rfl rfl) (xw_call (j := 1) (ds := [backD, bad7]) (eai_next (ed_var (i := 0) rfl) (eai_here (i := 2) rfl ea_nil)) ⟨3, isX_eq (by decide +kernel), rfl⟩)))⟩
        | 2, _ => exact ⟨A.Number, 1, rfl, fun W => (xw_if0 (way_eq rfl rfl) (xw_if0 (way_eq rfl rfl) (xw_if1 (way_eq rfl rfl) (xw_call (j := 1) (ds := [backD, bad7, .none]) (eai_next (ed_var (i := 0) rfl) (eai_here (i := 2) rfl (ea_cons ed_non ea_nil))) ⟨1, isX_eq (by decide +kernel), rfl⟩))))⟩
        | 3, _ => exact ⟨A.Number, 1, rfl, fun W => (xw_if0 (way_eq rfl rfl) (xw_if0 (way_eq rfl rfl) (xw_if0 (way_eq rfl rfl) (xw_if1 (way_eq rfl rfl) (xw_call (j := 2) (ds := [backD, .list [.list [.int 0]], bad7]) (eai_next (ed_var (i := 0) rfl) (eai_next (ed_lst (ea_cons (ed_lst (ea_cons ed_int ea_nil) (Nat.le_of_ble_eq_true rfl)) ea_nil) (Nat.le_of_ble_eq_true rfl)) (eai_here (i := 2) rfl ea_nil))) ⟨1, isX_eq (by decide +kernel), rfl⟩)))))⟩
        | 4, _ => exact ⟨A.Walk, 2, rfl, fun W => (xw_if0 (way_eq rfl rfl) (xw_if0 (way_eq rfl rfl) (xw_if0 (way_eq rfl rfl) (xw_if0 (way_eq rfl rfl) (xw_if1 (way_eq rfl rfl) (xw_call (j := 1) (ds := [backD, bad7]) (eai_next (ed_var (i := 0) rfl) (eai_here (i := 2) rfl ea_nil)) ⟨2, isX_eq (by decide +kernel), rfl⟩))))))⟩
        | 5, _ => exact ⟨A.Number, 1, rfl, fun W => (xw_if0 (way_eq rfl rfl) (xw_if0 (way_eq rfl rfl) (xw_if0 (way_eq rfl rfl) (xw_if0 (way_eq rfl rfl) (xw_if0 (way_eq rfl rfl) (xw_call (j := 1) (ds := [.list [.list [.int 0]], bad7]) (eai_next (ed_lst (ea_cons (ed_lst (ea_cons ed_int ea_nil) (Nat.le_of_ble_eq_true rfl)) ea_nil) (Nat.le_of_ble_eq_true rfl)) (eai_here (i := 2) rfl ea_nil)) ⟨1, isX_eq (by decide +kernel), rfl⟩))))))⟩
      have kn := Z.knd hC
      refine hw _ σ3 B3 H3 _ s3 sd3 (.ref p0) g3 (after C i hC _ _ fun ax σ4 H4 e3 e4 sd5 h4 c4 nax ex4 => ?_)
      -- the append
      refine q_drop ⟨.ref p0, e3, .inl ⟨rfl, _, SqL.of h4⟩, p0, [.int 7], .str "b", rfl, rfl, h4, Evl.sz_lt (by decide), ?_⟩
      have h5 : upd H4 p0 (.lst [.int 7, .str "b"]) p0 = some (.lst [.int 7, .str "b"]) := upd_same
      have c5 : Cau (upd H4 p0 (.lst [.int 7, .str "b"])) ax C (.ref p0) := by
        obtain ⟨x', c1, c2⟩ := c4
        have n2 : x' ≠ p0 := fun z => by
          rw [z, h4] at c2
          cases c2
        exact ⟨x', by rw [upd_ne nax]; exact c1, by rw [upd_ne n2]; exact c2⟩
      have ex5 : Ex B2 (upd H4 p0 (.lst [.int 7, .str "b"])) := fun b o e => by
        rw [upd_ne (ne_of_none e bp)]
        exact ex4 b o e
      show tIfS _ _ _ _ σ4 (upd H4 p0 (.lst [.int 7, .str "b"]))
      generalize upd H4 p0 (.lst [.int 7, .str "b"]) = H5 at *
      refine q_ifS ?_
      refine ⟨.ref ax, e4, rfl, false, rfl, ?_⟩
      dsimp only
      rw [if_neg Bool.false_ne_true]
      refine ⟨.ref ax, e4, ax, C, .ref p0, rfl, c5, kn.T, kn.no, ?_⟩
      refine ⟨by show 2 ≤ sizeLine; decide, fun pl hpl => ?_⟩
      have k5 : Ex H5 (upd H5 pl (.lst [.int 7, .str "b"])) := Ex.new hpl
      refine ⟨.list [.int 7, .str "b"], .list [.int 7, .str "b"], .lst (k5 _ _ h5) (.cons (.int 7) (.cons (.str "b") .nil)), .lst upd_same (.cons (.int 7) (.cons (.str "b") .nil)), by decide +kernel, by decide +kernel, ?_⟩
      refine ⟨false, by decide +kernel, ?_⟩
      try dsimp only
      try rw [if_neg Bool.false_ne_true]
      exact ⟨ex5.trans k5, sd5⟩
    · rintro σ' H' ⟨sx, sd⟩
      exact hq H'
  obtain ⟨t, h1, h2⟩ := hps
  exact ⟨t, h1.nox, h2⟩
end
end TD

set_option maxHeartbeats 8000000
namespace TD
open PySem PySem.Spec PyProof.Rows L2
open Evl (Ex)
open LamX (CodeO Tabs TabS TabB ExtN)
theorem tabs_leG {T : List (Addr × Str)} {H H' : Hp} {g : Addr} {n : Nat} (t : Tabs T H) (ga : GenAt g n H) (e : ∀ a o, a ≠ g → H a = some o → H' a = some o) : Tabs T H' := fun r hr => by
  obtain ⟨a, b, c, hg, _⟩ := ga
  obtain ⟨ps, h1, h2, h3⟩ := t r hr
  refine ⟨ps, e _ _ (fun z => by rw [z, hg] at h1; cases h1) h1, h2, fun pos cv hc => ?_⟩
  obtain ⟨c, e1, e2⟩ := h3 pos cv hc
  exact ⟨c, e1, e _ _ (fun z => by rw [z, hg] at e2; unfold CodeO at e2; cases e2) e2⟩
def spLawT (K : Fg) (cs : List (Addr × Addr)) : Sp := fun vs H Q _ => ∃ (s : Addr) (ns : List Int), vs = [.ref s] ∧ SqL K H s (ns.map V.int) ∧ (∀ p ∈ cs, H p.2 = some (.tbl #[])) ∧ ∀ H', Q (.bl true) H'
section
variable {P : Program} {w : World} {K : Fg} {mg : Str → Option Value} {base : Heap} {A : Ad4} {DE : Addr} {Ts : List (Addr × Str)} {cs : List (Addr × Addr)}
abbrev s_law : Stmt := topS 107
theorem f_law (hTs : ∀ r ∈ Ts, ∃ p ∈ cs, p.2 = r.1) (c__law_generator : Fc P w K mg base "_law_generator" ["_law_script", "_law_index"] 2 (spGen K)) (c__law_random : Fc P w K mg base "_law_random" ["_law_generator_here", "_law_bound"] 2 (SpG K 5 preRnd R_rnd))
    (c__law_houses_refused : Fc P w K mg base "_law_houses_refused" [] 15 (spTab0 K Ts)) (c__law_walks_refused : Fc P w K mg base "_law_walks_refused" ["_law_far"] 15 (spTab K Ts)) (c__law_numbers_refused : Fc P w K mg base "_law_numbers_refused" ["_law_far"] 15 (spTab K Ts))
    (c__law_fields_kept : Fc P w K mg base "_law_fields_kept" [] 12 spKept) {f : Addr} {fd : FuncData} (F : Fun K "law" "law" s_law f fd) : FnG P w K mg base CX0 16 f fd ["_law_script"] (spLawT K cs) := by
  have S : FnScope ["_law_script", "_law_far"] ["_law_script"] (defScope s_law) := ⟨rfl, rfl, rfl, by decide +kernel, rfl, by decide +kernel, by decide +kernel⟩
  refine fnG F S ?_ ?_
  · rintro vs H Q E ⟨sc, ns, rfl, _⟩
    rfl
  rintro cdv Ar outer s H vs Q E gu hr ⟨sc, ns, rfl, hS, hT, hq⟩
  have hc : (cxOf CX0 P w K mg base ["_law_script", "_law_far"] "law" (defScope s_law) f cdv Ar outer s H E).nox.calm = true := rfl
  suffices h : ∃ t, PSs (cxOf CX0 P w K mg base ["_law_script", "_law_far"] "law" (defScope s_law) f cdv Ar outer s H E).nox (defBody s_law) t ∧ t { nx := fun _ H' => Q .non H', rt := Q } (L2.start ["_law_script", "_law_far"] [.ref sc]) H by
    obtain ⟨t, h1, h2⟩ := h
    exact ⟨t, h1.nox, h2⟩
  refine ⟨_, (pss_cons (ps_set (i := 1) S.nd rfl (by first | exact Or.inl rfl | exact Or.inr rfl) (pe_f c__law_random gu (hr.mono (by decide)) (by rfl) (pa_cons (pe_f c__law_generator gu (hr.mono (by decide)) (by rfl) (pa_cons (pv 0) (pa_cons pe_int pa_nil))) (pa_cons (pe_op op_pow pe_int pe_int) pa_nil))))
  (pss_cons (ps_if (PW.pt (pw_or (pt_not (pt_val (pe_f0 c__law_houses_refused gu (hr.mono (by decide)) (by rfl)))) (pw_or (pt_not (pt_val (pe_f c__law_walks_refused gu (hr.mono (by decide)) (by rfl) (pa_cons (pv 1) pa_nil)))) (pw_or1 (pt_not (pt_val (pe_f c__law_numbers_refused gu (hr.mono (by decide)) (by rfl) (pa_cons (pv 1) pa_nil)))))))) (pss_one (ps_ret pe_bl)) pss_nil)
  (pss_one (ps_ret (pe_f0 c__law_fields_kept gu (hr.mono (by decide)) (by rfl)))))), ?_⟩
  have tb : Tabs Ts H := fun r hr => by
    obtain ⟨p, hp, e⟩ := hTs r hr
    exact .nil (e ▸ hT p hp)
  -- the far number
  refine ⟨.ref sc, rfl, sc, ns, 0, rfl, hS, by decide, by decide, fun g H1 gn ex1 ga => ?_⟩
  refine ⟨10, 29, rfl, rfl, ⟨by decide, by decide, by decide⟩, ?_⟩
  have tb1 := tb.ext ex1
  refine ⟨g, [.int (10 ^ (29 : Int).toNat)], fun _ => none, [.int (10 ^ (29 : Int).toNat)], 100, rfl, (fun _ _ z => nomatch z), rfl, ga.less (by decide), .cons (.int _) .nil, ⟨_, rfl, by decide, by decide⟩, fun v d B2 H2 l2 ga2 hd r => ?_⟩
  obtain ⟨m, n, em, rfl, hn0, hn1⟩ := r
  have em' : m = 10 ^ (29 : Int).toNat := by
    injection em with em _
    injection em with em
    exact em.symm
  subst em'
  cases hd
  have hn : 0 ≤ n ∧ n < 10 ^ 29 := ⟨hn0, hn1⟩
  have tb2 : Tabs Ts H2 := tabs_leG tb1 ga l2.ex
  clear l2 ga2 hn0 hn1
  -- the three parts
  refine ⟨rfl, tb2, fun H3 tb3 => ⟨true, rfl, ?_⟩⟩
  dsimp only
  rw [if_neg (by decide)]
  refine ⟨.int n, rfl, n, rfl, hn, tb3, fun H4 tb4 => ⟨true, rfl, ?_⟩⟩
  dsimp only
  rw [if_neg (by decide)]
  refine ⟨.int n, rfl, n, rfl, hn, tb4, fun H5 tb5 => ⟨true, rfl, ?_⟩⟩
  dsimp only
  rw [if_neg (by decide)]
  exact ⟨rfl, fun H' => hq H'⟩
end
end TD

set_option maxHeartbeats 4000000
namespace TD
open PySem PySem.Spec PyProof.Rows L2
open Evl (Ex)
open LamX (TabB)
theorem std_mk {K : Fg} {h : Heap} {mg : Str → Option Value} {x : Str} {C : Addr} {r : List Value} (X : K.In h) (G : h.Ns mainGlobals mg) {nm q : Str} {N : Addr} {bs : List Value} {sn : List Str} {sub : List Value} {ab : Bool} {col : Option Bool} {dd : Option Addr} {k0 k1 k2 k3 k5 : Option Value}
    (a1 : PySem.W.nsIn K mainGlobals x = some (some (.ref C)))
    (a2 : K.lookup C = some (excClassObj nm q C N bs (bmV r) true sn sub ab col dd k0 k1 k2 k3 k5 "ValueError.__new__"))
    (a3 : PySem.W.keepIn K (.ref C) = true) (a4 : PySem.W.typeIn K (.ref C) = some (.type "type"))
    (a5 : PySem.W.findIn K (.ref C) "__getattribute__" = some (some (.builtin "BaseException.__getattribute__")))
    (a6 : PySem.W.findIn K (.ref C) "__getattr__" = some none)
    (a7 : PySem.W.findIn K (.ref C) "__class__" = some (some (.builtin "object.__class__")))
    (a8 : PySem.W.specialIn K (.builtin "object.__class__") "__get__" = some (some (.builtin "getset_descriptor.__get__")))
    (a9 : PySem.W.takesIn K (.builtin "object.__class__") = some true) : Std K mg x C r :=
  ⟨PySem.W.mg_of X G a1, a3, a4, ⟨nm, q, N, bs, sn, sub, ab, col, dd, k0, k1, k2, k3, k5, a2⟩, a5, a6, a7, a8, a9⟩
theorem at_mk {K : Fg} {h : Heap} {mg : Str → Option Value} {x : Str} {st : Stmt} {f : Addr} {oc : Value} {od an : Option Addr} {osl : Array (Option Value)} {kV doc pm cdv ct : Value} (X : K.In h) (G : h.Ns mainGlobals mg) (a : PySem.W.nsIn K mainGlobals x = some (some (.ref f)))
    (l : K.lookup f = some ⟨oc, od, .func (PySem.W.fnOf x x (defArgs st) (defBody st) (defScope st) .none kV doc pm an cdv ct), osl⟩) (c : PySem.W.codeIn K cdv x = true) (k : PySem.W.keepIn K (.ref f) = true) : At K mg x st :=
  ⟨f, _, fun_mk l c k, PySem.W.mg_of X G a⟩
theorem Mke.noV {P : Program} {w : World} {K : Fg} {mg : Str → Option Value} {base : Heap} {x : Str} {C : Addr} (m : Mke P w K mg base x C) : PySem.W.findIn K (.ref C) "value" = some none := by
  obtain ⟨_, _, _, T, _⟩ := m
  exact T.no
theorem ts_u {P1 P2 P3 : Addr} {q1 q2 q3 : Str} (h12 : P1 ≠ P2) (h13 : P1 ≠ P3) (h23 : P2 ≠ P3) : (∀ p ∈ [(P1, q1), (P2, q2), (P3, q3)], p.1 = P1 → p.2 = q1) ∧ (∀ p ∈ [(P1, q1), (P2, q2), (P3, q3)], p.1 = P2 → p.2 = q2) ∧ ∀ p ∈ [(P1, q1), (P2, q2), (P3, q3)], p.1 = P3 → p.2 = q3 := by
  refine ⟨?_, ?_, ?_⟩ <;> intro p hp e <;> simp only [List.mem_cons, List.not_mem_nil, or_false] at hp <;> rcases hp with rfl | rfl | rfl <;> first | rfl | exact absurd e h12 | exact absurd e h13 | exact absurd e h23 | exact absurd e (Ne.symm h12) | exact absurd e (Ne.symm h13) | exact absurd e (Ne.symm h23)
theorem fr3 {α : Type} {a b c : α} {p : α → Prop} (h1 : p a) (h2 : p b) (h3 : p c) : ∀ x ∈ [a, b, c], p x := List.forall_mem_cons.mpr ⟨h1, List.forall_mem_cons.mpr ⟨h2, List.forall_mem_cons.mpr ⟨h3, fun _ h => nomatch h⟩⟩⟩
def ad4 : Ad4 := ⟨65, 45, 85, 105⟩
theorem all_mk {P q : Program} {w : World} {K : Fg} {h : Heap} {mg : Str → Option Value} {fa : Addr} {t0 : Tok} {c1 c2 c3 P1 P2 P3 : Addr} (X : K.In h) (G : h.Ns mainGlobals mg) (hfa : mg "law" = some (.ref fa)) (tell : TabTell q K h)
    (s_DoorError : Std K mg "DoorError" 24 [])
    (s_InvalidHouse : Std K mg "InvalidHouse" 65 [.ref 24])
    (s_InvalidNumber : Std K mg "InvalidNumber" 45 [.ref 24])
    (s_InvalidWalk : Std K mg "InvalidWalk" 85 [.ref 24])
    (s_InvalidWalks : Std K mg "InvalidWalks" 105 [.ref 24])
    (m_InvalidHouse : ∀ base : Heap, Std K mg "InvalidHouse" 65 [.ref 24] → Mke P w K mg base "InvalidHouse" 65)
    (m_InvalidNumber : ∀ base : Heap, Std K mg "InvalidNumber" 45 [.ref 24] → Mke P w K mg base "InvalidNumber" 45)
    (m_InvalidWalk : ∀ base : Heap, Std K mg "InvalidWalk" 85 [.ref 24] → Mke P w K mg base "InvalidWalk" 85)
    (m_InvalidWalks : ∀ base : Heap, Std K mg "InvalidWalks" 105 [.ref 24] → Mke P w K mg base "InvalidWalks" 105)
    (a_is_whole : At K mg "is_whole" s_is_whole)
    (a_is_count : At K mg "is_count" s_is_count)
    (a_is_tuple_of : At K mg "is_tuple_of" s_is_tuple_of)
    (a_fits_room : At K mg "fits_room" s_fits_room)
    (a_fits_lights : At K mg "fits_lights" s_fits_lights)
    (a_fits_presses : At K mg "fits_presses" s_fits_presses)
    (a_fits_door_within : At K mg "fits_door_within" s_fits_door_within)
    (a_fits_door : At K mg "fits_door" s_fits_door)
    (a_fits_level_with : At K mg "fits_level_with" s_fits_level_with)
    (a_fits_level : At K mg "fits_level" s_fits_level)
    (a__law_hash : At K mg "_law_hash" s__law_hash)
    (a__law_random : At K mg "_law_random" s__law_random)
    (a__law_cell : At K mg "_law_cell" s__law_cell)
    (a__law_generator : At K mg "_law_generator" s__law_generator)
    (a_fits_place : At K mg "fits_place" s_fits_place)
    (a_fits_step : At K mg "fits_step" s_fits_step)
    (a_fits_house : At K mg "fits_house" s_fits_house)
    (a_leads_of : At K mg "leads_of" s_leads_of)
    (a_fits_walk : At K mg "fits_walk" s_fits_walk)
    (a_fits_walks : At K mg "fits_walks" s_fits_walks)
    (a_fits_stay : At K mg "fits_stay" s_fits_stay)
    (a_fits_stays : At K mg "fits_stays" s_fits_stays)
    (a_fits_counts : At K mg "fits_counts" s_fits_counts)
    (a_check_house : At K mg "check_house" s_check_house)
    (a_check_walks : At K mg "check_walks" s_check_walks)
    (a_check_stand : At K mg "check_stand" s_check_stand)
    (a_check_tick : At K mg "check_tick" s_check_tick)
    (a_check_count : At K mg "check_count" s_check_count)
    (a_is_house : At K mg "is_house" s_is_house)
    (a_is_walk : At K mg "is_walk" s_is_walk)
    (a_pressed_by : At K mg "pressed_by" s_pressed_by)
    (a_hands_light : At K mg "hands_light" s_hands_light)
    (a_first_shut : At K mg "first_shut" s_first_shut)
    (a_greatest_playable : At K mg "greatest_playable" s_greatest_playable)
    (a_why_unplayable : At K mg "why_unplayable" s_why_unplayable)
    (a_debts : At K mg "debts" s_debts)
    (a_are_stays : At K mg "are_stays" s_are_stays)
    (a_far_steps : At K mg "far_steps" s_far_steps)
    (a_earned : At K mg "earned" s_earned)
    (a_steps_between : At K mg "steps_between" s_steps_between)
    (a_open_steps : At K mg "open_steps" s_open_steps)
    (a_opened_by : At K mg "opened_by" s_opened_by)
    (a_put_off : At K mg "put_off" s_put_off)
    (a__law_call : At K mg "_law_call" s__law_call)
    (a__law_houses_refused : At K mg "_law_houses_refused" s__law_houses_refused)
    (a__law_walks_refused : At K mg "_law_walks_refused" s__law_walks_refused)
    (a__law_numbers_refused : At K mg "_law_numbers_refused" s__law_numbers_refused)
    (a__law_fields_kept : At K mg "_law_fields_kept" s__law_fields_kept)
    (a__law_refused : At K mg "_law_refused" s__law_refused)
    (a_law : At K mg "law" s_law)
    (z_NEXT : PySem.W.nsIn K mainGlobals "NEXT" = some (some (.int 1 t0)))
    (z_isinstance : PySem.W.nsIn K mainGlobals "isinstance" = some none)
    (z_int : PySem.W.nsIn K mainGlobals "int" = some none)
    (z_bool : PySem.W.nsIn K mainGlobals "bool" = some none)
    (z_list : PySem.W.nsIn K mainGlobals "list" = some none)
    (z_tuple : PySem.W.nsIn K mainGlobals "tuple" = some none)
    (z_len : PySem.W.nsIn K mainGlobals "len" = some none)
    (z_all : PySem.W.nsIn K mainGlobals "all" = some none)
    (z_max : PySem.W.nsIn K mainGlobals "max" = some none)
    (z_sum : PySem.W.nsIn K mainGlobals "sum" = some none)
    (z_range : PySem.W.nsIn K mainGlobals "range" = some none)
    (z_repr : PySem.W.nsIn K mainGlobals "repr" = some none)
    (z_zip : PySem.W.nsIn K mainGlobals "zip" = some none)
    (z_ValueError : PySem.W.nsIn K mainGlobals "ValueError" = some none)
    (t1_ : PySem.W.tabIn K "_law_houses_refused" = some (c1, P1)) (r1_ : ((recsOf q).any fun e => e.name == ("_law_houses_refused" : Str)) = true) (n1_ : K.lookup P1 = none)
    (t2_ : PySem.W.tabIn K "_law_walks_refused" = some (c2, P2)) (r2_ : ((recsOf q).any fun e => e.name == ("_law_walks_refused" : Str)) = true) (n2_ : K.lookup P2 = none)
    (t3_ : PySem.W.tabIn K "_law_numbers_refused" = some (c3, P3)) (r3_ : ((recsOf q).any fun e => e.name == ("_law_numbers_refused" : Str)) = true) (n3_ : K.lookup P3 = none)
    (d12 : P1 ≠ P2) (d13 : P1 ≠ P3) (d23 : P2 ≠ P3)
    : ∃ (fd : FuncData) (cs : List (Addr × Addr)), (∀ p ∈ cs, h.get? p.2 = some tab0) ∧ (∀ p ∈ cs, K.lookup p.2 = none) ∧ (∀ p ∈ cs, PySem.W.CodeHd h p.1 p.2) ∧ (∀ (s : Shared) (v : Value), BindsTo s fd ⟨[v], []⟩ [("_law_script", v)]) ∧
        (∀ (H : Hp) (a : Addr) (ns : List Int), ns.length ≤ 63 → (∀ p ∈ cs, H p.2 = some (.tbl #[])) → SqL K H a (ns.map V.int) → spLawT K cs [.ref a] H (fun v _ => v = .bl true) fun _ _ _ => False) ∧
        ∀ base : Heap, K.In base → base.Ns mainGlobals mg → (∃ mm, base.Ns sysModules mm) → (∀ p ∈ cs, TabB base mg p.1 p.2) → FnG P w K mg base CX0 18 fa fd ["_law_script"] (spLawT K cs) := by
  have Bl_ : Bl mg := ⟨PySem.W.mg_none_of X G z_isinstance, PySem.W.mg_none_of X G z_int, PySem.W.mg_none_of X G z_bool, PySem.W.mg_none_of X G z_list, PySem.W.mg_none_of X G z_tuple, PySem.W.mg_none_of X G z_len, PySem.W.mg_none_of X G z_all⟩
  have Bg_ : Bg mg := ⟨PySem.W.mg_none_of X G z_int, PySem.W.mg_none_of X G z_len, PySem.W.mg_none_of X G z_max, PySem.W.mg_none_of X G z_sum, PySem.W.mg_none_of X G z_range⟩
  have B7_ : B7 mg := ⟨PySem.W.mg_none_of X G z_repr, PySem.W.mg_none_of X G z_isinstance, PySem.W.mg_none_of X G z_zip, PySem.W.mg_none_of X G z_ValueError⟩
  have BR_ : BR mg := ⟨PySem.W.mg_none_of X G z_range⟩
  have BN_ : BN mg t0 := ⟨PySem.W.mg_of X G z_NEXT⟩
  have Tb_ : Tb mg := ⟨PySem.W.mg_none_of X G z_all, PySem.W.mg_none_of X G z_isinstance, PySem.W.mg_none_of X G z_len, PySem.W.mg_none_of X G z_list, PySem.W.mg_none_of X G z_range, PySem.W.mg_none_of X G z_zip⟩
  obtain ⟨f, fd, F, hm⟩ := a_law
  have e := hfa.symm.trans hm
  cases e
  obtain ⟨u1, u2, u3⟩ := ts_u (q1 := qL "_law_houses_refused") (q2 := qL "_law_walks_refused") (q3 := qL "_law_numbers_refused") d12 d13 d23
  refine ⟨fd, [(c1, P1), (c2, P2), (c3, P3)], fr3 (tell _ _ _ r1_ t1_).2 (tell _ _ _ r2_ t2_).2 (tell _ _ _ r3_ t3_).2, fr3 n1_ n2_ n3_, fr3 (tell _ _ _ r1_ t1_).1 (tell _ _ _ r2_ t2_).1 (tell _ _ _ r3_ t3_).1, ?_, fun H a ns _ hT hS => ⟨a, ns, rfl, hS, hT, fun _ => rfl⟩, fun base kIn hns sm hB => ?_⟩
  · obtain ⟨oc, od, kV, doc, pm, an, cdv, ct, osl, rfl, lk, hcd⟩ := F.ex
    exact fun s v => .of_eq rfl
  · have MB : Ck4 P w K mg base ad4 := ⟨m_InvalidHouse base s_InvalidHouse, m_InvalidNumber base s_InvalidNumber, m_InvalidWalk base s_InvalidWalk, m_InvalidWalks base s_InvalidWalks⟩
    have Z_ : Ce K mg ad4 24 := ⟨s_InvalidHouse, s_InvalidNumber, s_InvalidWalk, s_InvalidWalks, s_DoorError, MB.InvalidHouse.noV, MB.InvalidNumber.noV, MB.InvalidWalk.noV, MB.InvalidWalks.noV, by decide⟩
    have tb1 : TabB base mg c1 P1 := hB (c1, P1) (List.mem_cons_self ..)
    have tb2 : TabB base mg c2 P2 := hB (c2, P2) (List.mem_cons_of_mem _ (List.mem_cons_self ..))
    have tb3 : TabB base mg c3 P3 := hB (c3, P3) (List.mem_cons_of_mem _ (List.mem_cons_of_mem _ (List.mem_cons_self ..)))
    have c_is_whole := f_is_whole (P := P) (w := w) (base := base) (T := Bl_) (a := a_is_whole)
    have c_is_count := f_is_count (P := P) (w := w) (base := base) (c_is_whole := c_is_whole) (a := a_is_count)
    have c_is_tuple_of := f_is_tuple_of (P := P) (w := w) (base := base) (T := Bl_) (a := a_is_tuple_of)
    have c_fits_room := f_fits_room (P := P) (w := w) (base := base) (c_is_count := c_is_count) (a := a_fits_room)
    have c_fits_lights := f_fits_lights (P := P) (w := w) (base := base) (T := Bl_) (c_fits_room := c_fits_room) (a := a_fits_lights)
    have c_fits_presses := f_fits_presses (P := P) (w := w) (base := base) (T := Bl_) (c_fits_lights := c_fits_lights) (a := a_fits_presses)
    have c_fits_door_within := f_fits_door_within (P := P) (w := w) (base := base) (c_is_tuple_of := c_is_tuple_of) (c_fits_lights := c_fits_lights) (c_fits_room := c_fits_room) (c_is_whole := c_is_whole) (a := a_fits_door_within)
    have c_fits_door := f_fits_door (P := P) (w := w) (base := base) (T := BN_) (c_fits_door_within := c_fits_door_within) (a := a_fits_door)
    obtain ⟨fda, hfda⟩ : ∃ a, mg "fits_door" = some (.ref a) := let ⟨f, _, h, _⟩ := c_fits_door; ⟨f, h⟩
    have c_fits_level_with := f_fits_level_with (P := P) (w := w) (base := base) (T := Bl_) (hone := ⟨_, _, c_fits_door, hfda⟩) (c_is_tuple_of := c_is_tuple_of) (c_is_whole := c_is_whole) (a := a_fits_level_with)
    have c_fits_level := f_fits_level (P := P) (w := w) (base := base) (m_fits_door := hfda) (c_fits_level_with := c_fits_level_with) (a := a_fits_level)
    have c__law_hash := f__law_hash (P := P) (w := w) (base := base) (T := Bg_) (a := a__law_hash)
    have c__law_random := f__law_random (P := P) (w := w) (base := base) (T := Bg_) (c__law_hash := c__law_hash) (a := a__law_random)
    have c__law_cell := f__law_cell (P := P) (w := w) (base := base) (T := Bg_) (a := a__law_cell)
    have c__law_generator := f__law_generator (P := P) (w := w) (base := base) (T := Bg_) (c__law_cell := c__law_cell) (a := a__law_generator)
    have c_fits_place := f_fits_place (P := P) (w := w) (base := base) (cl := clA ad4) (T := Tb_) (c_is_count := c_is_count) (a := a_fits_place)
    have c_fits_step := f_fits_step (P := P) (w := w) (base := base) (cl := clA ad4) (c_is_tuple_of := c_is_tuple_of) (c_is_count := c_is_count) (c_fits_lights := c_fits_lights) (a := a_fits_step)
    have c_fits_house := f_fits_house (P := P) (w := w) (base := base) (cl := clA ad4) (T := Tb_) (c_fits_step := c_fits_step) (c_is_tuple_of := c_is_tuple_of) (c_fits_presses := c_fits_presses) (c_fits_level := c_fits_level) (a := a_fits_house)
    have c_leads_of := f_leads_of (P := P) (w := w) (base := base) (cl := clA ad4) (a := a_leads_of)
    have c_fits_walk := f_fits_walk (P := P) (w := w) (base := base) (cl := clA ad4) (T := Tb_) (c_fits_place := c_fits_place) (c_leads_of := c_leads_of) (a := a_fits_walk)
    have c_fits_walks := f_fits_walks (P := P) (w := w) (base := base) (cl := clA ad4) (T := Tb_) (c_fits_walk := c_fits_walk) (a := a_fits_walks)
    have c_fits_stay := f_fits_stay (P := P) (w := w) (base := base) (cl := clA ad4) (c_fits_place := c_fits_place) (c_is_whole := c_is_whole) (c_is_tuple_of := c_is_tuple_of) (a := a_fits_stay)
    have c_fits_stays := f_fits_stays (P := P) (w := w) (base := base) (cl := clA ad4) (T := Tb_) (c_fits_stay := c_fits_stay) (c_leads_of := c_leads_of) (a := a_fits_stays)
    have c_fits_counts := f_fits_counts (P := P) (w := w) (base := base) (cl := clA ad4) (T := Tb_) (c_is_count := c_is_count) (a := a_fits_counts)
    have c_check_house := f_check_house (P := P) (w := w) (base := base) (cl := clA ad4) (ck := MB.y) (c_fits_house := c_fits_house) (a := a_check_house)
    have c_check_walks := f_check_walks (P := P) (w := w) (base := base) (cl := clA ad4) (ck := MB.y) (c_fits_walks := c_fits_walks) (a := a_check_walks)
    have c_check_stand := f_check_stand (P := P) (w := w) (base := base) (cl := clA ad4) (ck := MB.y) (c_fits_place := c_fits_place) (a := a_check_stand)
    have c_check_tick := f_check_tick (P := P) (w := w) (base := base) (cl := clA ad4) (ck := MB.y) (c_is_count := c_is_count) (a := a_check_tick)
    have c_check_count := f_check_count (P := P) (w := w) (base := base) (cl := clA ad4) (ck := MB.y) (c_is_count := c_is_count) (a := a_check_count)
    have c_is_house := f_is_house (P := P) (w := w) (base := base) (cl := clA ad4) (c_fits_house := c_fits_house) (a := a_is_house)
    have c_is_walk := f_is_walk (P := P) (w := w) (base := base) (cl := clA ad4) (c_check_house := c_check_house) (c_fits_walk := c_fits_walk) (a := a_is_walk)
    have c_pressed_by := f_pressed_by (P := P) (w := w) (base := base) (cl := clA ad4) (c_check_house := c_check_house) (c_check_walks := c_check_walks) (a := a_pressed_by)
    have c_hands_light := f_hands_light (P := P) (w := w) (base := base) (cl := clA ad4) (c_check_house := c_check_house) (c_check_walks := c_check_walks) (a := a_hands_light)
    have c_first_shut := f_first_shut (P := P) (w := w) (base := base) (cl := clA ad4) (c_check_house := c_check_house) (c_check_walks := c_check_walks) (a := a_first_shut)
    have c_greatest_playable := f_greatest_playable (P := P) (w := w) (base := base) (cl := clA ad4) (c_check_house := c_check_house) (c_check_walks := c_check_walks) (a := a_greatest_playable)
    have c_why_unplayable := f_why_unplayable (P := P) (w := w) (base := base) (cl := clA ad4) (c_check_house := c_check_house) (c_check_walks := c_check_walks) (a := a_why_unplayable)
    have c_debts := f_debts (P := P) (w := w) (base := base) (cl := clA ad4) (c_check_house := c_check_house) (c_check_walks := c_check_walks) (a := a_debts)
    have c_are_stays := f_are_stays (P := P) (w := w) (base := base) (cl := clA ad4) (c_check_house := c_check_house) (c_fits_stays := c_fits_stays) (a := a_are_stays)
    have c_far_steps := f_far_steps (P := P) (w := w) (base := base) (cl := clA ad4) (ck := MB.y) (c_check_house := c_check_house) (c_fits_stays := c_fits_stays) (a := a_far_steps)
    have c_earned := f_earned (P := P) (w := w) (base := base) (cl := clA ad4) (c_check_house := c_check_house) (c_check_walks := c_check_walks) (a := a_earned)
    have c_steps_between := f_steps_between (P := P) (w := w) (base := base) (cl := clA ad4) (c_check_house := c_check_house) (c_check_stand := c_check_stand) (a := a_steps_between)
    have c_open_steps := f_open_steps (P := P) (w := w) (base := base) (cl := clA ad4) (T := Tb_) (c_check_house := c_check_house) (c_check_walks := c_check_walks) (c_check_tick := c_check_tick) (a := a_open_steps)
    have c_opened_by := f_opened_by (P := P) (w := w) (base := base) (cl := clA ad4) (T := Tb_) (c_check_house := c_check_house) (c_check_walks := c_check_walks) (c_check_tick := c_check_tick) (a := a_opened_by)
    have c_put_off := f_put_off (P := P) (w := w) (base := base) (cl := clA ad4) (ck := MB.y) (T := Tb_) (c_fits_counts := c_fits_counts) (c_check_count := c_check_count) (a := a_put_off)
    have c__law_call := f__law_call (P := P) (w := w) (base := base) (c := ⟨c_is_walk.toX, c_pressed_by.toX, c_hands_light.toX, c_first_shut.toX, c_greatest_playable.toX, c_why_unplayable.toX, c_debts.toX, c_are_stays.toX, c_far_steps.toX, c_earned.toX, c_steps_between.toX, c_open_steps.toX, c_opened_by.toX⟩) (a := a__law_call)
    have c__law_houses_refused := f__law_houses_refused (P := P) (w := w) (base := base) (T := BR_) (sm := sm) (Z := Z_) (T7 := B7_) (Ts := [(P1, qL "_law_houses_refused"), (P2, qL "_law_walks_refused"), (P3, qL "_law_numbers_refused")]) (kIn := kIn) (hns := hns) (htab := t1_) (TB := tb1) (hmT := (List.mem_cons_self ..)) (huT := u1) (c_ref := a__law_refused) (c__law_call := c__law_call) (c_is_house := c_is_house.toX) (a := a__law_houses_refused)
    have c__law_walks_refused := f__law_walks_refused (P := P) (w := w) (base := base) (sm := sm) (Z := Z_) (c := ⟨c_is_walk.toX, c_pressed_by.toX, c_hands_light.toX, c_first_shut.toX, c_greatest_playable.toX, c_why_unplayable.toX, c_debts.toX, c_are_stays.toX, c_far_steps.toX, c_earned.toX, c_steps_between.toX, c_open_steps.toX, c_opened_by.toX⟩) (T7 := B7_) (Ts := [(P1, qL "_law_houses_refused"), (P2, qL "_law_walks_refused"), (P3, qL "_law_numbers_refused")]) (kIn := kIn) (hns := hns) (htab := t2_) (TB := tb2) (hmT := (List.mem_cons_of_mem _ (List.mem_cons_self ..))) (huT := u2) (c_ref := a__law_refused) (c_put_off := c_put_off.toX) (a := a__law_walks_refused)
    have c__law_numbers_refused := f__law_numbers_refused (P := P) (w := w) (base := base) (sm := sm) (Z := Z_) (c := ⟨c_is_walk.toX, c_pressed_by.toX, c_hands_light.toX, c_first_shut.toX, c_greatest_playable.toX, c_why_unplayable.toX, c_debts.toX, c_are_stays.toX, c_far_steps.toX, c_earned.toX, c_steps_between.toX, c_open_steps.toX, c_opened_by.toX⟩) (T7 := B7_) (Ts := [(P1, qL "_law_houses_refused"), (P2, qL "_law_walks_refused"), (P3, qL "_law_numbers_refused")]) (kIn := kIn) (hns := hns) (htab := t3_) (TB := tb3) (hmT := (List.mem_cons_of_mem _ (List.mem_cons_of_mem _ (List.mem_cons_self ..)))) (huT := u3) (c_ref := a__law_refused) (a := a__law_numbers_refused)
    have c__law_fields_kept := f__law_fields_kept (P := P) (w := w) (base := base) (T := BR_) (sm := sm) (Z := Z_) (c_pressed_by := c_pressed_by.toX) (c_debts := c_debts.toX) (c_steps_between := c_steps_between.toX) (c_open_steps := c_open_steps.toX) (c_far_steps := c_far_steps.toX) (c_put_off := c_put_off.toX) (a := a__law_fields_kept)
    exact f_law (Ts := [(P1, qL "_law_houses_refused"), (P2, qL "_law_walks_refused"), (P3, qL "_law_numbers_refused")]) (cs := [(c1, P1), (c2, P2), (c3, P3)]) (fr3 ⟨(c1, P1), (List.mem_cons_self ..), rfl⟩ ⟨(c2, P2), (List.mem_cons_of_mem _ (List.mem_cons_self ..)), rfl⟩ ⟨(c3, P3), (List.mem_cons_of_mem _ (List.mem_cons_of_mem _ (List.mem_cons_self ..))), rfl⟩) c__law_generator c__law_random c__law_houses_refused c__law_walks_refused c__law_numbers_refused c__law_fields_kept F |>.up (by decide)
end TD

set_option maxHeartbeats 4000000
open PySem PySem.W PyProof.Rows
set_option maxHeartbeats 0 in
theorem PySem.Challenge.cw_timedoors_k32_hands_refused_holds : PySem.Challenge.rw_timedoors_k32_hands_refused.Holds := by
  w_on; o_law; k_head; (case hw => w_witness2)
  k_fill
  refine TD.walkGT (l := PySem.Challenge.rw_timedoors_k32_hands_refused) (n := 63) (k := 18) (x := "_law_script") (CX := fun _ => L2.CX0) (sp := TD.spLawT) rfl (by decide) rfl rfl ⟨rfl, by decide, by decide⟩ (fun w h Y => PySem.W.km_in_of Y) ?F (fun _ _ _ _ _ h => h)
  case F =>
    intro w mg fa h KX G hmg tell
    refine' TD.all_mk KX G hmg tell ?s_DoorError ?s_InvalidHouse ?s_InvalidNumber ?s_InvalidWalk ?s_InvalidWalks ?m_InvalidHouse ?m_InvalidNumber ?m_InvalidWalk ?m_InvalidWalks ?a_is_whole ?a_is_count ?a_is_tuple_of ?a_fits_room ?a_fits_lights ?a_fits_presses ?a_fits_door_within ?a_fits_door ?a_fits_level_with ?a_fits_level ?a__law_hash ?a__law_random ?a__law_cell ?a__law_generator ?a_fits_place ?a_fits_step ?a_fits_house ?a_leads_of ?a_fits_walk ?a_fits_walks ?a_fits_stay ?a_fits_stays ?a_fits_counts ?a_check_house ?a_check_walks ?a_check_stand ?a_check_tick ?a_check_count ?a_is_house ?a_is_walk ?a_pressed_by ?a_hands_light ?a_first_shut ?a_greatest_playable ?a_why_unplayable ?a_debts ?a_are_stays ?a_far_steps ?a_earned ?a_steps_between ?a_open_steps ?a_opened_by ?a_put_off ?a__law_call ?a__law_houses_refused ?a__law_walks_refused ?a__law_numbers_refused ?a__law_fields_kept ?a__law_refused ?a_law ?z_NEXT ?z_isinstance ?z_int ?z_bool ?z_list ?z_tuple ?z_len ?z_all ?z_max ?z_sum ?z_range ?z_repr ?z_zip ?z_ValueError ?t1_ ?r1_ ?n1_ ?t2_ ?r2_ ?n2_ ?t3_ ?r3_ ?n3_ ?d12 ?d13 ?d23
    (case t1_ => refine' TD.tab_mk ?tbA ?tbL ?tbC ?tbD ?tbE; (case tbA => k_is); (case tbL => k_is); (case tbC => rfl); (case tbD => k_is); (case tbE => rfl))
    (case r1_ => first | rfl | decide +kernel)
    (case n1_ => first | k_is | rfl | (with_unfolding_all rfl) | decide +kernel)
    (case t2_ => refine' TD.tab_mk ?tbA ?tbL ?tbC ?tbD ?tbE; (case tbA => k_is); (case tbL => k_is); (case tbC => rfl); (case tbD => k_is); (case tbE => rfl))
    (case r2_ => first | rfl | decide +kernel)
    (case n2_ => first | k_is | rfl | (with_unfolding_all rfl) | decide +kernel)
    (case t3_ => refine' TD.tab_mk ?tbA ?tbL ?tbC ?tbD ?tbE; (case tbA => k_is); (case tbL => k_is); (case tbC => rfl); (case tbD => k_is); (case tbE => rfl))
    (case r3_ => first | rfl | decide +kernel)
    (case n3_ => first | k_is | rfl | (with_unfolding_all rfl) | decide +kernel)
    (case d12 => decide)
    (case d13 => decide)
    (case d23 => decide)
    (case s_DoorError => refine' TD.std_mk KX G ?a1 ?a2 ?a3 ?a4 ?a5 ?a6 ?a7 ?a8 ?a9; (case a1 => k_is); (case a2 => k_is); (case a3 => k_is); (case a4 => k_is); (case a5 => k_is); (case a6 => k_is); (case a7 => k_is); (case a8 => k_is); (case a9 => k_is))
    (case s_InvalidHouse => refine' TD.std_mk KX G ?a1 ?a2 ?a3 ?a4 ?a5 ?a6 ?a7 ?a8 ?a9; (case a1 => k_is); (case a2 => k_is); (case a3 => k_is); (case a4 => k_is); (case a5 => k_is); (case a6 => k_is); (case a7 => k_is); (case a8 => k_is); (case a9 => k_is))
    (case s_InvalidNumber => refine' TD.std_mk KX G ?a1 ?a2 ?a3 ?a4 ?a5 ?a6 ?a7 ?a8 ?a9; (case a1 => k_is); (case a2 => k_is); (case a3 => k_is); (case a4 => k_is); (case a5 => k_is); (case a6 => k_is); (case a7 => k_is); (case a8 => k_is); (case a9 => k_is))
    (case s_InvalidWalk => refine' TD.std_mk KX G ?a1 ?a2 ?a3 ?a4 ?a5 ?a6 ?a7 ?a8 ?a9; (case a1 => k_is); (case a2 => k_is); (case a3 => k_is); (case a4 => k_is); (case a5 => k_is); (case a6 => k_is); (case a7 => k_is); (case a8 => k_is); (case a9 => k_is))
    (case s_InvalidWalks => refine' TD.std_mk KX G ?a1 ?a2 ?a3 ?a4 ?a5 ?a6 ?a7 ?a8 ?a9; (case a1 => k_is); (case a2 => k_is); (case a3 => k_is); (case a4 => k_is); (case a5 => k_is); (case a6 => k_is); (case a7 => k_is); (case a8 => k_is); (case a9 => k_is))
    (case m_InvalidHouse => intro base s; refine' TD.mke_of (st := TD.clsM (TD.topS 3)) s ?hv ?sa ?no ?ini ?tI ?l1 ?c1 ?k1 ?lT ?dT ?hs; (case hv => decide); (case sa => k_is); (case no => k_is); (case ini => k_is); (case tI => k_is); (case l1 => k_is); (case c1 => k_is); (case k1 => k_is); (case lT => k_is); (case dT => rfl); (case hs => exact ⟨_, _, _, _, _, _, _, rfl, rfl, rfl⟩))
    (case m_InvalidNumber => intro base s; refine' TD.mke_of (st := TD.clsM (TD.topS 2)) s ?hv ?sa ?no ?ini ?tI ?l1 ?c1 ?k1 ?lT ?dT ?hs; (case hv => decide); (case sa => k_is); (case no => k_is); (case ini => k_is); (case tI => k_is); (case l1 => k_is); (case c1 => k_is); (case k1 => k_is); (case lT => k_is); (case dT => rfl); (case hs => exact ⟨_, _, _, _, _, _, _, rfl, rfl, rfl⟩))
    (case m_InvalidWalk => intro base s; refine' TD.mke_of (st := TD.clsM (TD.topS 4)) s ?hv ?sa ?no ?ini ?tI ?l1 ?c1 ?k1 ?lT ?dT ?hs; (case hv => decide); (case sa => k_is); (case no => k_is); (case ini => k_is); (case tI => k_is); (case l1 => k_is); (case c1 => k_is); (case k1 => k_is); (case lT => k_is); (case dT => rfl); (case hs => exact ⟨_, _, _, _, _, _, _, rfl, rfl, rfl⟩))
    (case m_InvalidWalks => intro base s; refine' TD.mke_of (st := TD.clsM (TD.topS 5)) s ?hv ?sa ?no ?ini ?tI ?l1 ?c1 ?k1 ?lT ?dT ?hs; (case hv => decide); (case sa => k_is); (case no => k_is); (case ini => k_is); (case tI => k_is); (case l1 => k_is); (case c1 => k_is); (case k1 => k_is); (case lT => k_is); (case dT => rfl); (case hs => exact ⟨_, _, _, _, _, _, _, rfl, rfl, rfl⟩))
    (case a_is_whole => refine' TD.at_mk KX G ?a ?l ?c ?k; (case a => k_is); (case l => k_is); (case c => k_is); (case k => k_is))
    (case a_is_count => refine' TD.at_mk KX G ?a ?l ?c ?k; (case a => k_is); (case l => k_is); (case c => k_is); (case k => k_is))
    (case a_is_tuple_of => refine' TD.at_mk KX G ?a ?l ?c ?k; (case a => k_is); (case l => k_is); (case c => k_is); (case k => k_is))
    (case a_fits_room => refine' TD.at_mk KX G ?a ?l ?c ?k; (case a => k_is); (case l => k_is); (case c => k_is); (case k => k_is))
    (case a_fits_lights => refine' TD.at_mk KX G ?a ?l ?c ?k; (case a => k_is); (case l => k_is); (case c => k_is); (case k => k_is))
    (case a_fits_presses => refine' TD.at_mk KX G ?a ?l ?c ?k; (case a => k_is); (case l => k_is); (case c => k_is); (case k => k_is))
    (case a_fits_door_within => refine' TD.at_mk KX G ?a ?l ?c ?k; (case a => k_is); (case l => k_is); (case c => k_is); (case k => k_is))
    (case a_fits_door => refine' TD.at_mk KX G ?a ?l ?c ?k; (case a => k_is); (case l => k_is); (case c => k_is); (case k => k_is))
    (case a_fits_level_with => refine' TD.at_mk KX G ?a ?l ?c ?k; (case a => k_is); (case l => k_is); (case c => k_is); (case k => k_is))
    (case a_fits_level => refine' TD.at_mk KX G ?a ?l ?c ?k; (case a => k_is); (case l => k_is); (case c => k_is); (case k => k_is))
    (case a__law_hash => refine' TD.at_mk KX G ?a ?l ?c ?k; (case a => k_is); (case l => k_is); (case c => k_is); (case k => k_is))
    (case a__law_random => refine' TD.at_mk KX G ?a ?l ?c ?k; (case a => k_is); (case l => k_is); (case c => k_is); (case k => k_is))
    (case a__law_cell => refine' TD.at_mk KX G ?a ?l ?c ?k; (case a => k_is); (case l => k_is); (case c => k_is); (case k => k_is))
    (case a__law_generator => refine' TD.at_mk KX G ?a ?l ?c ?k; (case a => k_is); (case l => k_is); (case c => k_is); (case k => k_is))
    (case a_fits_place => refine' TD.at_mk KX G ?a ?l ?c ?k; (case a => k_is); (case l => k_is); (case c => k_is); (case k => k_is))
    (case a_fits_step => refine' TD.at_mk KX G ?a ?l ?c ?k; (case a => k_is); (case l => k_is); (case c => k_is); (case k => k_is))
    (case a_fits_house => refine' TD.at_mk KX G ?a ?l ?c ?k; (case a => k_is); (case l => k_is); (case c => k_is); (case k => k_is))
    (case a_leads_of => refine' TD.at_mk KX G ?a ?l ?c ?k; (case a => k_is); (case l => k_is); (case c => k_is); (case k => k_is))
    (case a_fits_walk => refine' TD.at_mk KX G ?a ?l ?c ?k; (case a => k_is); (case l => k_is); (case c => k_is); (case k => k_is))
    (case a_fits_walks => refine' TD.at_mk KX G ?a ?l ?c ?k; (case a => k_is); (case l => k_is); (case c => k_is); (case k => k_is))
    (case a_fits_stay => refine' TD.at_mk KX G ?a ?l ?c ?k; (case a => k_is); (case l => k_is); (case c => k_is); (case k => k_is))
    (case a_fits_stays => refine' TD.at_mk KX G ?a ?l ?c ?k; (case a => k_is); (case l => k_is); (case c => k_is); (case k => k_is))
    (case a_fits_counts => refine' TD.at_mk KX G ?a ?l ?c ?k; (case a => k_is); (case l => k_is); (case c => k_is); (case k => k_is))
    (case a_check_house => refine' TD.at_mk KX G ?a ?l ?c ?k; (case a => k_is); (case l => k_is); (case c => k_is); (case k => k_is))
    (case a_check_walks => refine' TD.at_mk KX G ?a ?l ?c ?k; (case a => k_is); (case l => k_is); (case c => k_is); (case k => k_is))
    (case a_check_stand => refine' TD.at_mk KX G ?a ?l ?c ?k; (case a => k_is); (case l => k_is); (case c => k_is); (case k => k_is))
    (case a_check_tick => refine' TD.at_mk KX G ?a ?l ?c ?k; (case a => k_is); (case l => k_is); (case c => k_is); (case k => k_is))
    (case a_check_count => refine' TD.at_mk KX G ?a ?l ?c ?k; (case a => k_is); (case l => k_is); (case c => k_is); (case k => k_is))
    (case a_is_house => refine' TD.at_mk KX G ?a ?l ?c ?k; (case a => k_is); (case l => k_is); (case c => k_is); (case k => k_is))
    (case a_is_walk => refine' TD.at_mk KX G ?a ?l ?c ?k; (case a => k_is); (case l => k_is); (case c => k_is); (case k => k_is))
    (case a_pressed_by => refine' TD.at_mk KX G ?a ?l ?c ?k; (case a => k_is); (case l => k_is); (case c => k_is); (case k => k_is))
    (case a_hands_light => refine' TD.at_mk KX G ?a ?l ?c ?k; (case a => k_is); (case l => k_is); (case c => k_is); (case k => k_is))
    (case a_first_shut => refine' TD.at_mk KX G ?a ?l ?c ?k; (case a => k_is); (case l => k_is); (case c => k_is); (case k => k_is))
    (case a_greatest_playable => refine' TD.at_mk KX G ?a ?l ?c ?k; (case a => k_is); (case l => k_is); (case c => k_is); (case k => k_is))
    (case a_why_unplayable => refine' TD.at_mk KX G ?a ?l ?c ?k; (case a => k_is); (case l => k_is); (case c => k_is); (case k => k_is))
    (case a_debts => refine' TD.at_mk KX G ?a ?l ?c ?k; (case a => k_is); (case l => k_is); (case c => k_is); (case k => k_is))
    (case a_are_stays => refine' TD.at_mk KX G ?a ?l ?c ?k; (case a => k_is); (case l => k_is); (case c => k_is); (case k => k_is))
    (case a_far_steps => refine' TD.at_mk KX G ?a ?l ?c ?k; (case a => k_is); (case l => k_is); (case c => k_is); (case k => k_is))
    (case a_earned => refine' TD.at_mk KX G ?a ?l ?c ?k; (case a => k_is); (case l => k_is); (case c => k_is); (case k => k_is))
    (case a_steps_between => refine' TD.at_mk KX G ?a ?l ?c ?k; (case a => k_is); (case l => k_is); (case c => k_is); (case k => k_is))
    (case a_open_steps => refine' TD.at_mk KX G ?a ?l ?c ?k; (case a => k_is); (case l => k_is); (case c => k_is); (case k => k_is))
    (case a_opened_by => refine' TD.at_mk KX G ?a ?l ?c ?k; (case a => k_is); (case l => k_is); (case c => k_is); (case k => k_is))
    (case a_put_off => refine' TD.at_mk KX G ?a ?l ?c ?k; (case a => k_is); (case l => k_is); (case c => k_is); (case k => k_is))
    (case a__law_call => refine' TD.at_mk KX G ?a ?l ?c ?k; (case a => k_is); (case l => k_is); (case c => k_is); (case k => k_is))
    (case a__law_houses_refused => refine' TD.at_mk KX G ?a ?l ?c ?k; (case a => k_is); (case l => k_is); (case c => k_is); (case k => k_is))
    (case a__law_walks_refused => refine' TD.at_mk KX G ?a ?l ?c ?k; (case a => k_is); (case l => k_is); (case c => k_is); (case k => k_is))
    (case a__law_numbers_refused => refine' TD.at_mk KX G ?a ?l ?c ?k; (case a => k_is); (case l => k_is); (case c => k_is); (case k => k_is))
    (case a__law_fields_kept => refine' TD.at_mk KX G ?a ?l ?c ?k; (case a => k_is); (case l => k_is); (case c => k_is); (case k => k_is))
    (case a__law_refused => refine' TD.at_mk KX G ?a ?l ?c ?k; (case a => k_is); (case l => k_is); (case c => k_is); (case k => k_is))
    (case a_law => refine' TD.at_mk KX G ?a ?l ?c ?k; (case a => k_is); (case l => k_is); (case c => k_is); (case k => k_is))
    (case z_NEXT => k_is)
    (case z_isinstance => k_is)
    (case z_int => k_is)
    (case z_bool => k_is)
    (case z_list => k_is)
    (case z_tuple => k_is)
    (case z_len => k_is)
    (case z_all => k_is)
    (case z_max => k_is)
    (case z_sum => k_is)
    (case z_range => k_is)
    (case z_repr => k_is)
    (case z_zip => k_is)
    (case z_ValueError => k_is)

