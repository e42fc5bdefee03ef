import PyProof.Rows.All
import Wide.All
import OpenK.AllK
import Wide.FinOn
import HandS.ForMost
import HandS.ForExc
import HandS.More
import HandS.Flow
import HandS.Style
import HandS.IsInst
import HandS.Property
import HandS.OwnEq
import HandS.Evl
import KE.GoesEnum
import HandS.SortKw
import KE.GoesEnumKw
import HandS.Walk
import HandS.TupAny
import PySem.Challenge.RW_earlyorlate_k22_ways_with_the_greatest_s
import HandS.Defaults
import HandS.ExcField
import HandS.ExcIs
import KE.KExcIs
import HandS.HotCalls
import HandS.Comp
import HandS.ExcCtx
import HandS.ExcInitHot
import HandS.WordsExc
import HandS.ExcInit
set_option Elab.async false
set_option linter.all false
set_option maxRecDepth 100000
set_option maxHeartbeats 4000000
/- part P0 -/
/-! Early or late: own words over the hand layer. Part 0: defs that know that no repr is under way. -/
namespace EL
open PySem PySem.Spec PyProof.Rows L2
open PySem.W (Frag)

/-- no repr is under way around -/
abbrev Quiet (A : Around) : Prop := A.guards = some []

/-- a def's promise, for callers around which no repr is under way -/
structure FnG (P : Program) (w : World) (K : Frag) (mg : Str → Option Value) (base : Heap) (X : CXT) (k : Nat) (f : Addr) (fd : FuncData) (ps : List Str) (sp : Sp) : Prop where
  len : ∀ vs H Q E, sp vs H Q E → vs.length = ps.length
  run : ∀ (A : Around) (out : List Env) (s : Shared) (H : Hp) (args : Args) (us : List Value) (vs : List V) (Q : VK) (E : XK),
    Room k A → Quiet A → Env0 P w K mg base A out s H → BindsTo s fd args (ps.zip us) → Vals vs us → sp vs H Q E →
    codeAny (model P w) A (.call (.ref f) args) (CR X out P w H s Q E) s

theorem FnG.of {P : Program} {w : World} {K : Frag} {mg : Str → Option Value} {base : Heap} {X : CXT} {k : Nat} {f : Addr} {fd : FuncData} {ps : List Str} {sp : Sp}
    (F : FnOk P w K mg base X k f fd ps sp) : FnG P w K mg base X k f fd ps sp :=
  ⟨F.len, fun A out s H args us vs Q E hr _ he hb hv hs => F.run A out s H args us vs Q E hr he hb hv hs⟩

theorem FnG.up {P : Program} {w : World} {K : Frag} {mg : Str → Option Value} {base : Heap} {X : CXT} {j k : Nat} {f : Addr} {fd : FuncData} {ps : List Str} {sp : Sp}
    (F : FnG P w K mg base X j f fd ps sp) (h : j ≤ k) : FnG P w K mg base X k f fd ps sp :=
  ⟨F.len, fun A out s H args us vs Q E hr => F.run A out s H args us vs Q E (hr.mono h)⟩

/-- the end of a body, told to the caller -/
theorem ended {X : CXT} {P : Program} {w : World} {K : Frag} {mg : Str → Option Value} {base : Heap} {N : List Str} {qual : Str} {sc : Scope} {f : Addr} {cd : Value} {A : Around} {out : List Env}
    {s s' : Shared} {H H' : Hp} {E : XK} {Q : VK} {σ : L2.St} {v : V} {u : Value}
    (J : Inv (cxOf X P w K mg base N qual sc f cd A out s H E) [] σ H' s') (rv : RelV v u) (q : Q v H') : CE out P w H s Q u s' :=
  ⟨v, H', J.os, J.bare, J.base, J.hok, rv, q⟩

theorem fnG_of {X : CXT} {P : Program} {w : World} {K : Frag} {mg : Str → Option Value} {base : Heap} {k : Nat} {x qual : Str} {st : Stmt} {f : Addr} {fd : FuncData} {N ps : List Str} {sp : Sp}
    (F : Fun K x qual st f fd) (S : FnScope N ps (defScope st)) (len : ∀ vs H Q E, sp vs H Q E → vs.length = ps.length)
    (hbody : ∀ (cd : Value) (A : Around) (out : List Env) (s : Shared) (H : Hp) (vs : List V) (Q : VK) (E : XK), Room k (A.deeper (envOfC qual (defScope st) s.heap.objs.size f cd)) →
      Quiet (A.deeper (envOfC qual (defScope st) s.heap.objs.size f cd)) → sp vs H Q E →
      ∃ t, PSs (cxOf X P w K mg base N qual (defScope st) f cd A out s H E) (defBody st) t ∧ t { nx := fun _ H' => Q .non H', rt := Q } (start N vs) H) :
    FnG P w K mg base X (k + 1) f fd ps sp := by
  obtain ⟨oc, od, kV, doc, pm, an, cd, ct, osl, rfl, lk, hcd⟩ := F.ex
  constructor
  · exact len
  intro A out s H args us vs Q E hr hg e0 hb r hsp
  have old : ∀ b o, base.get? b = some o → s.heap.get? b = some o := fun b o e => (e0.bs b o e).1
  have KX := e0.mod.kin.keeps old
  have kinds : ∀ y ∈ ps.zip us, (defScope st).names.lookup y.1 = some .local ∨ ((defScope st).names.lookup y.1 = some .cell ∧ ((cellsFrom (s.heap.objs.size + 1) (defScope st).names []).lookup y.1).isSome = true) := by
    rintro ⟨n, v⟩ hy
    cases S.par n (List.of_mem_zip hy).1 with
    | inl q => exact .inl q
    | inr q => exact .inr ⟨q, PySem.W.cellsFrom_some _ _ _ (.inl q)⟩
  apply codeAny_call_function hr.depth (KX _ _ lk) rfl S.co S.gen rfl (PySem.W.codeRec_of KX hcd)
  apply hb
  apply wpAny_newFunctionEnv_cells S.kind kinds
  rintro env rfl s1 x
  refine ⟨(e0.mod.nolimit.keeps old).keeps x.toInCall.keep, codeAny_func ?_⟩
  obtain ⟨t, ht, hq⟩ := hbody cd A out s H vs Q E (hr.deeper _) hg hsp
  have I := inv_start (CX := X) (E := E) S hr.hd e0 (len _ _ _ _ hsp) r x
  refine wpAny_mono (ht.run [] s1 _ H _ I hq) ?_ (fun _ _ z => z)
  intro fl s' hs
  cases fl with
  | next =>
    obtain ⟨σ', H', J, q⟩ := hs
    exact ended (v := V.non) (u := Value.none) J rfl q
  | ret u =>
    obtain ⟨v, σ', H', J, rv, q⟩ := hs
    exact ended J rv q
  | brk => exact (let ⟨_, _, _, z⟩ := hs; False.elim z)
  | cont => exact (let ⟨_, _, _, z⟩ := hs; False.elim z)

/-- a def of the module by its name: where it stands, how its arguments bind, its promise -/
structure Cal (P : Program) (w : World) (K : Frag) (mg : Str → Option Value) (base : Heap) (CX : CXT) (k : Nat) (x : Str) (ps : List Str) (sp : Sp) : Prop where
  ex : ∃ f fd, mg x = some (.ref f) ∧ PySem.W.keepIn K (.ref f) = true ∧ Binds K fd ps [] ∧ FnOk P w K mg base CX k f fd ps sp
structure CalG (P : Program) (w : World) (K : Frag) (mg : Str → Option Value) (base : Heap) (CX : CXT) (k : Nat) (x : Str) (ps : List Str) (sp : Sp) : Prop where
  ex : ∃ f fd, mg x = some (.ref f) ∧ PySem.W.keepIn K (.ref f) = true ∧ Binds K fd ps [] ∧ FnG P w K mg base CX k f fd ps sp
theorem Cal.g {P : Program} {w : World} {K : Frag} {mg : Str → Option Value} {base : Heap} {CX : CXT} {k : Nat} {x : Str} {ps : List Str} {sp : Sp} (C : Cal P w K mg base CX k x ps sp) : CalG P w K mg base CX k x ps sp := by
  obtain ⟨f, fd, h1, h2, h3, h4⟩ := C.ex
  exact ⟨f, fd, h1, h2, h3, .of h4⟩
section
variable {X : Cx} {CX : CXT} {k : Nat} {x : Str} {ps : List Str} {sp : Sp} {E : XK} {p pos : Pos} {e : Expr} {es : List Expr} {t : TA}
theorem pe_cal (C : Cal X.prog X.w X.K X.mg X.base CX k x ps sp) (hr : Room k X.A) (hx : Passes CX X E) (ha : PA X (e :: es) t) (hg : Gl X x := by rfl) (hdb : (x == ("__debug__" : Str)) = false := by decide)
    (he : starEach (e :: es) X.env = (false, eval e X.env) :: starEach es X.env := by rfl) (hpl : (backTo pos (starEach es X.env)).any (·.1) = false := by rfl) :
    PE X (.Call (.Name x p) (e :: es) [] pos) (tCall sp [] E t) := by
  obtain ⟨f, fd, h1, h2, h3, h4⟩ := C.ex
  exact pe_call h4 hr hg h1 h2 h3 .nil hx ha hdb he hpl
theorem pe_cal0 (C : Cal X.prog X.w X.K X.mg X.base CX k x ps sp) (hr : Room k X.A) (hx : Passes CX X E) (hg : Gl X x := by rfl) (hdb : (x == ("__debug__" : Str)) = false := by decide) :
    PE X (.Call (.Name x p) [] [] pos) (tCall sp [] E tNil) := by
  obtain ⟨f, fd, h1, h2, h3, h4⟩ := C.ex
  exact pe_call0 h4 hr hg h1 h2 h3 .nil hx hdb
theorem run_calG {f : Addr} {fd : FuncData} {pins : List (Addr × Obj)} {σ : L2.St} {H : Hp} {s : Shared} {Q : VK} {us : List Value} {vs : List V} (F : FnG X.prog X.w X.K X.mg X.base CX k f fd ps sp) (hr : Room k X.A) (hq : Quiet X.A) (hb : Binds X.K fd ps [])
    (hx : Passes CX X E) (I : Inv X pins σ H s) (r : Vals vs us) (h : sp vs H Q E) : wpAny (model X.prog X.w) X.A (call (.ref f) us) (EP X pins σ Q) X.xe s := by
  have hl : us.length = ps.length := r.length.symm.trans (F.len _ _ _ _ h)
  have hb1 := hb s us I.kIn (by rw [List.append_nil]; exact hl)
  rw [List.append_nil] at hb1
  refine wpAny_call (codeAny_mono (F.run X.A X.stack s H ⟨us, []⟩ us vs Q E hr hq I.env0 hb1 r h) ?_)
  rintro (e | fl) s' hz
  · exact hx pins σ H s e s' I hz
  · cases fl with
    | ret u => exact I.after hz
    | next => exact False.elim hz
    | brk => exact False.elim hz
    | cont => exact False.elim hz
theorem pe_calG (C : CalG X.prog X.w X.K X.mg X.base CX k x ps sp) (hr : Room k X.A) (hq : Quiet X.A) (hx : Passes CX X E) (ha : PA X (e :: es) t) (hg : Gl X x := by rfl) (hdb : (x == ("__debug__" : Str)) = false := by decide)
    (he : starEach (e :: es) X.env = (false, eval e X.env) :: starEach es X.env := by rfl) (hpl : (backTo pos (starEach es X.env)).any (·.1) = false := by rfl) :
    PE X (.Call (.Name x p) (e :: es) [] pos) (tCall sp [] E t) := by
  obtain ⟨f, fd, h1, h2, h3, h4⟩ := C.ex
  constructor
  intro pins s σ H Q I h
  apply wpAny_Call_Name_kw
  refine ld_glob I hg h1 (PySem.W.callWith_K (h₀ := X.base) I.ok.mod.kin h2 (thn (ha.run pos pins s σ H _ I h) ?_) he hpl) hdb
  rintro us s1 ⟨vs, H1, I1, r, q⟩
  rw [List.append_nil] at q
  exact ⟨I1.kIn, run_calG h4 hr hq h3 hx I1 r q⟩
theorem pe_calG0 (C : CalG X.prog X.w X.K X.mg X.base CX k x ps sp) (hr : Room k X.A) (hq : Quiet X.A) (hx : Passes CX X E) (hg : Gl X x := by rfl) (hdb : (x == ("__debug__" : Str)) = false := by decide) :
    PE X (.Call (.Name x p) [] [] pos) (tCall sp [] E tNil) := by
  obtain ⟨f, fd, h1, h2, h3, h4⟩ := C.ex
  constructor
  intro pins s σ H Q I h
  apply wpAny_Call_Name_kw
  exact ld_glob I hg h1 (PySem.W.callWith_K0 I.kIn h2 (run_calG (us := []) h4 hr hq h3 hx I .nil h)) hdb
end
end EL

/- part P1 -/
/-! the end of a law whose def wants that no repr is under way -/
namespace EL
open PySem PySem.Spec PyProof.Rows L2
open PySem.W (Frag)

theorem law_from {P : Program} {w : World} {K : Frag} {mg mb : Str → Option Value} {CX : CXT} {k : Nat} {fa a : Addr} {fd : FuncData} {x : Str} {sp : Sp} {s : Shared} {vs : List Value} {H : Hp}
    (KX : K.In s.heap) (hns : s.heap.Ns mainGlobals mg) (hb : s.heap.Ns builtinsNs mb) (hbb : ∀ y : Str, y ≠ "__name__" → mb y = bootBuiltins y) (hlim : s.heap.NoLimit) (hg : s.gens = #[])
    (ha : s.heap.get? a = some { cls := .type "list", data := .seq vs.toArray }) (hr : Room k PySem.callerA)
    (F : ∀ base : Heap, K.In base → base.Ns mainGlobals mg → FnG P w K mg base CX k fa fd [x] sp) (hbind : ∀ (s : Shared) (u : Value), BindsTo s fd ⟨[u], []⟩ [(x, u)])
    (hsp : sp [.ref a] H (fun v _ => v = .bl true) fun _ _ _ => False) (hCX : ∀ e s', CX [] H s (fun _ _ _ => False) e s' → False)
    (hO : Only H) (hok : HOk P w H s.heap) (hA : ∀ b, H b ≠ none → b = a) (hK : H a ≠ none → K.lookup a = none) :
    codeAny (model P w) PySem.callerA (.call (.ref fa) ⟨[.ref a], []⟩) (fun r s' => r = .ok (.ret (.bool true)) ∧ OldK s.heap s'.heap ∧ s'.os = s.os ∧ AllBare s'.gens) s := by
  have free : ∀ {b : Addr} {o : Obj}, s.heap.get? b = some o → (b = a → False) ∨ (H b = none) → (hidT s.heap H).get? b = some o := by
    intro b o e z
    apply hidT_get e
    rcases z with z | z
    · cases q : H b with
      | none => rfl
      | some u => exact (z (hA b (by simp [q]))).elim
    · exact z
  have dict : ∀ {b : Addr} {m : Str → Option Value}, s.heap.Ns b m → (hidT s.heap H).Ns b m := by
    rintro b m ⟨o, es, ep, e, d, r⟩
    refine ⟨o, es, ep, free e (.inl fun z => ?_), d, r⟩
    rw [z, ha] at e
    cases e
    exact nomatch d
  have kin : K.In (hidT s.heap H) := by
    intro b o e
    cases q : H b with
    | none => exact free (KX b o e) (.inr q)
    | some u =>
      have ba := hA b (by simp [q])
      rw [ba] at e q
      rw [hK (by simp [q])] at e
      exact nomatch e
  have M : Mod K mg (hidT s.heap H) := ⟨kin, dict hns, ⟨mb, dict hb, hbb⟩, let ⟨mc, h1, h2⟩ := hlim; ⟨mc, dict h1, h2⟩⟩
  have none_in : ∀ b : Addr, b ∉ ([] : List Addr) := fun b z => by simp at z
  have e0 : Env0 P w K mg (hidT s.heap H) PySem.callerA [] s H :=
    { frames := rfl, mod := M, bs := fun b o e => of_hidT e, bsz := Nat.le_of_eq (hidT_size _ _), funs := trivial, frf := fun b z => (none_in b z).elim, hok := hok, bare := .of_eq hg }
  refine codeAny_mono ((F _ kin (dict hns)).run PySem.callerA [] s H _ [.ref a] [.ref a] _ _ hr rfl e0 (hbind s (.ref a)) (.cons rfl .nil) hsp) ?_
  rintro (e | fl) s' hz
  · exact (hCX e s' hz).elim
  · cases fl with
    | next => exact False.elim hz
    | brk => exact False.elim hz
    | cont => exact False.elim hz
    | ret u =>
      obtain ⟨v, H', os, bare, un, hok', r', q⟩ := hz
      have q2 : v = .bl true := q
      rw [q2] at r'
      have u2 : u = Value.bool true := r'
      rw [u2]
      refine ⟨rfl, OldK.of_keep fun b o e => ?_, os, bare⟩
      rcases hO b with z | ⟨ob, xs, z⟩
      · exact un.keep b o e z (none_in b) (none_in b)
      · have e1 := (hok b _ z).1
        rw [e] at e1
        rw [Option.some.inj e1]
        exact (hok' b _ (un.frzs b ob _ z)).1

theorem law_runs {P : Program} {w : World} {K : Frag} {mg mb : Str → Option Value} {CX : CXT} {k : Nat} {fa a : Addr} {fd : FuncData} {x : Str} {sp : Sp} {s : Shared} {vs : List Value} {ns : List Int}
    (KX : K.In s.heap) (hns : s.heap.Ns mainGlobals mg) (hb : s.heap.Ns builtinsNs mb) (hbb : ∀ y : Str, y ≠ "__name__" → mb y = bootBuiltins y) (hlim : s.heap.NoLimit) (hg : s.gens = #[])
    (ha : s.heap.get? a = some { cls := .type "list", data := .seq vs.toArray }) (hi : IntsAre vs ns) (hl : ns.length ≤ sizeLine) (hr : Room k PySem.callerA)
    (F : ∀ base : Heap, K.In base → base.Ns mainGlobals mg → FnG P w K mg base CX k fa fd [x] sp) (hbind : ∀ (s : Shared) (u : Value), BindsTo s fd ⟨[u], []⟩ [(x, u)])
    (hsp : ∀ H : Hp, Only H → SqL K H a (ns.map V.int) → sp [.ref a] H (fun v _ => v = .bl true) fun _ _ _ => False)
    (hCX : ∀ H e s', CX [] H s (fun _ _ _ => False) e s' → False) :
    codeAny (model P w) PySem.callerA (.call (.ref fa) ⟨[.ref a], []⟩) (fun r s' => r = .ok (.ret (.bool true)) ∧ OldK s.heap s'.heap ∧ s'.os = s.os ∧ AllBare s'.gens) s := by
  have rv := vals_ints hi
  by_cases hk : K.lookup a = none
  · let H : Hp := fun b => if b = a then some (.frz { cls := .type "list", data := .seq vs.toArray } (.lst (ns.map V.int))) else none
    have at_ : H a = some (.frz { cls := .type "list", data := .seq vs.toArray } (.lst (ns.map V.int))) := if_pos rfl
    have other : ∀ b, b ≠ a → H b = none := fun b h => if_neg h
    have hO : Only H := fun b => by
      by_cases q : b = a
      · exact .inr ⟨_, _, by rw [q]; exact at_⟩
      · exact .inl (other b q)
    refine law_from (H := H) KX hns hb hbb hlim hg ha hr F hbind (hsp H hO (.inl (.inr ⟨_, at_⟩))) (hCX H) hO ?_ ?_ fun _ => hk
    · intro b u z
      by_cases q : b = a
      · subst q
        rw [at_] at z
        cases z
        refine ⟨ha, ?_, vs, _, rv, ha⟩
        rw [List.length_map]
        exact hl
      · rw [other b q] at z
        exact nomatch z
    · intro b z
      by_cases q : b = a
      · exact q
      · exact (z (other b q)).elim
  · obtain ⟨o, hk⟩ := Option.ne_none_iff_exists'.mp hk
    have e := KX a o hk
    rw [ha] at e
    cases e
    let H : Hp := fun _ => none
    have hO : Only H := fun _ => .inl rfl
    have hS : SqL K H a (ns.map V.int) := .inr ⟨_, vs.toArray, _, hk, rfl, rfl, rfl, by simpa [hi.length] using hl, by simpa using rv⟩
    exact law_from (H := H) KX hns hb hbb hlim hg ha hr F hbind (hsp H hO hS) (hCX H) hO (fun b u z => nomatch (show (none : Option HO) = some u from z)) (fun b z => (z rfl).elim) fun z => (z rfl).elim

theorem walk_law {l : PySem.W.OpenLaw} {n k : Nat} {q : Program} {loose : List Str} {XP : (Str → Option Value) → Heap → Prop} {YP : World → Heap → Prop} {d : DefRec} {K : Params → Frag} {CX : World → CXT} {sp : World → Sp} {x : Str}
    (hn : l.most = some n) (hn2 : n ≤ sizeLine) (hdf : d.params.defaults = []) (hr : Room k PySem.callerA) (hY : ∀ (w : World) (h : Heap), YP w h → (K w.params).In h)
    (F : ∀ (w : World) (mg : Str → Option Value) (fa : Addr) (h : Heap), (K w.params).In h → h.Ns mainGlobals mg → mg d.name = some (.ref fa) →
      ∃ fd : FuncData, (∀ (s : Shared) (u : Value), BindsTo s fd ⟨[u], []⟩ [(x, u)]) ∧ ∀ base : Heap, (K w.params).In base → base.Ns mainGlobals mg → FnG l.prog w (K w.params) mg base (CX w) k fa fd [x] (sp w))
    (hsp : ∀ (w : World) (H : Hp) (a : Addr) (ns : List Int), ns.length ≤ n → Only H → SqL (K w.params) H a (ns.map V.int) → sp w [.ref a] H (fun v _ => v = .bl true) fun _ _ _ => False)
    (hCX : ∀ (w : World) (H : Hp) (s : Shared) (e : Value) (s' : Shared), CX w [] H s (fun _ _ _ => False) e s' → False) :
    PySem.W.WalkO q loose XP YP l.row.toRowW d [] (fun f vs => PySem.call f vs) := by
  refine Att.attach_call hn hdf ?_
  intro w s₀ s₁ mg mb fa o pm cd doc a vs ns G Y ho hd hcd hmg hobj hints hlen hg
  obtain ⟨fd, hb, hF⟩ := F w mg fa _ (hY w _ Y) G.T.g hmg
  exact law_runs (hY w _ Y) G.T.g G.T.b G.T.builtins G.T.nolimit hg hobj hints (Nat.le_trans hlen hn2) hr hF hb (fun H => hsp w H a ns hlen) fun H => hCX w H s₁
end EL

/- part P2 -/
/-! repr of data, where no repr is under way -/
namespace EL
open PySem PySem.Spec PyProof.Rows L2
open PySem.W (Frag)
mutual
theorem dp_nodict {K : Frag} {H : Hp} : ∀ (d : PyData) (v : V), Dp K H v d → d.hasDict = false
  | .none, _, _ => rfl
  | .bool _, _, _ => rfl
  | .int _, _, _ => rfl
  | .str _, _, _ => rfl
  | .list ds, _, h => by
    cases h with
    | lst _ ha => exact dp_nodictAll ds _ ha
  | .tuple ds, _, h => by
    cases h with
    | tup _ ha => exact dp_nodictAll ds _ ha
  | .dict _, _, h => by cases h
theorem dp_nodictAll {K : Frag} {H : Hp} : ∀ (ds : List PyData) (vs : List V), DpAll K H vs ds → PyData.hasDictAll ds = false
  | [], _, _ => rfl
  | d :: ds, _, h => by
    cases h with
    | cons h1 h2 =>
      show (d.hasDict || PyData.hasDictAll ds) = false
      rw [dp_nodict d _ h1, dp_nodictAll ds _ h2]
      rfl
end
/-- what repr hands back of data -/
def rShow (K : Frag) : List V → Hp → VK → Prop := fun xs H Q => ∃ x d, xs = [x] ∧ Dp K H x d ∧ d.showable = true ∧ d.depth ≤ 50 ∧ d.shown.length ≤ sizeLine ∧ Q (.str d.shown) H
theorem call_show {X : Cx} (hq : Quiet X.A) (hu : X.A.units + 64 < cLine) : CallR X (.builtin "repr") (rShow X.K) := by
  rintro pins s σ H xs us Q I r ⟨x, d, rfl, hd, hs, hdep, hlen, q⟩
  cases r with
  | cons rx rn =>
    rename_i u us
    cases rn
    obtain ⟨as, rd⟩ := Dp.reads I d x u hd rx
    have fin : ∀ t k, EP X pins σ Q (.str d.shown t) { s with toks := k } := fun t k => ⟨V.str d.shown, H, I.tok _, ⟨t, rfl⟩, q⟩
    cases rd with
    | none => exact PySem.P.repr_of_none (fin _ _)
    | bool b => exact PySem.P.repr_of_bool (fin _ _)
    | int i t => exact PySem.P.repr_of_int (by simpa [PyData.showable] using hs) (fin _ _)
    | str y t => exact PySem.P.repr_of_str (fin _ _) hlen
    | list h1 h2 h3 h4 =>
      have nd := dp_nodict _ _ hd
      refine repr_of_reads' (h₀ := s.heap) (.list h1 h2 h3 h4) hs (fun z => by rw [nd] at z; cases z) hq (by omega) (fun _ _ e => e) ?_ hlen
      intro h' t tk k
      exact ⟨V.str _, H, I.kept k, ⟨t, rfl⟩, q⟩
    | tuple h1 h2 h3 h4 =>
      have nd := dp_nodict _ _ hd
      refine repr_of_reads' (h₀ := s.heap) (.tuple h1 h2 h3 h4) hs (fun z => by rw [nd] at z; cases z) hq (by omega) (fun _ _ e => e) ?_ hlen
      intro h' t tk k
      exact ⟨V.str _, H, I.kept k, ⟨t, rfl⟩, q⟩
    | dict h1 h2 h3 h4 h5 => cases hd
theorem call_showE {X : Cx} (hq : Quiet X.A) (hu : X.A.units + 64 < cLine) : CallR X (.builtin "repr") (fun xs H Q => ∃ p, xs = [.ref p] ∧ H p = some (.dK []) ∧ Q (.str (PyData.dict []).shown) H) := by
  rintro pins s σ H xs us Q I r ⟨p, rfl, hp, q⟩
  cases r with
  | cons rx rn =>
    rename_i u us
    cases rn
    cases rx
    obtain ⟨_, ns, vs, kv, o, es, ep, ho, ex, hd, _, pr, _⟩ := I.hok p _ hp
    cases kv
    have e0 : es.toList = [] := by
      generalize es.toList = l at pr
      cases pr
      rfl
    have e1 : es = #[] := Array.toList_inj.mp e0
    subst e1
    have hz : X.A.units + ((PyData.dict []).depth + 1) < cLine := by
      have z : (PyData.dict []).depth ≤ 50 := by decide +kernel
      omega
    refine repr_of_reads' (d := .dict []) (h₀ := s.heap) (.dict ho ex.1 hd .nil .nil) (by decide +kernel) (fun _ z => ?_) hq hz (fun _ _ e => e) ?_ (by decide +kernel)
    · have z' : sysModules = p := by simpa using z
      rw [← z'] at ns
      exact absurd ns (by decide)
    · intro h' t tk k
      exact ⟨V.str _, H, I.kept k, ⟨t, rfl⟩, q⟩
/-- repr of data, or of an empty dict -/
def rShowU (K : Frag) : List V → Hp → VK → Prop := fun xs H Q => rShow K xs H Q ∨ ∃ p, xs = [.ref p] ∧ H p = some (.dK []) ∧ Q (.str (PyData.dict []).shown) H
theorem u_show {X : Cx} (hq : Quiet X.A) (hu : X.A.units + 64 < cLine) : CallR X (.builtin "repr") (rShowU X.K) := (call_show hq hu).or (call_showE hq hu)
end EL

/- part E1 -/
/-! enumerate(v, start=k): how it is made -/
namespace EL
open PySem PySem.Spec PyProof.Rows L2
open PySem.W (Frag)
theorem tcall_enum_kw (a b : Value) : checkTypeCall "enumerate" ⟨[a], [("start", b)]⟩ = pure () := by kernel_rfl
theorem ncall_enum_kw (a b : Value) : checkBuiltinCall "enumerate.__new__" ⟨[.type "enumerate", a], [("start", b)]⟩ = pure () := by kernel_rfl
/-- the enumerate object, before its first turn -/
abbrev enumObj (r : Value) (k : Int) : Obj := { cls := .type "enumerate", data := .fields #[.none, .bool false, r, rawInt k, .none, .none] }
set_option maxHeartbeats 2000000 in
theorem meets_enum_kw {v : Value} {rv : Heap → Value} {f : Heap → Heap} {W : Heap → Prop}
    (IT : ∀ (prog : Program) (w : World) (A : Around) (E : Value → Shared → Prop) (s : Shared) (Q : Value → Shared → Prop), W s.heap → Q (rv s.heap) { s with heap := f s.heap } → wpAny (model prog w) A (pyIter v) Q E s)
    (k : Int) (t : Tok) (fit : Builtin.SmallTypes.fitsIndex k = true) :
    Meets (Builtin.«enumerate.__new__» ⟨[.type "enumerate", v], [("start", .int k t)]⟩) (fun _ R s => W s.heap ∧ R (.ok (.ret (.ref (f s.heap).objs.size))) { s with heap := (f s.heap).push (enumObj (rv s.heap) k) }) :=
  .of_wp fun prog w A R s h => by
    obtain ⟨hp, g, d, tk, os⟩ := s
    obtain ⟨h1, h⟩ := h
    have sub := sub_enumerate
    have nf : (!Builtin.SmallTypes.fitsIndex k) = false := by rw [fit]; rfl
    have go : ∀ {A' : Around} {E : Value → Shared → Prop} {Q : Value → Shared → Prop}, Q (rv hp) ⟨f hp, g, d, tk, os⟩ → wpAny (model prog w) A' (pyIter v) Q E ⟨hp, g, d, tk, os⟩ := fun q => IT prog w _ _ ⟨hp, g, d, tk, os⟩ _ h1 q
    wp_walk using go
    refine wpAny_stack_any fun st => wpAny_pure ?_
    split
    · rename_i c _ _ _ _ _
      cases (c == Value.type "enumerate")
      · wp_walk using go
        exact ⟨_, rfl, h⟩
      · wp_walk using go
        exact ⟨_, rfl, h⟩
    · wp_walk using go
      exact ⟨_, rfl, h⟩
end EL

/- part E2 -/
/-! enumerate over any iterator: one turn; zip over two tuples whose pair may still be about -/
namespace EL
open PySem PySem.Spec PyProof.Rows L2
open PySem.W (Frag)
section
variable {prog : Program} {w : World} {A : Around} {E : Value → Shared → Prop} {s : Shared}
theorem alive {a : Addr} {Q : Option Obj → Shared → Prop} (h : Q (s.heap.get? a) s) : wpAny (model prog w) A (loadIfAlive a) Q E s := fun _ _ _ => h
theorem enum_turn {e it : Addr} {c : Int} {old : Value} {R : Value → Heap → Prop} {Q : Value → Shared → Prop} (he : IsEnum s.heap e it c old)
    (inner : ∀ (Q' E' : Value → Shared → Prop), (∀ x h1 tk, IsEnum h1 e it c old → R x h1 → Q' x { s with heap := h1, toks := tk }) → wpAny (model prog w) A (Builtin.SmallTypes.nextOf (.ref it)) Q' E' s)
    (hQ : ∀ x h1 h' tk, R x h1 → e < h1.objs.size → IsEnumOut h' e it (c + 1) x h1.objs.size → h'.get? h1.objs.size = some { cls := .type "tuple", data := .seq #[.int c tk, x] } → h'.objs.size = h1.objs.size + 1 →
      (∀ b o, b ≠ e → h1.get? b = some o → h'.get? b = some o) → Q (.ref h1.objs.size) { s with heap := h', toks := tk + 1 }) :
    wpAny (model prog w) A (Builtin.«enumerate.__next__» ⟨[.ref e], []⟩) (fun fin s' => ∃ v, fin = .done (.ret v) ∧ Q v s') E s := by
  obtain ⟨hp, g, d, tk0, os⟩ := s
  refine wpAny_bind (m := field (.ref e) 2) (wpAny_field he rfl (x := .ref it) rfl (wpAny_bind (inner _ _ fun x h1 tk e1 r1 => ?_)))
  have lt : e < h1.objs.size := Heap.lt_size e1
  refine wpAny_bind (m := field (.ref e) 3) (wpAny_field e1 rfl (x := rawInt c) rfl ?_)
  refine wpAny_bind (m := field (.ref e) 4) (wpAny_field e1 rfl (x := .none) rfl ?_)
  refine wpAny_bind (m := mkInt c) (wpAny_mkInt ?_)
  refine wpAny_bind (m := setField (.ref e) 3 (rawInt (c + 1))) (wpAny_setField_rec e1 (by simp) fun h2 e2 k2 => ?_)
  have e2' : IsEnum h2 e it (c + 1) old := e2
  refine wpAny_bind (m := setField (.ref e) 4 .none) (wpAny_setField_rec e2' (by simp) fun h3 e3 k3 => ?_)
  have e3' : IsEnum h3 e it (c + 1) old := e3
  have z3 : h3.objs.size = h1.objs.size := k3.1.trans k2.1
  have up3 : ∀ b o, b ≠ e → h1.get? b = some o → h3.get? b = some o := fun b o hb q => Heap.SameBut.extBut k3 b o hb (Heap.SameBut.extBut k2 b o hb q)
  refine wpAny_bind (m := newTuple [.int c tk, x]) (wpAny_newTuple ?_)
  have e4 : IsEnum (h3.push { cls := .type "tuple", data := .seq #[.int c tk, x] }) e it (c + 1) old := Heap.get?_push_of_some _ e3'
  have t4 : (h3.push { cls := .type "tuple", data := .seq #[.int c tk, x] }).get? h1.objs.size = some { cls := .type "tuple", data := .seq #[.int c tk, x] } := by
    have q := Heap.get?_push_size h3 (o := { cls := .type "tuple", data := .seq #[.int c tk, x] }) rfl
    rw [z3] at q
    exact q
  have s4 : (h3.push { cls := .type "tuple", data := .seq #[.int c tk, x] }).objs.size = h1.objs.size + 1 := (Heap.size_push ..).trans (by rw [z3])
  have up4 : ∀ b o, b ≠ e → h1.get? b = some o → (h3.push { cls := .type "tuple", data := .seq #[.int c tk, x] }).get? b = some o := fun b o hb q => Heap.get?_push_of_some _ (up3 b o hb q)
  refine wpAny_bind (m := Builtin.SmallTypes.ownedTupleIsFree (.ref e)) ?_
  unfold Builtin.SmallTypes.ownedTupleIsFree
  refine wpAny_bind (m := field (.ref e) 0) (wpAny_field e4 rfl (x := .none) rfl (wpAny_pure ?_))
  rw [if_pos rfl]
  refine wpAny_bind (wpAny_rule (wpAny_bind (wpAny_field e4 rfl (x := old) rfl (wpAny_bind (wpAny_setField_rec e4 (by simp) fun h5 e5 k5 => ?_)))))
  have e5' : IsEnum h5 e it (c + 1) x := e5
  show wpAny _ _ (Builtin.SmallTypes.ownedTupleHandOut (.ref e) (.ref h3.objs.size) >>= _) _ _ _
  rw [z3]
  refine wpAny_bind ?_
  unfold Builtin.SmallTypes.ownedTupleHandOut
  refine wpAny_bind (wpAny_setField_rec e5' (by simp) fun h6 e6 k6 => wpAny_setField_rec e6 (by simp) fun h7 e7 k7 => ?_)
  have up : ∀ b o, b ≠ e → h1.get? b = some o → h7.get? b = some o := fun b o hb q =>
    Heap.SameBut.extBut k7 b o hb (Heap.SameBut.extBut k6 b o hb (Heap.SameBut.extBut k5 b o hb (up4 b o hb q)))
  have ne : h1.objs.size ≠ e := Nat.ne_of_gt lt
  refine wpAny_bind (wpAny_letGo (wpAny_pure ⟨_, rfl, hQ x h1 h7 tk r1 lt e7 ?_ ?_ up⟩))
  · exact Heap.SameBut.extBut k7 _ _ ne (Heap.SameBut.extBut k6 _ _ ne (Heap.SameBut.extBut k5 _ _ ne t4))
  · exact k7.1.trans (k6.1.trans (k5.1.trans s4))
end
end EL

/- part E3 -/
/-! one turn of zip(t1, t2), whatever became of the pair that it handed out last -/
namespace EL
open PySem PySem.Spec PyProof.Rows L2
open PySem.W (Frag)
/-- a zip object; f0 tells the pair that is out, b that it was met alive -/
abbrev zipObj (f0 : Value) (b : Bool) (TI TO : Addr) : Obj := { cls := .type "zip", dict := none, data := .fields #[f0, .bool b, .bool false, .ref TI, .ref TO], slots := #[] }
def OutMark (f0 : Value) : Prop := f0 = .none ∨ ∃ a : Addr, f0 = rawInt a
def ZipAt (h : Heap) (z TI TO : Addr) : Prop := ∃ f0 b, h.get? z = some (zipObj f0 b TI TO) ∧ OutMark f0
/-- the cells of the zip and of its two iterators lie apart -/
structure Apart (z TI TO i1 i2 t1 t2 : Addr) : Prop where
  zTI : z ≠ TI
  zTO : z ≠ TO
  zi1 : z ≠ i1
  zi2 : z ≠ i2
  zt1 : z ≠ t1
  zt2 : z ≠ t2
  TITO : TI ≠ TO
  TIi1 : TI ≠ i1
  TIi2 : TI ≠ i2
  TOi1 : TO ≠ i1
  TOi2 : TO ≠ i2
  TOt1 : TO ≠ t1
  TOt2 : TO ≠ t2
  i12 : i1 ≠ i2
  t1i1 : t1 ≠ i1
  t1i2 : t1 ≠ i2
  t2i1 : t2 ≠ i1
  t2i2 : t2 ≠ i2
section
variable {prog : Program} {w : World} {A : Around} {E : Value → Shared → Prop} {s : Shared} {z TI TO i1 i2 t1 t2 : Addr} {xs ys : Array Value} {i : Nat}
/-- what the zip stands on -/
structure ZipSt (h : Heap) (z TI TO i1 i2 t1 t2 : Addr) (xs ys : Array Value) (i : Nat) : Prop where
  zip : ZipAt h z TI TO
  ti : IsTupOf2 h TI (.ref i1) (.ref i2)
  to : ∃ a b, IsTupOf2 h TO a b
  it1 : h.IsTupleIter i1 t1 i
  it2 : h.IsTupleIter i2 t2 i
  tu1 : h.IsTuple t1 xs
  tu2 : h.IsTuple t2 ys
theorem ext_of {x : Addr} {h h' : Heap} (k : Heap.SameBut x h h') : ∀ b o, b ≠ x → h.get? b = some o → h'.get? b = some o := fun b o hb q => Heap.SameBut.extBut k b o hb q
/-- whether the pair is free: if not, the zip notes it -/
theorem free_or {f0 : Value} {b : Bool} {Q : Bool → Shared → Prop} (hz : s.heap.get? z = some (zipObj f0 b TI TO)) (mark : OutMark f0)
    (h1 : Q true s) (h2 : ∀ h' b', h'.get? z = some (zipObj f0 b' TI TO) → h'.objs.size = s.heap.objs.size → (∀ c o, c ≠ z → s.heap.get? c = some o → h'.get? c = some o) → Q false { s with heap := h' }) :
    wpAny (model prog w) A (Builtin.SmallTypes.ownedTupleIsFree (.ref z)) Q E s := by
  unfold Builtin.SmallTypes.ownedTupleIsFree
  rcases mark with rfl | ⟨a, rfl⟩
  · exact wpAny_bind (wpAny_field hz rfl (x := .none) rfl (wpAny_pure h1))
  · refine wpAny_bind (wpAny_field hz rfl (x := rawInt a) rfl ?_)
    refine wpAny_bind (alive ?_)
    have ea : ((a : Nat) : Int).toNat = a := rfl
    cases hal : s.heap.get? ((a : Nat) : Int).toNat with
    | none => exact wpAny_pure h1
    | some o =>
      refine wpAny_bind (m := field (.ref z) 1) (wpAny_field hz rfl (x := .bool b) rfl ?_)
      cases b with
      | true => exact wpAny_pure (h2 s.heap true hz rfl fun _ _ _ q => q)
      | false =>
        refine wpAny_bind (m := setField (.ref z) 1 (.bool true)) (wpAny_setField_rec hz (by simp) fun h' e' k' => wpAny_pure ?_)
        exact h2 h' true e' k'.1 (ext_of k')
theorem drawn {it t : Addr} {vs : Array Value} {v : Value} {Q : Value → Shared → Prop} (hit : s.heap.IsTupleIter it t i) (ht : s.heap.IsTuple t vs) (hv : vs[i]? = some v)
    (h : ∀ h', h'.IsTupleIter it t (i + 1) → Heap.SameBut it s.heap h' → Q v { s with heap := h' }) : wpAny (model prog w) A (Builtin.SmallTypes.nextOf (.ref it)) Q E s :=
  wpAny_nextOf_tuple_item hit ht hv h
theorem zip_turn {x y : Value} {Q : Value → Shared → Prop} (ap : Apart z TI TO i1 i2 t1 t2) (st : ZipSt s.heap z TI TO i1 i2 t1 t2 xs ys i) (hx : xs[i]? = some x) (hy : ys[i]? = some y)
    (hQ : ∀ h' tk, ZipSt h' z TI TO i1 i2 t1 t2 xs ys (i + 1) → IsTupOf2 h' s.heap.objs.size x y → h'.objs.size = s.heap.objs.size + 1 →
      (∀ c o, c ≠ z → c ≠ TO → c ≠ i1 → c ≠ i2 → s.heap.get? c = some o → h'.get? c = some o) → Q (.ref s.heap.objs.size) { s with heap := h', toks := tk }) :
    wpAny (model prog w) A (Builtin.«zip.__next__» ⟨[.ref z], []⟩) (fun fin s' => ∃ v, fin = .done (.ret v) ∧ Q v s') E s := by
  obtain ⟨⟨f0, b, hz, mark⟩, hti, ⟨a0, b0, hto⟩, h1, h2, u1, u2⟩ := st
  obtain ⟨hp, g, d, tk0, os⟩ := s
  replace hz : hp.get? z = some (zipObj f0 b TI TO) := hz
  replace hti : IsTupOf2 hp TI (.ref i1) (.ref i2) := hti
  replace hto : IsTupOf2 hp TO a0 b0 := hto
  replace h1 : hp.IsTupleIter i1 t1 i := h1
  replace h2 : hp.IsTupleIter i2 t2 i := h2
  replace u1 : hp.IsTuple t1 xs := u1
  replace u2 : hp.IsTuple t2 ys := u2
  refine wpAny_bind (m := field (.ref z) 2) (wpAny_field hz rfl (x := .bool false) rfl ?_)
  refine wpAny_bind (m := field (.ref z) 3) (wpAny_field hz rfl (x := .ref TI) rfl ?_)
  refine wpAny_bind (wpAny_seqItems hti rfl ?_)
  have lz : z < hp.objs.size := Heap.lt_size hz
  have an := ap
  refine wpAny_bind (free_or hz mark ?_ ?_)
  · rw [if_pos rfl]
    refine wpAny_bind (wpAny_rule (wpAny_bind (wpAny_field hz rfl (x := .ref TO) rfl (wpAny_bind (wpAny_setField_rec hz (by simp) fun g0 z0 k0 => ?_)))))
    replace z0 : g0.get? z = some (zipObj .ellipsis b TI TO) := z0
    replace k0 : Heap.SameBut z hp g0 := k0
    refine wpAny_bind ?_
    simp only [List.zipIdx_cons, List.zipIdx_nil, List.forIn_cons, List.forIn_nil]
    refine wpAny_bind (wpAny_bind (wpAny_onRaise ?_))
    show wpAny _ _ (Builtin.SmallTypes.nextOf (.ref i1) >>= _) _ _ ⟨g0, g, d, tk0, os⟩
    refine wpAny_bind (drawn (s := ⟨g0, g, d, tk0, os⟩) (h1.at fun o q => ext_of k0 _ _ ap.zi1.symm q) (u1.at fun o q => ext_of k0 _ _ ap.zt1.symm q) hx fun g1 n1 k1 => wpAny_pure ?_)
    replace k1 : Heap.SameBut i1 g0 g1 := k1
    have to1 : IsTupOf2 g1 TO a0 b0 := ext_of k1 _ _ ap.TOi1 (ext_of k0 _ _ ap.zTO.symm hto)
    refine wpAny_bind (wpAny_seqItems (s := ⟨g1, g, d, tk0, os⟩) to1 rfl ?_)
    refine wpAny_bind (updateSeq_IsTupOf2 (s := ⟨g1, g, d, tk0, os⟩) to1 fun g2 to2 k2 => ?_)
    replace k2 : Heap.SameBut TO g1 g2 := k2
    replace to2 : IsTupOf2 g2 TO x b0 := to2
    refine wpAny_bind (wpAny_letGo (wpAny_pure ?_))
    refine wpAny_bind (wpAny_bind (wpAny_onRaise ?_))
    show wpAny _ _ (Builtin.SmallTypes.nextOf (.ref i2) >>= _) _ _ ⟨g2, g, d, tk0, os⟩
    refine wpAny_bind (drawn (s := ⟨g2, g, d, tk0, os⟩) (h2.at fun o q => ext_of k2 _ _ ap.TOi2.symm (ext_of k1 _ _ ap.i12.symm (ext_of k0 _ _ ap.zi2.symm q)))
      (u2.at fun o q => ext_of k2 _ _ ap.TOt2.symm (ext_of k1 _ _ ap.t2i1 (ext_of k0 _ _ ap.zt2.symm q))) hy fun g3 n3 k3 => wpAny_pure ?_)
    replace k3 : Heap.SameBut i2 g2 g3 := k3
    have to3 : IsTupOf2 g3 TO x b0 := ext_of k3 _ _ ap.TOi2 to2
    refine wpAny_bind (wpAny_seqItems (s := ⟨g3, g, d, tk0, os⟩) to3 rfl ?_)
    refine wpAny_bind (updateSeq_IsTupOf2 (s := ⟨g3, g, d, tk0, os⟩) to3 fun g4 to4 k4 => ?_)
    replace k4 : Heap.SameBut TO g3 g4 := k4
    replace to4 : IsTupOf2 g4 TO x y := to4
    refine wpAny_bind (wpAny_letGo (wpAny_pure (wpAny_pure ?_)))
    refine wpAny_bind (wpAny_seqItems (s := ⟨g4, g, d, tk0, os⟩) to4 rfl (wpAny_bind (wpAny_newTuple ?_)))
    have z4 : g4.objs.size = hp.objs.size := by rw [k4.1, k3.1, k2.1, k1.1, k0.1]
    have up4 : ∀ c o, c ≠ z → c ≠ TO → c ≠ i1 → c ≠ i2 → hp.get? c = some o → g4.get? c = some o := fun c o cz cT c1 c2 q =>
      ext_of k4 _ _ cT (ext_of k3 _ _ c2 (ext_of k2 _ _ cT (ext_of k1 _ _ c1 (ext_of k0 _ _ cz q))))
    have zz4 : g4.get? z = some (zipObj .ellipsis b TI TO) := ext_of k4 _ _ ap.zTO (ext_of k3 _ _ ap.zi2 (ext_of k2 _ _ ap.zTO (ext_of k1 _ _ ap.zi1 z0)))
    generalize e5 : g4.push { cls := .type "tuple", data := .seq (#[x, y] : Array Value) } = g5
    have up5 : ∀ c o, g4.get? c = some o → g5.get? c = some o := fun c o q => by rw [← e5]; exact Heap.get?_push_of_some _ q
    have tt5 : IsTupOf2 g5 hp.objs.size x y := by rw [← e5, ← z4]; exact Heap.get?_push_size _ rfl
    have z5 : g5.objs.size = hp.objs.size + 1 := by rw [← e5, Heap.size_push, z4]
    refine wpAny_bind ?_
    show wpAny _ _ (Builtin.SmallTypes.ownedTupleHandOut (.ref z) (.ref g4.objs.size)) _ _ _
    unfold Builtin.SmallTypes.ownedTupleHandOut
    have z5' : g5.get? z = some (zipObj .ellipsis b TI TO) := up5 _ _ zz4
    refine wpAny_bind (wpAny_setField_rec z5' (by simp) fun g6 z6 k6 => ?_)
    replace k6 : Heap.SameBut z g5 g6 := k6
    refine wpAny_setField_rec z6 (by simp) fun g7 z7 k7 => ?_
    replace k7 : Heap.SameBut z g6 g7 := k7
    have up7 : ∀ c o, c ≠ z → g4.get? c = some o → g7.get? c = some o := fun c o cz q => ext_of k7 _ _ cz (ext_of k6 _ _ cz (up5 _ _ q))
    have nz : hp.objs.size ≠ z := Nat.ne_of_gt lz
    refine wpAny_pure ⟨_, rfl, ?_⟩
    show Q (.ref g4.objs.size) ⟨g7, g, d, tk0, os⟩
    rw [z4]
    refine hQ g7 tk0 ⟨⟨rawInt g4.objs.size, false, z7, .inr ⟨_, rfl⟩⟩, ?_, ⟨x, y, up7 _ _ ap.zTO.symm to4⟩, ?_, ?_, ?_, ?_⟩ ?_ ?_ ?_
    · exact up7 _ _ ap.zTI.symm (up4 _ _ ap.zTI.symm ap.TITO ap.TIi1 ap.TIi2 hti)
    · exact n1.at fun o q => up7 _ _ ap.zi1.symm (ext_of k4 _ _ ap.TOi1.symm (ext_of k3 _ _ ap.i12 (ext_of k2 _ _ ap.TOi1.symm q)))
    · exact n3.at fun o q => up7 _ _ ap.zi2.symm (ext_of k4 _ _ ap.TOi2.symm q)
    · exact u1.at fun o q => up7 _ _ ap.zt1.symm (up4 _ _ ap.zt1.symm ap.TOt1.symm ap.t1i1 ap.t1i2 q)
    · exact u2.at fun o q => up7 _ _ ap.zt2.symm (up4 _ _ ap.zt2.symm ap.TOt2.symm ap.t2i1 ap.t2i2 q)
    · exact ext_of k7 _ _ nz (ext_of k6 _ _ nz tt5)
    · rw [k7.1, k6.1, z5]
    · exact fun c o cz cT c1 c2 q => up7 _ _ cz (up4 c o cz cT c1 c2 q)
  · intro h0 b' z0 s0 k0
    replace s0 : h0.objs.size = hp.objs.size := s0
    replace k0 : ∀ c o, c ≠ z → hp.get? c = some o → h0.get? c = some o := k0
    rw [if_neg (by decide)]
    refine wpAny_bind ?_
    simp only [List.forIn_toArray, List.forIn_cons, List.forIn_nil]
    refine wpAny_bind (wpAny_bind (wpAny_holding ?_))
    show wpAny _ _ (Builtin.SmallTypes.nextOf (.ref i1) >>= _) _ _ ⟨h0, g, d, tk0, os⟩
    refine wpAny_bind (drawn (s := ⟨h0, g, d, tk0, os⟩) (h1.at fun o q => k0 _ _ ap.zi1.symm q) (u1.at fun o q => k0 _ _ ap.zt1.symm q) hx fun g1 n1 k1 => wpAny_pure ?_)
    replace k1 : Heap.SameBut i1 h0 g1 := k1
    refine wpAny_pure ?_
    refine wpAny_bind (wpAny_bind (wpAny_holding ?_))
    show wpAny _ _ (Builtin.SmallTypes.nextOf (.ref i2) >>= _) _ _ ⟨g1, g, d, tk0, os⟩
    refine wpAny_bind (drawn (s := ⟨g1, g, d, tk0, os⟩) (h2.at fun o q => ext_of k1 _ _ ap.i12.symm (k0 _ _ ap.zi2.symm q)) (u2.at fun o q => ext_of k1 _ _ ap.t2i1 (k0 _ _ ap.zt2.symm q)) hy fun g2 n2 k2 => wpAny_pure ?_)
    replace k2 : Heap.SameBut i2 g1 g2 := k2
    refine wpAny_pure (wpAny_pure ?_)
    refine wpAny_bind (wpAny_newTuple ?_ (by show 2 ≤ sizeLine; decide))
    have z2 : g2.objs.size = hp.objs.size := by rw [k2.1, k1.1, s0]
    have up : ∀ c o, c ≠ z → c ≠ i1 → c ≠ i2 → hp.get? c = some o → (g2.push { cls := .type "tuple", data := .seq (#[x, y] : Array Value) }).get? c = some o := fun c o cz c1 c2 q =>
      Heap.get?_push_of_some _ (ext_of k2 _ _ c2 (ext_of k1 _ _ c1 (k0 _ _ cz q)))
    refine wpAny_pure ⟨_, rfl, ?_⟩
    show Q (.ref g2.objs.size) ⟨g2.push { cls := .type "tuple", data := .seq (#[x, y] : Array Value) }, g, d, tk0, os⟩
    rw [z2]
    refine hQ _ tk0 ⟨⟨f0, b', Heap.get?_push_of_some _ (ext_of k2 _ _ ap.zi2 (ext_of k1 _ _ ap.zi1 z0)), mark⟩, up _ _ ap.zTI.symm ap.TIi1 ap.TIi2 hti, ⟨a0, b0, up _ _ ap.zTO.symm ap.TOi1 ap.TOi2 hto⟩, ?_, ?_, ?_, ?_⟩ ?_ ?_ ?_
    · exact n1.at fun o q => Heap.get?_push_of_some _ (ext_of k2 _ _ ap.i12 q)
    · exact n2.at fun o q => Heap.get?_push_of_some _ q
    · exact u1.at fun o q => up _ _ ap.zt1.symm ap.t1i1 ap.t1i2 q
    · exact u2.at fun o q => up _ _ ap.zt2.symm ap.t2i1 ap.t2i2 q
    · have q := Heap.get?_push_size g2 (o := { cls := .type "tuple", data := .seq (#[x, y] : Array Value) }) rfl
      rw [z2] at q
      exact q
    · rw [Heap.size_push, z2]
    · exact fun c o cz cT c1 c2 q => up c o cz c1 c2 q
end
end EL

/- part E4 -/
/-! for i, x in enumerate(t, start=k) over a tuple; for i, (x, y) in enumerate(zip(t, u), start=k) over two tuples of one length -/
namespace EL
open PySem PySem.Spec PyProof.Rows L2
open PySem.W (Frag)
section
variable {prog : Program} {w : World} {A : Around} {E : Value → Shared → Prop} {s : Shared} {z TI TO i1 i2 t1 t2 : Addr} {xs ys : Array Value} {i : Nat}
theorem zip_over {Q : Fin → Shared → Prop} (hh : A.handled = none) (ap : Apart z TI TO i1 i2 t1 t2) (st : ZipSt s.heap z TI TO i1 i2 t1 t2 xs ys i) (hx : xs[i]? = none)
    (hE : ∀ h' e, (∀ c o, c ≠ z → c ≠ TO → c ≠ i1 → c ≠ i2 → s.heap.get? c = some o → h'.get? c = some o) → (∃ o, h'.get? e = some o ∧ o.cls = .type "StopIteration") → E (.ref e) { s with heap := h' }) :
    wpAny (model prog w) A (Builtin.«zip.__next__» ⟨[.ref z], []⟩) Q E s := by
  obtain ⟨⟨f0, b, hz, mark⟩, hti, ⟨a0, b0, hto⟩, h1, h2, u1, u2⟩ := st
  obtain ⟨hp, g, d, tk0, os⟩ := s
  replace hz : hp.get? z = some (zipObj f0 b TI TO) := hz
  replace h1 : hp.IsTupleIter i1 t1 i := h1
  replace u1 : hp.IsTuple t1 xs := u1
  refine wpAny_bind (m := field (.ref z) 2) (wpAny_field hz rfl (x := .bool false) rfl ?_)
  refine wpAny_bind (m := field (.ref z) 3) (wpAny_field hz rfl (x := .ref TI) rfl ?_)
  refine wpAny_bind (wpAny_seqItems hti rfl ?_)
  refine wpAny_bind (free_or hz mark ?_ ?_)
  · rw [if_pos rfl]
    refine wpAny_bind (wpAny_rule (wpAny_bind (wpAny_field hz rfl (x := .ref TO) rfl (wpAny_bind (wpAny_setField_rec hz (by simp) fun g0 z0 k0 => ?_)))))
    replace z0 : g0.get? z = some (zipObj .ellipsis b TI TO) := z0
    replace k0 : Heap.SameBut z hp g0 := k0
    refine wpAny_bind ?_
    simp only [List.zipIdx_cons, List.zipIdx_nil, List.forIn_cons, List.forIn_nil]
    refine wpAny_bind (wpAny_bind (wpAny_onRaise ?_))
    show wpAny _ _ (Builtin.SmallTypes.nextOf (.ref i1) >>= _) _ _ ⟨g0, g, d, tk0, os⟩
    refine wpAny_bind (wpAny_nextOf_tuple_end (s := ⟨g0, g, d, tk0, os⟩) hh (h1.at fun o q => ext_of k0 _ _ ap.zi1.symm q) (u1.at fun o q => ext_of k0 _ _ ap.zt1.symm q) hx fun g1 e k1 he => ?_)
    replace k1 : Heap.ExtBut i1 g0 g1 := k1
    obtain ⟨oe, he, hc⟩ := he
    replace he : g1.get? e = some oe := he
    have z1 : g1.get? z = some (zipObj .ellipsis b TI TO) := k1 _ _ ap.zi1 z0
    have ez : e ≠ z := by
      rintro rfl
      rw [z1] at he
      cases he
      simp at hc
    refine wpAny_setField_rec (s := ⟨g1, g, d, tk0, os⟩) z1 (by simp) fun g2 _ k2 => ?_
    replace k2 : Heap.SameBut z g1 g2 := k2
    exact hE g2 e (fun c o cz cT c1 c2 q => ext_of k2 _ _ cz (k1 _ _ c1 (ext_of k0 _ _ cz q))) ⟨oe, ext_of k2 _ _ ez he, hc⟩
  · intro h0 b' z0 s0 k0
    replace k0 : ∀ c o, c ≠ z → hp.get? c = some o → h0.get? c = some o := k0
    rw [if_neg (by decide)]
    refine wpAny_bind ?_
    simp only [List.forIn_toArray, List.forIn_cons, List.forIn_nil]
    refine wpAny_bind (wpAny_bind (wpAny_holding ?_))
    show wpAny _ _ (Builtin.SmallTypes.nextOf (.ref i1) >>= _) _ _ ⟨h0, g, d, tk0, os⟩
    refine wpAny_bind (wpAny_nextOf_tuple_end (s := ⟨h0, g, d, tk0, os⟩) hh (h1.at fun o q => k0 _ _ ap.zi1.symm q) (u1.at fun o q => k0 _ _ ap.zt1.symm q) hx fun g1 e k1 he => ?_)
    replace k1 : Heap.ExtBut i1 h0 g1 := k1
    exact hE g1 e (fun c o cz cT c1 c2 q => k1 _ _ c1 (k0 _ _ cz q)) he
theorem zipType {f0 : Value} {b : Bool} (hz : s.heap.get? z = some (zipObj f0 b TI TO)) : s.TypeIs (.ref z) "zip" := ⟨_, hz, rfl⟩
/-- next(z) within a built-in -/
theorem zip_drawn {Q E' : Value → Shared → Prop} (hz : ZipAt s.heap z TI TO) (h : wpAny (model prog w) A.in1 (Builtin.«zip.__next__» ⟨[.ref z], []⟩) (fun fin s' => ∃ v, fin = .done (.ret v) ∧ Q v s') E' s) :
    wpAny (model prog w) A (Builtin.SmallTypes.nextOf (.ref z)) Q E' s := by
  obtain ⟨f0, b, e, _⟩ := hz
  unfold Builtin.SmallTypes.nextOf
  refine wpAny_bind (wpAny_callSpecial?_slot (name := Str.ofString "__next__") (zipType e) F.slot_zip_next (wpAny_call_entry F.slot_zip_next (zipType e) F.entry_zip_next ?_ (F.args_zip_next_1 _)))
  refine wpAny_mono h ?_ (fun _ _ q => q)
  rintro fin s' ⟨v, rfl, q⟩
  exact ⟨v, rfl, wpAny_pure q⟩
theorem zip_itself {Q : Value → Shared → Prop} (hz : ZipAt s.heap z TI TO) (h : Q (.ref z) s) : wpAny (model prog w) A (pyIter (.ref z)) Q E s := by
  obtain ⟨f0, b, e, _⟩ := hz
  exact wpAny_pyIter_slot (zipType e) F.slot_zip_iter (wpAny_call_entry F.slot_zip_iter (zipType e) F.entry_zip_iter (wpAny_pure ⟨_, rfl, "zip", _, zipType e, F.slot_zip_next.lookup, h⟩) (F.args_zip_iter_1 _))
end
/-- enumerate(v, start=k) as a call -/
theorem enum_made {prog : Program} {w : World} {A : Around} {E : Value → Shared → Prop} {s : Shared} {v : Value} {rv : Heap → Value} {f : Heap → Heap} {W : Heap → Prop} {k : Int} {t : Tok} {Q : Value → Shared → Prop}
    (IT : ∀ (prog : Program) (w : World) (A : Around) (E : Value → Shared → Prop) (s : Shared) (Q : Value → Shared → Prop), W s.heap → Q (rv s.heap) { s with heap := f s.heap } → wpAny (model prog w) A (pyIter v) Q E s)
    (h0 : -(2 ^ 63) ≤ k) (h1 : k < 2 ^ 63) (hw : W s.heap)
    (h : Q (.ref (f s.heap).objs.size) { s with heap := (f s.heap).push (enumObj (rv s.heap) k) }) :
    wpAny (model prog w) A (call (.type "enumerate") [v] [(Str.ofString "start", .int k t)]) Q E s := by
  refine callType_newKw F.called_enumerate (by decide) (F.typeCall_enumerate_start _ _) (F.newCall_enumerate_start _ _) (fun obj => F.args_object_init_start obj _ _) F.entry_enumerate_new (meets_enum_kw IT k t (fits_start h0 h1)) ⟨hw, ?_⟩
  exact ⟨⟨_, Heap.get?_push_size _ rfl, rfl⟩, h⟩
/-- the keyword call of a built-in type -/
theorem callType_kw {M : Model} {A : Around} {E : Value → Shared → Prop} {s : Shared} {env : Env} {pos : Pos} {T : String} {e : Expr} {rest : List Expr} {kws : List Keyword} {Q : Value → Shared → Prop}
    (h : wpAny M A (spliced (backTo pos (starEach (e :: rest) env))) (fun vs s1 => wpAny M A (evalAll ((backToKw pos (keywordEach kws env)).map (·.2)))
      (fun us s2 => wpAny M A (call (.type T) vs (((backToKw pos (keywordEach kws env)).filterMap (·.1)).zip us)) Q E s2) E s1) E s)
    (he : starEach (e :: rest) env = (false, eval e env) :: starEach rest env) (hp : (backTo pos (starEach (e :: rest) env)).any (·.1) = false)
    (ha : (backToKw pos (keywordEach kws env)).all (·.1.isSome) = true) (hn : (backToKw pos (keywordEach kws env)).any (·.1.isNone) = false) :
    wpAny M A (callWith pos (.type T) [] (backTo pos (starEach (e :: rest) env)) (backToKw pos (keywordEach kws env))) Q E s := by
  have z := evalArgs_kw2 (f := .type T) (Q := fun a s1 => wpAny M A (call (.type T) a.pos a.kw) Q E s1) ha h he
  unfold callWith
  refine wpAny_bind (wpAny_holding (wpAny_mono z (fun a s1 q => wpAny_bind (wpAny_standAt ?_)) fun _ _ q => q))
  rw [hp, hn]
  simp only [Bool.or_false]
  refine wpAny_bind (wpAny_pure ?_)
  exact wpAny_bind (wpAny_mono q (fun r s2 hr => wpAny_bind (wpAny_holding (wpAny_point (wpAny_pure hr)))) fun _ _ q => q)
end EL

/- part E5 -/
namespace EL
open PySem PySem.Spec PyProof.Rows L2
open PySem.W (Frag)
/-! ### enumerate(zip(t, u), start=k) -/
/-- each turn: a new pair of the two items, a new pair of the count and that pair -/
def Itez (K : Frag) (a b : Addr) (k : Int) : It :=
  ⟨fun i H => ∃ (xs ys : List V) (x y : V), SqT K H a xs ∧ SqT K H b ys ∧ xs[i]? = some x ∧ ys[i]? = some y,
    fun i H v H' => ∃ (T0 T1 : Addr) (x y : V), v = .ref T1 ∧ H T0 = none ∧ H T1 = none ∧ T0 ≠ T1 ∧ H' = upd (upd H T0 (.tup [x, y])) T1 (.tup [.int (k + i), .ref T0]) ∧ (∀ xs, SqT K H a xs → xs[i]? = some x) ∧ ∀ ys, SqT K H b ys → ys[i]? = some y,
    fun i H => ∃ xs ys : List V, SqT K H a xs ∧ SqT K H b ys ∧ xs.length ≤ i⟩
def TurnEz (e z TI TO i1 i2 t1 t2 : Addr) (k : Int) (i : Nat) (h : Heap) : Prop :=
  (∃ old, IsEnum h e z (k + i) old) ∧ ZipAt h z TI TO ∧ IsTupOf2 h TI (.ref i1) (.ref i2) ∧ (∃ a b, IsTupOf2 h TO a b) ∧ h.IsTupleIter i1 t1 i ∧ h.IsTupleIter i2 t2 i
theorem fp_mem {e z TI TO i1 i2 b : Addr} (h : b ∈ [e, z, TI, TO, i1, i2]) : b = e ∨ b = z ∨ b = TI ∨ b = TO ∨ b = i1 ∨ b = i2 := by simpa using h
theorem fpOk_upd {X : Cx} {pins : List (Addr × Obj)} {H : Hp} {b T : Addr} {o : HO} (f : FpOk X pins H b) (h : b ≠ T) : FpOk X pins (upd H T o) b :=
  ⟨by rw [upd_ne h]; exact f.1, f.2⟩
theorem turn_ez {P : Program} {w : World} {K : Frag} {elts : List Expr} {kk : Nat} {tpos : Pos} {e z TI TO i1 i2 t1 t2 : Addr} {k : Int} (ap : Apart z TI TO i1 i2 t1 t2)
    (ne : ∀ b ∈ [z, TI, TO, i1, i2], e ≠ b) (te1 : t1 ≠ e) (te2 : t2 ≠ e) :
    Turn P w K (.Tuple elts kk tpos) (Itez K t1 t2 k) [e, z, TI, TO, i1, i2] e (TurnEz e z TI TO i1 i2 t1 t2 k) where
  mem := by simp
  obj := fun i h st b hb => by
    obtain ⟨⟨old, he⟩, ⟨f0, b0, hz, _⟩, hti, ⟨a1, a2, hto⟩, ⟨o1, q1, _, d1⟩, ⟨o2, q2, _, d2⟩⟩ := st
    rcases fp_mem hb with q | q | q | q | q | q <;> subst q
    · exact ⟨_, he, fun v q => nomatch q⟩
    · exact ⟨_, hz, fun v q => nomatch q⟩
    · exact ⟨_, hti, fun v q => nomatch q⟩
    · exact ⟨_, hto, fun v q => nomatch q⟩
    · exact ⟨o1, q1, fun v q => by rw [d1] at q; cases q⟩
    · exact ⟨o2, q2, fun v q => by rw [d2] at q; cases q⟩
  keep := fun i h h' st kp => by
    obtain ⟨⟨old, he⟩, ⟨f0, b0, hz, m⟩, hti, ⟨a1, a2, hto⟩, h1, h2⟩ := st
    exact ⟨⟨old, kp e (by simp) _ he⟩, ⟨f0, b0, kp z (by simp) _ hz, m⟩, kp TI (by simp) _ hti, ⟨a1, a2, kp TO (by simp) _ hto⟩, h1.at fun o q => kp i1 (by simp) o q, h2.at fun o q => kp i2 (by simp) o q⟩
  item := by
    intro X hP hw hK hc i pins s σ H E I hf st hg
    subst hP hw hK
    obtain ⟨⟨old, he⟩, hz, hti, hto, h1, h2⟩ := st
    obtain ⟨xs, ys, x, y, hqx, hqy, hx, hy⟩ := hg
    obtain ⟨its, rv, p, _⟩ := I.tuple hqx
    obtain ⟨its2, rv2, p2, _⟩ := I.tuple hqy
    obtain ⟨u, hu, ru⟩ := rv.get hx
    obtain ⟨u2, hu2, ru2⟩ := rv2.get hy
    have old_lt : ∀ {b o}, s.heap.get? b = some o → b < s.heap.objs.size := fun q => Heap.lt_size q
    have le : e < s.heap.objs.size := old_lt he
    have typ : s.TypeIs (.ref e) "enumerate" := ⟨_, he, rfl⟩
    have ez : e ≠ z := ne z (by simp)
    unfold pyNext
    refine wpAny_bind (wpAny_attempt (wpAny_callSpecial?_slot (name := Str.ofString "__next__") typ F.slot_enumerate_next (wpAny_call_entry F.slot_enumerate_next typ F.entry_enumerate_next
      (wpAny_mono (enum_turn (R := fun v h1 => v = .ref s.heap.objs.size ∧ ZipSt h1 z TI TO i1 i2 t1 t2 its.toArray its2.toArray (i + 1) ∧ IsTupOf2 h1 s.heap.objs.size u u2 ∧ h1.objs.size = s.heap.objs.size + 1 ∧
          ∀ c o, c ≠ z → c ≠ TO → c ≠ i1 → c ≠ i2 → s.heap.get? c = some o → h1.get? c = some o)
        (Q := fun v s' => wpAny (model X.prog X.w) X.A (letOwnedTupleGo (.Tuple elts kk tpos) (.ref e) v) (fun _ s2 => ∃ x H', Inv X pins σ H' s2 ∧ RelV x v ∧ (Itez X.K t1 t2 k).yld i H x H' ∧ TurnEz e z TI TO i1 i2 t1 t2 k (i + 1) s2.heap ∧ ∀ b ∈ [e, z, TI, TO, i1, i2], H' b = none) E s')
        he (fun Q' E' hq => zip_drawn hz (zip_turn ap ⟨hz, hti, hto, h1, h2, p, p2⟩ (by simpa using hu) (by simpa using hu2) fun h' tk st' t' z' k' => hq _ h' tk ?_ ⟨rfl, st', t', z', k'⟩)) ?_) ?_ (fun _ _ q => q)) (F.args_enumerate_next_1 _))))
    · exact k' e _ ez (ne TO (by simp)) (ne i1 (by simp)) (ne i2 (by simp)) he
    · rintro v g1 g2 tk ⟨rfl, st1, pr, z1, k1⟩ _ eo tp z2 k2
      have lt1 : e < g1.objs.size := by rw [z1]; exact Nat.lt_succ_of_lt le
      refine wpAny_letOwnedTupleGo_enum (s := { s with heap := g2, toks := tk + 1 }) eo fun g3 e3 k3 => ?_
      replace k3 : Heap.SameBut e g2 g3 := k3
      -- the pair of the zip, then the pair of the enumerate
      have I1 : Inv X pins σ (upd H s.heap.objs.size (.tup [x, y])) { s with heap := g1, toks := tk } :=
        I.turnedNew (ch := [z, TO, i1, i2]) (fun c o hc q => k1 c o (fun q' => hc (by simp [q'])) (fun q' => hc (by simp [q'])) (fun q' => hc (by simp [q'])) (fun q' => hc (by simp [q'])) q)
          (fun b hb => hf b (by
            have q : b = z ∨ b = TO ∨ b = i1 ∨ b = i2 := by simpa using hb
            rcases q with q | q | q | q <;> simp [q])) (Nat.le_refl _)
          ⟨by show 2 ≤ sizeLine; decide, [u, u2], .cons ru (.cons ru2 .nil), ⟨_, pr, rfl, _, rfl⟩⟩
      have n1 : e ≠ s.heap.objs.size := Nat.ne_of_lt le
      have T1 : g3.get? g1.objs.size = some { cls := .type "tuple", data := .seq #[.int (k + i) tk, .ref s.heap.objs.size] } := ext_of k3 _ _ (Nat.ne_of_gt lt1) tp
      have I2 : Inv X pins σ (upd (upd H s.heap.objs.size (.tup [x, y])) g1.objs.size (.tup [.int (k + i), .ref s.heap.objs.size])) { s with heap := g3, toks := tk + 1 } :=
        I1.turnedNew (ch := [e]) (fun c o hc q => ext_of k3 _ _ (fun q' => hc (by simp [q'])) (k2 c o (fun q' => hc (by simp [q'])) q))
          (fun b hb => by
            have q : b = e := by simpa using hb
            subst q
            exact fpOk_upd (hf _ (by simp)) n1) (Nat.le_refl _)
          ⟨by show 2 ≤ sizeLine; decide, [.int (k + i) tk, .ref s.heap.objs.size], .cons ⟨_, rfl⟩ (.cons rfl .nil), ⟨_, T1, rfl, _, rfl⟩⟩
      have lz : ∀ b ∈ [e, z, TI, TO, i1, i2], b < s.heap.objs.size := by
        intro b hb
        rcases fp_mem hb with q | q | q | q | q | q <;> subst q
        · exact le
        · exact let ⟨_, _, q, _⟩ := hz; old_lt q
        · exact old_lt hti
        · exact let ⟨_, _, q⟩ := hto; old_lt q
        · exact let ⟨_, q, _⟩ := h1; old_lt q
        · exact let ⟨_, q, _⟩ := h2; old_lt q
      have f0 : H s.heap.objs.size = none := I.hok.fresh (Nat.le_refl _)
      have f1 : H g1.objs.size = none := I.hok.fresh (by rw [z1]; omega)
      refine ⟨.ref g1.objs.size, _, I2, rfl, ⟨s.heap.objs.size, g1.objs.size, x, y, rfl, f0, f1, by rw [z1]; exact Nat.ne_of_lt (Nat.lt_succ_self _), rfl, fun l hl => by rw [I.tuple_inj hl hqx]; exact hx, fun l hl => by rw [I.tuple_inj hl hqy]; exact hy⟩, ⟨⟨.ref s.heap.objs.size, ?_⟩, ?_, ?_, ?_, ?_, ?_⟩, fun b hb => ?_⟩
      · have q : (k + ((i + 1 : Nat) : Int)) = k + i + 1 := by omega
        rw [q]
        exact e3
      · obtain ⟨f, b, q, m⟩ := st1.zip
        exact ⟨f, b, ext_of k3 _ _ ez.symm (k2 _ _ ez.symm q), m⟩
      · exact ext_of k3 _ _ (ne TI (by simp)).symm (k2 _ _ (ne TI (by simp)).symm st1.ti)
      · obtain ⟨a1, a2, q⟩ := st1.to
        exact ⟨a1, a2, ext_of k3 _ _ (ne TO (by simp)).symm (k2 _ _ (ne TO (by simp)).symm q)⟩
      · exact st1.it1.at fun o q => ext_of k3 _ _ (ne i1 (by simp)).symm (k2 _ _ (ne i1 (by simp)).symm q)
      · exact st1.it2.at fun o q => ext_of k3 _ _ (ne i2 (by simp)).symm (k2 _ _ (ne i2 (by simp)).symm q)
      · have q := lz b hb
        rw [upd_ne (by rw [z1]; exact Nat.ne_of_lt (Nat.lt_succ_of_lt q)), upd_ne (Nat.ne_of_lt q)]
        exact (hf b hb).1
    · rintro fin s' ⟨v, rfl, q⟩
      exact ⟨v, rfl, wpAny_pure ⟨v, rfl, q⟩⟩
  done := by
    intro X hP hw hK hc i pins s σ H E I hf st hg
    subst hP hw hK
    obtain ⟨⟨old, he⟩, hz, hti, hto, h1, h2⟩ := st
    obtain ⟨xs, ys, hqx, hqy, hx⟩ := hg
    obtain ⟨its, rv, p, _⟩ := I.tuple hqx
    obtain ⟨its2, rv2, p2, _⟩ := I.tuple hqy
    have l1 := rv.length
    have typ : s.TypeIs (.ref e) "enumerate" := ⟨_, he, rfl⟩
    unfold pyNext
    refine wpAny_bind (wpAny_attempt (wpAny_callSpecial?_slot (name := Str.ofString "__next__") typ F.slot_enumerate_next (wpAny_call_entry F.slot_enumerate_next typ F.entry_enumerate_next ?_ (F.args_enumerate_next_1 _))))
    refine wpAny_bind (m := field (.ref e) 2) (wpAny_field he rfl (x := .ref z) rfl (wpAny_bind (zip_drawn hz ?_)))
    refine zip_over (I.ok.hd hc) ap ⟨hz, hti, hto, h1, h2, p, p2⟩ (by simp; omega) fun h' x k' hx' => ?_
    obtain ⟨o, ho, hcls⟩ := hx'
    refine wpAny_bind (wpAny_isInstance (T := "StopIteration") (b := true) ⟨o, ho, hcls⟩ isSubtype_stop (wpAny_pure ⟨rfl, ?_⟩))
    exact I.turnedL (t' := s.toks) (ch := [z, TO, i1, i2]) (fun c o hc q => k' c o (fun q' => hc (by simp [q'])) (fun q' => hc (by simp [q'])) (fun q' => hc (by simp [q'])) (fun q' => hc (by simp [q'])) q)
      (fun b hb => hf b (by
        have q : b = z ∨ b = TO ∨ b = i1 ∨ b = i2 := by simpa using hb
        rcases q with q | q | q | q <;> simp [q]))
  self := fun A i s Q E st h => let ⟨⟨_, he⟩, _⟩ := st; wpAny_pyIter_enum he h
end EL

/- part E6 -/
namespace EL
open PySem PySem.Spec PyProof.Rows L2
open PySem.W (Frag)
/-- the keyword's constant -/
theorem start_kw {X : Cx} {pos : Pos} {k : Int} {j : Nat} {p kp : Pos} {E : Value → Shared → Prop} {s : Shared} {Q : List Value → Shared → Prop} (h : Q [.int k s.toks] { s with toks := s.toks + 1 }) :
    wpAny (model X.prog X.w) X.A (evalAll ((backToKw pos (keywordEach [⟨some "start", .Constant (.int k) j p, kp⟩] X.env)).map (·.2))) Q E s := by
  show wpAny _ _ (evalAll ((do let v ← eval (.Constant (.int k) j p) X.env; standAt pos; pure v) :: [])) _ _ s
  exact wpAny_evalAll_cons (wpAny_bind (wpAny_Constant_int (wpAny_bind (wpAny_standAt (wpAny_pure (wpAny_evalAll_nil h))))))
theorem zip_apart (N a b : Addr) (ha : a < N) (hb : b < N) : Apart (N + 4) (N + 2) (N + 3) N (N + 1) a b := by
  constructor <;> intro q <;> simp only [Addr] at * <;> omega
def iEz (K : Frag) (k : Int) (ta : TA) : TI := fun σ H R => ta σ H fun vs H1 => ∃ a b xs ys, vs = [.ref a, .ref b] ∧ SqT K H1 a xs ∧ SqT K H1 b ys ∧ R (Itez K a b k) H1
theorem pi_ez {X : Cx} {e e2 : Expr} {ta : TA} {p p2 pos pos2 tpos cp kp : Pos} {elts : List Expr} {kk j : Nat} {k : Int} (hg : Gl X "enumerate") (hm : X.mg "enumerate" = none) (hg2 : Gl X "zip") (hm2 : X.mg "zip" = none) (ha : PA X [e, e2] ta)
    (h0 : -(2 ^ 63) ≤ k) (h1 : k < 2 ^ 63)
    (hs : starEach [e, e2] X.env = (false, eval e X.env) :: starEach [e2] X.env := by rfl) (hpl : (backTo pos2 (starEach [e2] X.env)).any (·.1) = false := by rfl) :
    PI X (.Tuple elts kk tpos) (.Call (.Name "enumerate" p) [.Call (.Name "zip" p2) [e, e2] [] pos2] [⟨some "start", .Constant (.int k) j cp, kp⟩] pos) (iEz X.K k ta) := by
  refine ⟨fun pins s σ H R I h => ?_⟩
  apply wpAny_Call_Name_kw
  refine ld_blt I hg hm boot_enumerate ?_
  refine callType_kw (e := .Call (.Name "zip" p2) [e, e2] [] pos2) (rest := []) ?_ rfl rfl rfl rfl
  show wpAny _ _ (spliced [(false, eval (.Call (.Name "zip" p2) [e, e2] [] pos2) X.env)]) _ _ _
  refine Calls.spliced_cons ?_
  refine Call_ (ld_blt I hg2 hm2 PyProof.Rows.boot_zip (PyProof.Rows.callWith_type1 (thn (ha.run pos2 pins s σ H _ I h) ?_) hs hpl))
  rintro us s1 ⟨vs, H1, I1, r1, a, b, xs, ys, rfl, hqx, hqy, q⟩
  obtain ⟨ua, ub, rfl, ra, rb⟩ := vals2 r1
  cases (show ua = Value.ref a from ra)
  cases (show ub = Value.ref b from rb)
  obtain ⟨its, rv, pa, _⟩ := I1.tuple hqx
  obtain ⟨its2, rv2, pb, _⟩ := I1.tuple hqy
  refine zip_begins2 (begins_tuple a its.toArray) (begins_tuple b its2.toArray) pa pb fun h' hz hti hto hi1 hi2 hsz hk => ?_
  have I2 : Inv X pins σ H1 { s1 with heap := h' } := I1.kept (t' := s1.toks) hk
  refine Calls.spliced_nil (start_kw ?_)
  have za : ZipAt h' (s1.heap.objs.size + 4) (s1.heap.objs.size + 2) (s1.heap.objs.size + 3) := ⟨.none, false, hz, .inl rfl⟩
  refine enum_made (W := fun h => ZipAt h (s1.heap.objs.size + 4) (s1.heap.objs.size + 2) (s1.heap.objs.size + 3)) (rv := fun _ => .ref (s1.heap.objs.size + 4)) (f := fun h => h) (fun prog w A E s Q hw hq => zip_itself hw hq) h0 h1 za ?_
  have he : IsEnum (h'.push (enumObj (.ref (s1.heap.objs.size + 4)) k)) (s1.heap.objs.size + 5) (s1.heap.objs.size + 4) k .none := by
    have z := Heap.get?_push_size h' (o := enumObj (.ref (s1.heap.objs.size + 4)) k) rfl
    rw [hsz] at z
    exact z
  show wpAny _ _ (pyIter (.ref h'.objs.size)) _ _ _
  rw [hsz]
  refine wpAny_pyIter_enum he ?_
  have I3 : Inv X pins σ H1 { s1 with heap := h'.push (enumObj (.ref (s1.heap.objs.size + 4)) k), toks := s1.toks + 1 } := I1.kept fun c o q => Heap.get?_push_of_some _ (hk c o q)
  have up : ∀ c o, h'.get? c = some o → (h'.push (enumObj (.ref (s1.heap.objs.size + 4)) k)).get? c = some o := fun c o q => Heap.get?_push_of_some _ q
  have la : a < s1.heap.objs.size := pa.lt
  have lb : b < s1.heap.objs.size := pb.lt
  refine ⟨s1.heap.objs.size + 5, [s1.heap.objs.size + 5, s1.heap.objs.size + 4, s1.heap.objs.size + 2, s1.heap.objs.size + 3, s1.heap.objs.size, s1.heap.objs.size + 1], _, _, H1, rfl, I3,
    turn_ez (zip_apart s1.heap.objs.size a b la lb) (fun b hb => ?_) ?_ ?_, ⟨⟨.none, ?_⟩, ⟨.none, false, up _ _ hz, .inl rfl⟩, up _ _ hti, ⟨_, _, up _ _ hto⟩, ⟨_, up _ _ hi1, rfl, rfl⟩, ⟨_, up _ _ hi2, rfl, rfl⟩⟩, fun c hc => ?_, q⟩
  · have q : b = s1.heap.objs.size + 4 ∨ b = s1.heap.objs.size + 2 ∨ b = s1.heap.objs.size + 3 ∨ b = s1.heap.objs.size ∨ b = s1.heap.objs.size + 1 := by simpa using hb
    intro z
    simp only [Addr] at *
    omega
  · intro z
    simp only [Addr] at *
    omega
  · intro z
    simp only [Addr] at *
    omega
  · have q : k + ((0 : Nat) : Int) = k := by omega
    rw [q]
    exact he
  · have q := fp_mem hc
    have hle : s1.heap.objs.size ≤ c := by
      simp only [Addr] at *
      omega
    exact I1.fpOk hle (I1.hok.fresh hle)
/-! ### enumerate(t, start=k) -/
def Ites (K : Frag) (a : Addr) (k : Int) : It :=
  ⟨fun i H => ∃ (xs : List V) (x : V), SqT K H a xs ∧ xs[i]? = some x, fun i H v H' => ∃ T x, v = .ref T ∧ H T = none ∧ H' = upd H T (.tup [.int (k + i), x]) ∧ ∀ xs, SqT K H a xs → xs[i]? = some x, fun i H => ∃ xs : List V, SqT K H a xs ∧ xs.length ≤ i⟩
def TurnEs (e it t : Addr) (k : Int) (i : Nat) (h : Heap) : Prop := (∃ old, IsEnum h e it (k + i) old) ∧ h.IsTupleIter it t i
theorem turn_es {P : Program} {w : World} {K : Frag} {elts : List Expr} {kk : Nat} {tpos : Pos} {e it t : Addr} {k : Int} (ne : e ≠ it) : Turn P w K (.Tuple elts kk tpos) (Ites K t k) [e, it] e (TurnEs e it t k) where
  mem := by simp
  obj := fun i h st b hb => by
    obtain ⟨⟨old, he⟩, ⟨o1, q1, _, d1⟩⟩ := st
    have q : b = e ∨ b = it := by simpa using hb
    rcases q with q | q <;> subst q
    · exact ⟨_, he, fun v q => nomatch q⟩
    · exact ⟨o1, q1, fun v q => by rw [d1] at q; cases q⟩
  keep := fun i h h' st kp => by
    obtain ⟨⟨old, he⟩, h1⟩ := st
    exact ⟨⟨old, kp e (by simp) _ he⟩, h1.at fun o q => kp it (by simp) o q⟩
  item := by
    intro X hP hw hK hc i pins s σ H E I hf st hg
    subst hP hw hK
    obtain ⟨⟨old, he⟩, h1⟩ := st
    obtain ⟨xs, x, hqx, hx⟩ := hg
    obtain ⟨its, rv, p, _⟩ := I.tuple hqx
    obtain ⟨u, hu, ru⟩ := rv.get hx
    have le : e < s.heap.objs.size := Heap.lt_size he
    have typ : s.TypeIs (.ref e) "enumerate" := ⟨_, he, rfl⟩
    unfold pyNext
    refine wpAny_bind (wpAny_attempt (wpAny_callSpecial?_slot (name := Str.ofString "__next__") typ F.slot_enumerate_next (wpAny_call_entry F.slot_enumerate_next typ F.entry_enumerate_next
      (wpAny_mono (enum_turn (R := fun v h' => v = u ∧ h'.IsTupleIter it t (i + 1) ∧ Heap.SameBut it s.heap h')
        (Q := fun v s' => wpAny (model X.prog X.w) X.A (letOwnedTupleGo (.Tuple elts kk tpos) (.ref e) v) (fun _ s2 => ∃ x H', Inv X pins σ H' s2 ∧ RelV x v ∧ (Ites X.K t k).yld i H x H' ∧ TurnEs e it t k (i + 1) s2.heap ∧ ∀ b ∈ [e, it], H' b = none) E s')
        he (fun Q' E' hq => wpAny_nextOf_tuple_item h1 p (x := u) (by simpa using hu) fun h' st' k' => hq _ h' s.toks (ext_of k' _ _ ne he) ⟨rfl, st', k'⟩) ?_) ?_ (fun _ _ q => q)) (F.args_enumerate_next_1 _))))
    · rintro v g1 g2 tk ⟨rfl, st1, k1⟩ lt1 eo tp z2 k2
      refine wpAny_letOwnedTupleGo_enum (s := { s with heap := g2, toks := tk + 1 }) eo fun g3 e3 k3 => ?_
      replace k3 : Heap.SameBut e g2 g3 := k3
      have T1 : g3.get? g1.objs.size = some { cls := .type "tuple", data := .seq #[.int (k + i) tk, v] } := ext_of k3 _ _ (Nat.ne_of_gt lt1) tp
      have sz : s.heap.objs.size = g1.objs.size := k1.1.symm
      have I2 : Inv X pins σ (upd H g1.objs.size (.tup [.int (k + i), x])) { s with heap := g3, toks := tk + 1 } :=
        I.turnedNew (ch := [e, it]) (fun c o hc q => ext_of k3 _ _ (fun q' => hc (by simp [q'])) (k2 c o (fun q' => hc (by simp [q'])) (ext_of k1 _ _ (fun q' => hc (by simp [q'])) q)))
          hf (Nat.le_of_eq sz) ⟨by show 2 ≤ sizeLine; decide, [.int (k + i) tk, v], .cons ⟨_, rfl⟩ (.cons ru .nil), ⟨_, T1, rfl, _, rfl⟩⟩
      refine ⟨.ref g1.objs.size, _, I2, rfl, ⟨g1.objs.size, x, rfl, I.hok.fresh (Nat.le_of_eq sz), rfl, fun l hl => by rw [I.tuple_inj hl hqx]; exact hx⟩, ⟨⟨v, ?_⟩, ?_⟩, fun b hb => ?_⟩
      · have q : (k + ((i + 1 : Nat) : Int)) = k + i + 1 := by omega
        rw [q]
        exact e3
      · exact st1.at fun o q => ext_of k3 _ _ ne.symm (k2 _ _ ne.symm q)
      · have q : b < g1.objs.size := by
          have q : b = e ∨ b = it := by simpa using hb
          rcases q with q | q <;> subst q
          · exact lt1
          · exact let ⟨_, q, _⟩ := st1; Heap.lt_size q
        rw [upd_ne (Nat.ne_of_lt q)]
        exact (hf b hb).1
    · rintro fin s' ⟨v, rfl, q⟩
      exact ⟨v, rfl, wpAny_pure ⟨v, rfl, q⟩⟩
  done := by
    intro X hP hw hK hc i pins s σ H E I hf st hg
    subst hP hw hK
    obtain ⟨⟨old, he⟩, h1⟩ := st
    obtain ⟨xs, hqx, hx⟩ := hg
    obtain ⟨its, rv, p, _⟩ := I.tuple hqx
    have l1 := rv.length
    have typ : s.TypeIs (.ref e) "enumerate" := ⟨_, he, rfl⟩
    unfold pyNext
    refine wpAny_bind (wpAny_attempt (wpAny_callSpecial?_slot (name := Str.ofString "__next__") typ F.slot_enumerate_next (wpAny_call_entry F.slot_enumerate_next typ F.entry_enumerate_next ?_ (F.args_enumerate_next_1 _))))
    refine wpAny_bind (m := field (.ref e) 2) (wpAny_field he rfl (x := .ref it) rfl (wpAny_bind ?_))
    refine wpAny_nextOf_tuple_end (I.ok.hd hc) h1 p (by simp; omega) fun h' x k' hx' => ?_
    obtain ⟨o, ho, hcls⟩ := hx'
    refine wpAny_bind (wpAny_isInstance (T := "StopIteration") (b := true) ⟨o, ho, hcls⟩ isSubtype_stop (wpAny_pure ⟨rfl, ?_⟩))
    exact I.turnedL (t' := s.toks) (ch := [it]) (fun c o hc q => k' c o (fun q' => hc (by simp [q'])) q) (fun b hb => hf b (by
      have q : b = it := by simpa using hb
      simp [q]))
  self := fun A i s Q E st h => let ⟨⟨_, he⟩, _⟩ := st; wpAny_pyIter_enum he h
def iEs (K : Frag) (k : Int) (ta : TA) : TI := fun σ H R => ta σ H fun vs H1 => ∃ a xs, vs = [.ref a] ∧ SqT K H1 a xs ∧ R (Ites K a k) H1
theorem pi_es {X : Cx} {e : Expr} {ta : TA} {p pos tpos cp kp : Pos} {elts : List Expr} {kk j : Nat} {k : Int} (hg : Gl X "enumerate") (hm : X.mg "enumerate" = none) (ha : PA X [e] ta) (h0 : -(2 ^ 63) ≤ k) (h1 : k < 2 ^ 63)
    (hs : starEach [e] X.env = (false, eval e X.env) :: starEach [] X.env := by rfl) (hpl : (backTo pos (starEach [e] X.env)).any (·.1) = false := by rfl) :
    PI X (.Tuple elts kk tpos) (.Call (.Name "enumerate" p) [e] [⟨some "start", .Constant (.int k) j cp, kp⟩] pos) (iEs X.K k ta) := by
  refine ⟨fun pins s σ H R I h => ?_⟩
  apply wpAny_Call_Name_kw
  refine ld_blt I hg hm boot_enumerate (callType_kw (thn (ha.run pos pins s σ H _ I h) ?_) hs hpl rfl rfl)
  rintro us s1 ⟨vs, H1, I1, r1, a, xs, rfl, hqx, q⟩
  cases r1 with
  | cons ra rn =>
    cases rn
    cases ra
    obtain ⟨its, rv, pa, _⟩ := I1.tuple hqx
    refine start_kw (enum_begins_start (begins_tuple a its.toArray) pa h0 h1 fun h' he hit hsz hk => wpAny_pyIter_enum he ?_)
    refine ⟨s1.heap.objs.size + 1, [s1.heap.objs.size + 1, s1.heap.objs.size], _, _, H1, rfl, I1.kept (t' := s1.toks + 1) hk, turn_es (Nat.succ_ne_self _), ⟨⟨.none, ?_⟩, ⟨_, hit, rfl, rfl⟩⟩, fun c hc => ?_, q⟩
    · have q : k + ((0 : Nat) : Int) = k := by omega
      rw [q]
      exact he
    · have q : c = s1.heap.objs.size + 1 ∨ c = s1.heap.objs.size := by simpa using hc
      have hle : s1.heap.objs.size ≤ c := by
        simp only [Addr] at *
        omega
      exact I1.fpOk hle (I1.hok.fresh hle)
end EL

/- part E7 -/
/-! enumerate(t) over a tuple; loops over enumerate -/
namespace EL
open PySem PySem.Spec PyProof.Rows L2
open PySem.W (Frag)
theorem tcall_enum_1 (a : Value) : checkTypeCall "enumerate" ⟨[a], []⟩ = pure () := by kernel_rfl
set_option maxHeartbeats 2000000 in
theorem meets_enum_1 {v : Value} {rv : Heap → Value} {f : Heap → Heap} {W : Heap → Prop}
    (IT : ∀ (prog : Program) (w : World) (A : Around) (E : Value → Shared → Prop) (s : Shared) (Q : Value → Shared → Prop), W s.heap → Q (rv s.heap) { s with heap := f s.heap } → wpAny (model prog w) A (pyIter v) Q E s) :
    Meets (Builtin.«enumerate.__new__» ⟨[.type "enumerate", v], []⟩) (fun _ R s => W s.heap ∧ R (.ok (.ret (.ref (f s.heap).objs.size))) { s with heap := (f s.heap).push (enumObj (rv s.heap) 0) }) :=
  .of_wp fun prog w A R s h => by
    obtain ⟨hp, g, d, tk, os⟩ := s
    obtain ⟨h1, h⟩ := h
    have sub := sub_enumerate
    have go : ∀ {A' : Around} {E : Value → Shared → Prop} {Q : Value → Shared → Prop}, Q (rv hp) ⟨f hp, g, d, tk, os⟩ → wpAny (model prog w) A' (pyIter v) Q E ⟨hp, g, d, tk, os⟩ := fun q => IT prog w _ _ ⟨hp, g, d, tk, os⟩ _ h1 q
    wp_walk using go
    refine wpAny_stack_any fun st => wpAny_pure ?_
    split
    · rename_i c _ _ _ _ _
      cases (c == Value.type "enumerate")
      · wp_walk using go
        exact ⟨_, rfl, h⟩
      · wp_walk using go
        exact ⟨_, rfl, h⟩
    · wp_walk using go
      exact ⟨_, rfl, h⟩
theorem enum_begins_1 {prog : Program} {w : World} {A : Around} {E : Value → Shared → Prop} {s : Shared} {v : Value} {o : Obj} {H : Heap → Prop} {Q : Value → Shared → Prop} (B : Begins v o H) (h : H s.heap)
    (q : ∀ h' : Heap, IsEnum h' (s.heap.objs.size + 1) s.heap.objs.size 0 .none → h'.get? s.heap.objs.size = some o → h'.objs.size = s.heap.objs.size + 2 → (∀ (b : Addr) (o : Obj), s.heap.get? b = some o → h'.get? b = some o) → Q (.ref (s.heap.objs.size + 1)) { s with heap := h' }) :
    wpAny (model prog w) A (call (.type "enumerate") [v]) Q E s := by
  refine callType_new F.called_enumerate (by decide) (F.typeCall_enumerate_1 _) (F.newCall_enumerate_1 _) (fun obj => F.args_object_init_2 obj _) F.entry_enumerate_new
    (meets_enum_1 (W := H) (rv := fun h => .ref h.objs.size) (f := fun h => h.push o) fun prog w A E s Q hw hq => B.iter prog w A E s Q hw hq) ⟨h, ?_⟩
  have z : (s.heap.push o).objs.size = s.heap.objs.size + 1 := Heap.size_push ..
  have e1 : IsEnum ((s.heap.push o).push (enumObj (.ref s.heap.objs.size) 0)) (s.heap.objs.size + 1) s.heap.objs.size 0 .none := by
    have y := Heap.get?_push_size (s.heap.push o) (o := enumObj (.ref s.heap.objs.size) 0) rfl
    rw [z] at y
    exact y
  refine ⟨⟨_, Heap.get?_push_size _ rfl, rfl⟩, ?_⟩
  show Q (.ref (s.heap.push o).objs.size) _
  rw [z]
  refine q _ e1 (Heap.get?_push_of_some _ (Heap.get?_push_size _ B.free)) ((Heap.size_push ..).trans (by rw [z])) fun b o' hb => Heap.get?_push_of_some _ (Heap.get?_push_of_some _ hb)
theorem evalAll_nil {M : Model} {A : Around} {E : Value → Shared → Prop} {s : Shared} {Q : List Value → Shared → Prop} (h : Q [] s) : wpAny M A (evalAll []) Q E s := wpAny_pure h
def iE1 (K : Frag) (ta : TA) : TI := fun σ H R => ta σ H fun vs H1 => ∃ a xs, vs = [.ref a] ∧ SqT K H1 a xs ∧ R (Ites K a 0) H1
theorem pi_e1 {X : Cx} {e : Expr} {ta : TA} {p pos tpos : Pos} {elts : List Expr} {kk : Nat} (hg : Gl X "enumerate") (hm : X.mg "enumerate" = none) (ha : PA X [e] ta)
    (hs : starEach [e] X.env = (false, eval e X.env) :: starEach [] X.env := by rfl) (hpl : (backTo pos (starEach [e] X.env)).any (·.1) = false := by rfl) :
    PI X (.Tuple elts kk tpos) (.Call (.Name "enumerate" p) [e] [] pos) (iE1 X.K ta) := by
  refine ⟨fun pins s σ H R I h => ?_⟩
  apply wpAny_Call_Name_kw
  refine ld_blt I hg hm boot_enumerate (callType_kw (thn (ha.run pos pins s σ H _ I h) ?_) hs hpl rfl rfl)
  rintro us s1 ⟨vs, H1, I1, r1, a, xs, rfl, hqx, q⟩
  cases r1 with
  | cons ra rn =>
    cases rn
    cases ra
    obtain ⟨its, rv, pa, _⟩ := I1.tuple hqx
    refine evalAll_nil (enum_begins_1 (begins_tuple a its.toArray) pa fun h' he hit hsz hk => wpAny_pyIter_enum he ?_)
    refine ⟨s1.heap.objs.size + 1, [s1.heap.objs.size + 1, s1.heap.objs.size], _, _, H1, rfl, I1.kept (t' := s1.toks) hk, turn_es (Nat.succ_ne_self _), ⟨⟨.none, ?_⟩, ⟨_, hit, rfl, rfl⟩⟩, fun c hc => ?_, q⟩
    · exact he
    · have q : c = s1.heap.objs.size + 1 ∨ c = s1.heap.objs.size := by simpa using hc
      have hle : s1.heap.objs.size ≤ c := by
        simp only [Addr] at *
        omega
      exact I1.fpOk hle (I1.hok.fresh hle)
/-! ### loops over them -/
/-- a turn of enumerate(t, start=k) -/
def YEs (k : Int) (xs : List V) : Nat → Hp → V → Hp → Prop := fun i H v H' => ∃ T x, v = V.ref T ∧ H T = none ∧ H' = upd H T (.tup [.int (k + i), x]) ∧ xs[i]? = some x
theorem walk_es {K : Frag} {a : Addr} {k : Int} {xs : List V} : Walk (Ites K a k) xs.length (fun H => SqT K H a xs) (YEs k xs) :=
  ⟨fun i H hi h => ⟨xs, xs[i], h, List.getElem?_eq_getElem hi⟩, fun H h => ⟨xs, h, Nat.le_refl _⟩, fun i H x H' hi h ⟨T, y, e, hT, hH, hy⟩ => ⟨T, y, e, hT, hH, hy xs h⟩⟩
/-- a turn of enumerate(zip(t, u), start=k) -/
def YEz (k : Int) (xs ys : List V) : Nat → Hp → V → Hp → Prop := fun i H v H' => ∃ T0 T1 x y, v = V.ref T1 ∧ H T0 = none ∧ H T1 = none ∧ T0 ≠ T1 ∧ H' = upd (upd H T0 (.tup [x, y])) T1 (.tup [.int (k + i), .ref T0]) ∧ xs[i]? = some x ∧ ys[i]? = some y
theorem walk_ez {K : Frag} {a b : Addr} {k : Int} {xs ys : List V} (hl : xs.length = ys.length) : Walk (Itez K a b k) xs.length (fun H => SqT K H a xs ∧ SqT K H b ys) (YEz k xs ys) :=
  ⟨fun i H hi h => ⟨xs, ys, xs[i], ys[i], h.1, h.2, List.getElem?_eq_getElem hi, List.getElem?_eq_getElem (hl ▸ hi)⟩, fun H h => ⟨xs, ys, h.1, h.2, Nat.le_refl _⟩,
   fun i H x H' hi h ⟨T0, T1, y, z, e, h0, h1, ne, hH, hy, hz⟩ => ⟨T0, T1, y, z, e, h0, h1, ne, hH, hy xs h.1, hz ys h.2⟩⟩
end EL

/- part U -/
/-! Operators by the values that they meet; how a reading goes on -/
namespace EL
open PySem PySem.Spec PyProof.Rows L2
open PySem.W (Frag)
section
variable {X : Cx}
/-! ### rules that take what comes -/
theorem PI.alt {tg e : Expr} {w1 w2 : TI} (h1 : PI X tg e w1) (h2 : PI X tg e w2) : PI X tg e (fun σ H R => w1 σ H R ∨ w2 σ H R) :=
  ⟨fun pins s σ H R I h => h.elim (h1.run pins s σ H R I) (h2.run pins s σ H R I)⟩
theorem get_list : PGet X (rIxL X.K) := by
  rintro pins s σ H o i ov iv Q I ro ri ⟨p, xs, k, v, rfl, rfl, hq, hv, q⟩
  cases ro
  obtain ⟨t, rfl⟩ := ri
  obtain ⟨its, r, pl, hz⟩ := I.list hq
  obtain ⟨j, h1, h2, h3, h4, h5⟩ := atI_get hv
  obtain ⟨u, hu, ru⟩ := r.get h2
  have hl := r.length
  have hn := line63
  by_cases h0 : 0 ≤ k
  · have hj : k.toNat = j := by
      rw [seqIndex_of h0 h5] at h1
      exact Option.some.inj h1
    exact wpAny_getItem_list pl.isList h0 (by omega) (by rw [hj]; simpa using hu) ⟨v, H, I, ru, q⟩
  · have hj : (k + (its.toArray.size : Int)).toNat = j := by
      rw [seqIndex_neg (by omega) h4] at h1
      rw [List.size_toArray, ← hl]
      exact Option.some.inj h1
    exact wpAny_getItem_list_neg pl.isList (by omega) (by rw [List.size_toArray] <;> omega) (by omega) (by rw [hj]; simpa using hu) ⟨v, H, I, ru, q⟩
abbrev rAddI : R2 := rI0 fun i j => .int (i + j)
def rAdd (K : Frag) : R2 := fun x y H Q => rAddI x y H Q ∨ rCat x y H Q ∨ rCatA K x y H Q
theorem u_add : OpR X (binaryOp .Add) (rAdd X.K) := op_add.or (op_cat.or op_catA)
def rMul : R2 := fun x y H Q => rI CMul (fun i j => .int (i * j)) x y H Q ∨ rRep x y H Q
theorem u_mul : OpR X (binaryOp .Mult) rMul := op_mul.or op_rep
def rEqU (K : Frag) : R2 := fun x y H Q => rEq x y H Q ∨ rEqD K x y H Q
def rNeU (K : Frag) : R2 := fun x y H Q => rNe x y H Q ∨ rNeD K x y H Q
theorem u_eq (hu : X.A.units + 64 < cLine) : OpR X (compareOp .Eq) (rEqU X.K) := op_eq.or (op_eqD hu)
theorem u_ne (hu : X.A.units + 64 < cLine) : OpR X (compareOp .NotEq) (rNeU X.K) := op_ne.or (op_neD hu)
abbrev rIsNone : R2 := fun x y H Q => y = .non ∧ Q (.bl (decide (x = .non))) H
abbrev rNotNone : R2 := fun x y H Q => y = .non ∧ Q (.bl (!decide (x = .non))) H
/-- x is True, for any x that is no bool, too -/
abbrev rIsTrue : R2 := rIsB
theorem op_notBI {X : Cx} : OpR X (compareOp .IsNot) (fun x y H Q => ∃ i b, x = .int i ∧ y = .bl b ∧ Q (.bl true) H) := by
  rintro pins s σ H x y v u Q I rx ry ⟨i, b, rfl, rfl, q⟩
  obtain ⟨t, rfl⟩ := rx
  cases ry
  have e : (Value.int i t == Value.bool b) = false := by rfl
  exact wpAny_pure ⟨.bl true, H, I, by rw [e]; rfl, q⟩
theorem op_isBI {X : Cx} : OpR X (compareOp .Is) (fun x y H Q => ∃ i b, x = .int i ∧ y = .bl b ∧ Q (.bl false) H) := by
  rintro pins s σ H x y v u Q I rx ry ⟨i, b, rfl, rfl, q⟩
  obtain ⟨t, rfl⟩ := rx
  cases ry
  have e : (Value.int i t == Value.bool b) = false := by rfl
  exact wpAny_pure ⟨.bl false, H, I, by rw [e]; rfl, q⟩
def rIsU : R2 := fun x y H Q => rIsNone x y H Q ∨ rIsB x y H Q ∨ ∃ i b, x = .int i ∧ y = .bl b ∧ Q (.bl false) H
def rNotU : R2 := fun x y H Q => rNotNone x y H Q ∨ rNotB x y H Q ∨ ∃ i b, x = .int i ∧ y = .bl b ∧ Q (.bl true) H
theorem u_is : OpR X (compareOp .Is) rIsU := op_isN.or (op_isBl.or op_isBI)
theorem u_isnot : OpR X (compareOp .IsNot) rNotU := op_notN.or (op_notBl.or op_notBI)
theorem u_in : OpR X (compareOp .In) (rIn X.K false) := op_in_seq
theorem u_notin : OpR X (compareOp .NotIn) (rIn X.K true) := op_notIn_seq
abbrev rLen (K : Frag) : List V → Hp → VK → Prop := fun xs H Q => ∃ p ys, xs = [.ref p] ∧ (SqL K H p ys ∨ SqT K H p ys) ∧ Q (.int ys.length) H
theorem u_len : CallR X (.builtin "len") (rLen X.K) := call_len_seq
def rIsiU (K : Frag) : List V → Hp → VK → Prop := fun xs H Q => rIsi K xs H Q ∨ rIsiT K xs H Q
theorem u_isi : CallR X (.builtin "isinstance") (rIsiU X.K) := call_isi.or call_isiT
abbrev rInt : List V → Hp → VK → Prop := fun xs H Q => (∃ i, xs = [.int i] ∧ Q (.int i) H) ∨ ∃ k, xs = [.bl k] ∧ Q (.int (if k then 1 else 0)) H
theorem u_int : CallR X (.type "int") rInt := call_int1
abbrev rList (K : Frag) : List V → Hp → VK → Prop := fun xs H Q => ∃ p ys, xs = [.ref p] ∧ (SqL K H p ys ∨ SqT K H p ys) ∧ ∀ l, H l = none → Q (.ref l) (upd H l (.lst ys))
theorem u_list : CallR X (.type "list") (rList X.K) := call_list_of
abbrev rTuple (K : Frag) : List V → Hp → VK → Prop := fun xs H Q => ∃ p ys, xs = [.ref p] ∧ ((SqL K H p ys ∧ ∀ l, H l = none → Q (.ref l) (upd H l (.tup ys))) ∨ (SqT K H p ys ∧ Q (.ref p) H))
theorem u_tuple : CallR X (.type "tuple") (rTuple X.K) := call_tuple_of
def rSlice (K : Frag) : V → Option Int → Option Int → Hp → VK → Prop := fun x lo hi H Q => rSlL K x lo hi H Q ∨ rSlA K x lo hi H Q
theorem u_slice : SlR X (rSlice X.K) := sl_list.or sl_tupA
def iSeq (K : Frag) (tl : TE) : TI := fun σ H R => iList K tl σ H R ∨ iTup K tl σ H R
theorem u_iter {tg l : Expr} {tl : TE} (hl : PE X l tl) : PI X tg l (iSeq X.K tl) := PI.alt (pi_list hl) (pi_tup hl)
theorem u_min (hc : X.calm = true) : CallR X (.builtin "min") (fun xs H Q => (∃ i j, xs = [.int i, .int j] ∧ Q (.int (if j < i then j else i)) H) ∨ rMin X.K xs H Q) := (call_min2 hc).or (cr_min hc)
theorem u_max (hc : X.calm = true) : CallR X (.builtin "max") (fun xs H Q => (∃ i j, xs = [.int i, .int j] ∧ Q (.int (if j > i then j else i)) H) ∨ rMax X.K xs H Q) := (call_max2 hc).or (cr_max hc)
end
/-! ### what stays: all but the bag at b -/
/-- everything else stays -/
def Kp (b : Addr) (H H' : Hp) : Prop := ∀ a o, a ≠ b → H a = some o → H' a = some o
theorem Kp.refl (b : Addr) (H : Hp) : Kp b H H := fun _ _ _ h => h
theorem Kp.trans {b : Addr} {H H1 H2 : Hp} (p : Kp b H H1) (q : Kp b H1 H2) : Kp b H H2 := fun a o n h => q a o n (p a o n h)
theorem Kp.new {b p : Addr} {H H1 : Hp} {o : HO} (k : Kp b H H1) (h : H1 p = none) : Kp b H (upd H1 p o) := fun a u n e => by
  have q := k a u n e
  rw [upd_ne (ne_of_none q h)]
  exact q
/-- an object that is new since H may change -/
theorem Kp.mut {b p : Addr} {H H1 : Hp} {o : HO} (k : Kp b H H1) (h : H p = none) : Kp b H (upd H1 p o) := fun a u n e => by
  rw [upd_ne (ne_of_none e h)]
  exact k a u n e
theorem Kp.bag {b : Addr} {H H1 : Hp} {o : HO} (k : Kp b H H1) : Kp b H (upd H1 b o) := fun a u n e => by
  rw [upd_ne n]
  exact k a u n e
theorem Kp.free {b p : Addr} {H H1 : Hp} (k : Kp b H H1) (h : H1 p = none) (n : p ≠ b) : H p = none := by
  cases q : H p with
  | none => rfl
  | some o =>
    rw [k p o n q] at h
    cases h
theorem same_kp {b : Addr} {H H' : Hp} (s : Same H H') : Kp b H H' := fun a o _ h => s a o h
/-! ### the way on, construct by construct -/
section
variable {σ : L2.St} {H : Hp} {Q : VK} {K : Frag}
theorem n_add {i j : Int} (q : Q (.int (i + j)) H) : rAdd K (.int i) (.int j) H Q := .inl ⟨i, j, rfl, rfl, q⟩
theorem n_cat {l m : Addr} {xs ys : List V} (h1 : H l = some (.lst xs)) (h2 : H m = some (.lst ys)) (z : xs.length + ys.length ≤ sizeLine) (q : ∀ p, H p = none → Q (.ref p) (upd H p (.lst (xs ++ ys)))) : rAdd K (.ref l) (.ref m) H Q :=
  .inr (.inl ⟨l, m, xs, ys, rfl, rfl, h1, h2, z, q⟩)
theorem n_mul {i j : Int} (c : CMul i j) (q : Q (.int (i * j)) H) : rMul (.int i) (.int j) H Q := .inl ⟨i, j, rfl, rfl, c, q⟩
theorem n_eq {x y : V} (s : scal x y = true) (q : Q (.bl (decide (x = y))) H) : rEqU K x y H Q := .inl ⟨s, q⟩
theorem n_ne {x y : V} (s : scal x y = true) (q : Q (.bl (!decide (x = y))) H) : rNeU K x y H Q := .inl ⟨s, q⟩
theorem n_eqD {x y : V} {d e : PyData} (hd : Dp K H x d) (he : Dp K H y e) (sd : SeqAt.shaped d = true) (se : SeqAt.shaped e = true) (q : Q (.bl (PyData.eqv d e)) H) : rEqU K x y H Q := .inr ⟨d, e, hd, he, sd, se, q⟩
theorem n_neD {x y : V} {d e : PyData} (hd : Dp K H x d) (he : Dp K H y e) (sd : SeqAt.shaped d = true) (se : SeqAt.shaped e = true) (q : Q (.bl (!PyData.eqv d e)) H) : rNeU K x y H Q := .inr ⟨d, e, hd, he, sd, se, q⟩
theorem n_isi {x : V} {n m : String} {b : Bool} (ty : TyX K H x (.type n)) (h : kitB n m = some b) (q : Q (.bl b) H) : rIsiU K [x, .ty m] H Q := .inl ⟨x, .ty m, _, _, b, rfl, .ty m, ty, kit_ty h, q⟩
theorem n_isiX {x : V} {t : Value} {m : String} {b : Bool} (ty : TyX K H x t) (h : PySem.W.kitOne K t (.type m) = some b) (q : Q (.bl b) H) : rIsiU K [x, .ty m] H Q := .inl ⟨x, .ty m, _, _, b, rfl, .ty m, ty, h, q⟩
theorem n_len {p : Addr} {ys : List V} (h : SqL K H p ys ∨ SqT K H p ys) (q : Q (.int ys.length) H) : rLen K [.ref p] H Q := ⟨p, ys, rfl, h, q⟩
theorem n_int {i : Int} (q : Q (.int i) H) : rInt [.int i] H Q := .inl ⟨i, rfl, q⟩
theorem n_ib {k : Bool} (q : Q (.int (if k then 1 else 0)) H) : rInt [.bl k] H Q := .inr ⟨k, rfl, q⟩
theorem n_ixL {p : Addr} {xs : List V} {i : Int} {v : V} (h : SqL K H p xs) (hi : atI xs i = some v) (q : Q v H) : rIx K (.ref p) (.int i) H Q := .inl ⟨p, xs, i, v, rfl, rfl, h, hi, q⟩
theorem n_ixT {p : Addr} {xs : List V} {i : Int} {v : V} (h : SqT K H p xs) (hi : atI xs i = some v) (q : Q v H) : rIx K (.ref p) (.int i) H Q := .inr (.inl ⟨p, xs, i, v, rfl, rfl, h, hi, q⟩)
theorem n_inT {x : V} {p : Addr} {xs : List V} (h : H p = some (.tup xs)) (f1 : flatV x = true) (f2 : xs.all flatV = true) (q : Q (.bl (inV x xs)) H) : rIn K false x (.ref p) H Q := ⟨p, xs, rfl, .inr (SqT.of h), f1, f2, q⟩
theorem n_inL {x : V} {p : Addr} {xs : List V} (h : H p = some (.lst xs)) (f1 : flatV x = true) (f2 : xs.all flatV = true) (q : Q (.bl (inV x xs)) H) : rIn K false x (.ref p) H Q := ⟨p, xs, rfl, .inl (SqL.of h), f1, f2, q⟩
theorem n_isN {x : V} (q : Q (.bl (decide (x = .non))) H) : rIsU x .non H Q := .inl ⟨rfl, q⟩
theorem n_notN {x : V} (q : Q (.bl (!decide (x = .non))) H) : rNotU x .non H Q := .inl ⟨rfl, q⟩
theorem n_isB {a b : Bool} (q : Q (.bl (decide (a = b))) H) : rIsU (.bl a) (.bl b) H Q := .inr (.inl ⟨a, b, rfl, rfl, q⟩)
theorem n_isBI {i : Int} {b : Bool} (q : Q (.bl false) H) : rIsU (.int i) (.bl b) H Q := .inr (.inr ⟨i, b, rfl, rfl, q⟩)
theorem n_notB {a b : Bool} (q : Q (.bl (!decide (a = b))) H) : rNotU (.bl a) (.bl b) H Q := .inr (.inl ⟨a, b, rfl, rfl, q⟩)
theorem n_notBI {i : Int} {b : Bool} (q : Q (.bl true) H) : rNotU (.int i) (.bl b) H Q := .inr (.inr ⟨i, b, rfl, rfl, q⟩)
end
end EL

/- part V -/
/-! the administrative steps of a reading -/
namespace EL
open PySem PySem.Spec PyProof.Rows L2
open PySem.W (Frag)
section
variable {σ : L2.St} {H : Hp} {Q : VK} {K : Frag} {i : Nat} {v : V} {D : Ends} {ta tb te tc : TE} {t u t1 t2 : TS} {c c2 : TT} {tl tr : TA} {g : TG}
theorem a_var (h : σ[i]? = some (some v)) (q : Q v H) : tVar i σ H Q := ⟨v, h, q⟩
theorem a_c (q : Q v H) : tC v σ H Q := q
theorem a_op {r : R2} (q : ta σ H fun x H1 => tb σ H1 fun y H2 => r x y H2 Q) : tOp r ta tb σ H Q := q
theorem a_un {r : V → Hp → VK → Prop} (q : ta σ H fun x H1 => r x H1 Q) : tUn r ta σ H Q := q
theorem a_U {j : Int} {f : Int → V} (q : Q (f j) H) : rU f (.int j) H Q := ⟨j, rfl, q⟩
theorem a_nil {R : List V → Hp → Prop} (q : R [] H) : tNil σ H R := q
theorem a_cons {R : List V → Hp → Prop} (q : te σ H fun x H1 => tl σ H1 fun xs H2 => R (x :: xs) H2) : tCons te tl σ H R := q
theorem a_cb {r : List V → Hp → VK → Prop} (q : tl σ H fun vs H1 => r vs H1 Q) : tCB r tl σ H Q := q
theorem a_call {sp : Sp} {E : XK} (q : tl σ H fun vs H1 => sp vs H1 Q E) : tCall sp [] E tl σ H Q := by
  show tl σ H fun vs H1 => sp (vs ++ []) H1 Q E
  simpa only [List.append_nil] using q
theorem a_I0 {f : Int → Int → V} {a b : Int} (q : Q (f a b) H) : rI0 f (.int a) (.int b) H Q := ⟨a, b, rfl, rfl, q⟩
theorem a_I {C : Int → Int → Prop} {f : Int → Int → V} {a b : Int} (hc : C a b) (q : Q (f a b) H) : rI C f (.int a) (.int b) H Q := ⟨a, b, rfl, rfl, hc, q⟩
theorem a_seq (q : t { D with nx := u D } σ H) : tSeq t u D σ H := q
theorem a_asg (q : te σ H fun x H1 => g x σ H1 D.nx) : tAsg te g D σ H := q
theorem a_sasg (q : te σ H fun x H1 => g x σ H1 (u D)) : tSeq (tAsg te g) u D σ H := q
theorem a_gn {R : L2.St → Hp → Prop} (q : R (σ.set i (some v)) H) : gName i v σ H R := q
theorem a_drop (q : te σ H fun _ H1 => D.nx σ H1) : tDrop te D σ H := q
theorem a_sdrop (q : te σ H fun _ H1 => u D σ H1) : tSeq (tDrop te) u D σ H := q
theorem a_ret (q : te σ H D.rt) : tRet te D σ H := q
theorem a_if (q : c σ H fun b H1 => if b = true then t1 D σ H1 else t2 D σ H1) : tIfS c t1 t2 D σ H := q
theorem a_next (q : D.nx σ H) : tNext D σ H := q
theorem a_nx {f k1 k2 : L2.St → Hp → Prop} {r : VK} (q : f σ H) : (Ends.mk f r k1 k2).nx σ H := q
theorem a_rt {f k1 k2 : L2.St → Hp → Prop} {r : VK} (q : r v H) : (Ends.mk f r k1 k2).rt v H := q
theorem a_test {R : Bool → Hp → Prop} (q : te σ H fun x H' => ∃ k, x = .bl k ∧ R k H') : tTest te σ H R := q
theorem a_B {R : Bool → Hp → Prop} (q : te σ H fun x H' => ∃ k, x = .bl k ∧ R k H') : tB te σ H R := q
theorem a_bl {R : Bool → Prop} {b : Bool} (q : R b) : ∃ k, V.bl b = V.bl k ∧ R k := ⟨b, rfl, q⟩
theorem a_and {R : Bool → Hp → Prop} (q : c σ H fun b H1 => if b = true then c2 σ H1 R else R false H1) : tAnd c c2 σ H R := q
theorem a_or {R : Bool → Hp → Prop} (q : c σ H fun b H1 => if b = true then R true H1 else c2 σ H1 R) : tOr c c2 σ H R := q
theorem a_not {R : Bool → Hp → Prop} (q : c σ H fun b H1 => R (!b) H1) : tNot c σ H R := q
theorem a_andV (q : ta σ H fun x H1 => ∃ b, x = .bl b ∧ if b = true then tb σ H1 Q else Q (.bl false) H1) : tAndV ta tb σ H Q := q
theorem a_orV (q : ta σ H fun x H1 => ∃ b, x = .bl b ∧ if b = true then Q (.bl true) H1 else tb σ H1 Q) : tOrV ta tb σ H Q := q
theorem a_notV (q : ta σ H fun x H1 => ∃ b, x = .bl b ∧ Q (.bl (!b)) H1) : tNotV ta σ H Q := q
theorem a_ifx (q : c σ H fun b H1 => if b = true then ta σ H1 Q else tb σ H1 Q) : tIf c ta tb σ H Q := q
theorem a_chain {r r' : R2} (q : ta σ H fun x H1 => tb σ H1 fun y H2 => r x y H2 fun z H3 => ∃ k, z = .bl k ∧ (if k = true then tc σ H3 fun w' H4 => r' y w' H4 Q else Q (.bl false) H3)) : tChain r r' ta tb tc σ H Q := q
theorem a_T {A B : Prop} (q : A) : if true = true then A else B := by rw [if_pos rfl]; exact q
theorem a_F {A B : Prop} (q : B) : if false = true then A else B := by rw [if_neg Bool.false_ne_true]; exact q
theorem a_nT {A B : Prop} (q : B) : if (!true) = true then A else B := q
theorem a_nF {A B : Prop} (q : A) : if (!false) = true then A else B := q
theorem a_fld {tv : TE} {f : Str} (q : tv σ H fun y H1 => ta σ H1 fun x H2 => ∃ a C dx fs, x = .ref a ∧ H2 a = some (.ins C dx fs) ∧ Cls K C ∧ NoAttr K C f ∧ fs.length < 1000 ∧ D.nx σ (upd H2 a (.ins C dx (putF f y fs)))) : sFld K ta tv f D σ H := q
theorem a_getF {f : Str} (q : ta σ H fun x H1 => ∃ a C dx fs v, x = .ref a ∧ H1 a = some (.ins C dx fs) ∧ Cls K C ∧ NoAttr K C f ∧ List.lookup f fs = some v ∧ Q v H1) : tFld K ta f σ H Q := q
theorem a_tup {es : TA} (q : es σ H fun xs H1 => xs.length ≤ sizeLine ∧ ∀ p, H1 p = none → Q (.ref p) (upd H1 p (.tup xs))) : tTup es σ H Q := q
theorem a_lst {es : TA} (q : es σ H fun xs H1 => xs.length ≤ sizeLine ∧ ∀ p, H1 p = none → Q (.ref p) (upd H1 p (.lst xs))) : tLst es σ H Q := q
theorem a_ntup {xs : List V} (z : xs.length ≤ sizeLine) (q : ∀ p, H p = none → Q (.ref p) (upd H p (.tup xs))) : xs.length ≤ sizeLine ∧ ∀ p, H p = none → Q (.ref p) (upd H p (.tup xs)) := ⟨z, q⟩
theorem a_nlst {xs : List V} (z : xs.length ≤ sizeLine) (q : ∀ p, H p = none → Q (.ref p) (upd H p (.lst xs))) : xs.length ≤ sizeLine ∧ ∀ p, H p = none → Q (.ref p) (upd H p (.lst xs)) := ⟨z, q⟩
theorem a_sub {to ti : TE} {ts : TSet} {R : L2.St → Hp → Prop} (q : to σ H fun o H1 => ti σ H1 fun j H2 => ts o j v H2 fun H3 => R σ H3) : gSub to ti ts v σ H R := q
theorem a_set {p : Addr} {xs : List V} {k : Int} {j : Nat} {R : Hp → Prop} (h : H p = some (.lst xs)) (hj : ixN xs.length k = some j) (q : R (upd H p (.lst (xs.set j v)))) : rSetL (.ref p) (.int k) v H R := ⟨p, xs, k, j, rfl, rfl, h, hj, q⟩
theorem a_augS {to ti te : TE} {tget : V → V → Hp → VK → Prop} {tip : TIp} {ts : TSet} (q : to σ H fun o H1 => ti σ H1 fun j H2 => tget o j H2 fun x H3 => te σ H3 fun y H4 => tip x y H4 fun z H5 => ts o j z H5 fun H6 => D.nx σ H6) :
    tAugS to ti te tget tip ts D σ H := q
theorem a_saugS {to ti te : TE} {tget : V → V → Hp → VK → Prop} {tip : TIp} {ts : TSet} (q : to σ H fun o H1 => ti σ H1 fun j H2 => tget o j H2 fun x H3 => te σ H3 fun y H4 => tip x y H4 fun z H5 => ts o j z H5 fun H6 => u D σ H6) :
    tSeq (tAugS to ti te tget tip ts) u D σ H := q
theorem a_getL {p : Addr} {xs : List V} {k : Int} (h : SqL K H p xs) (hk : atI xs k = some v) (q : Q v H) : rIxL K (.ref p) (.int k) H Q := ⟨p, xs, k, v, rfl, rfl, h, hk, q⟩
theorem a_ip {f : Int → Int → Int} {a b : Int} (q : Q (.int (f a b)) H) : ipI f (.int a) (.int b) H Q := ⟨a, b, rfl, rfl, q⟩
theorem a_aug {ti : TIp} {x : V} (h : σ[i]? = some (some x)) (q : te σ H fun y H1 => ti x y H1 fun z H2 => D.nx (σ.set i (some z)) H2) : tAug i te ti D σ H := ⟨x, h, q⟩
theorem a_saug {ti : TIp} {x : V} (h : σ[i]? = some (some x)) (q : te σ H fun y H1 => ti x y H1 fun z H2 => u D (σ.set i (some z)) H2) : tSeq (tAug i te ti) u D σ H := ⟨x, h, q⟩
theorem a_par {j : Nat} {a b : V} (q : tl σ H fun vs H1 => ∃ x y, vs = [x, y] ∧ D.nx ((σ.set i (some x)).set j (some y)) H1) : tPar i j tl D σ H := q
theorem a_spar {j : Nat} (q : tl σ H fun vs H1 => ∃ x y, vs = [x, y] ∧ u D ((σ.set i (some x)).set j (some y)) H1) : tSeq (tPar i j tl) u D σ H := q
theorem a_two {R : V → V → Prop} {a b : V} (q : R a b) : ∃ x y, [a, b] = [x, y] ∧ R x y := ⟨a, b, rfl, q⟩
theorem a_cut (M : L2.St → Hp → Prop) (h : t { D with nx := M } σ H) (k : ∀ σ' H', M σ' H' → u D σ' H') : Evl.tCut t u D σ H := ⟨M, h, k⟩
theorem a_abs {j : Int} {R : Int → Prop} (q : R j) : ∃ i, [V.int j] = [V.int i] ∧ R i := ⟨j, rfl, q⟩
theorem a_gtup {n : Nat} {ts : TGs} {a : Addr} {xs : List V} {R : L2.St → Hp → Prop} (h : SqT K H a xs) (z : xs.length = n) (q : ts xs σ H R) : gTup K n ts (.ref a) σ H R := ⟨a, xs, rfl, h, z, q⟩
theorem a_gcons {ts : TGs} {xs : List V} {R : L2.St → Hp → Prop} (q : g v σ H fun σ' H' => ts xs σ' H' R) : gCons g ts (v :: xs) σ H R := ⟨v, xs, rfl, q⟩
theorem a_gnil {R : L2.St → Hp → Prop} (q : R σ H) : gNil [] σ H R := ⟨rfl, q⟩
end
theorem a_pairs {tk tv : TE} {r : List (TE × TE)} {σ : L2.St} {H : Hp} {R : List (V × V) → Hp → Prop} (q : tk σ H fun k H1 => tv σ H1 fun v H2 => tPairs r σ H2 fun ps H3 => R ((k, v) :: ps) H3) : tPairs ((tk, tv) :: r) σ H R := q
theorem a_pairs0 {σ : L2.St} {H : Hp} {R : List (V × V) → Hp → Prop} (q : R [] H) : tPairs [] σ H R := q
theorem a_bm {K : Frag} {T : String} {r : V → List V → Hp → VK → Prop} {to : TE} {t : TA} {σ : L2.St} {H : Hp} {Q : VK} (q : to σ H fun x H1 => tyV K T x H1 ∧ t σ H1 fun xs H2 => r x xs H2 Q) : tBM K T r to t σ H Q := q
end EL

/- part W -/
/-! values by what they are: numbers, texts, tracked lists, tuples, dicts, books -/
namespace EL
open PySem PySem.Spec PyProof.Rows L2
open PySem.W (Frag)
/-- the built-in names that stand for themselves -/
structure Bi (mg : Str → Option Value) : Prop where
  len_ : mg "len" = none
  isinstance_ : mg "isinstance" = none
  int_ : mg "int" = none
  bool_ : mg "bool" = none
  str_ : mg "str" = none
  list_ : mg "list" = none
  tuple_ : mg "tuple" = none
  range_ : mg "range" = none
  enumerate_ : mg "enumerate" = none
  zip_ : mg "zip" = none
  abs_ : mg "abs" = none
  repr_ : mg "repr" = none
  min_ : mg "min" = none
  max_ : mg "max" = none
  sum_ : mg "sum" = none
  all_ : mg "all" = none
/-- a constant of the program -/
theorem pe_gc {X : Cx} {x : Str} {v : V} {pos : Pos} (hg : Gl X x) (h : ∃ u, X.mg x = some u ∧ L2.RelV v u) (hdb : (x == ("__debug__" : Str)) = false := by decide) : PE X (.Name x pos) (tC v) := by
  obtain ⟨u, h1, h2⟩ := h
  exact pe_glob hg h1 h2 hdb
/-- what isinstance asks of an own class -/
structure OwnC (K : Frag) (C : Addr) : Prop where
  cl : Cls K C
  cls : PySem.W.findIn K (.ref C) "__class__" = some (some (.builtin "object.__class__"))
  get : PySem.W.specialIn K (.builtin "object.__class__") "__get__" = some (some (.builtin "getset_descriptor.__get__"))
  tak : PySem.W.takesIn K (.builtin "object.__class__") = some true
  obj : PySem.W.mroIn K C (.type "object") = some true
  kInt : PySem.W.kitOne K (.ref C) (.type "int") = some false
  kBool : PySem.W.kitOne K (.ref C) (.type "bool") = some false
  kStr : PySem.W.kitOne K (.ref C) (.type "str") = some false
  kTup : PySem.W.kitOne K (.ref C) (.type "tuple") = some false
  kLst : PySem.W.kitOne K (.ref C) (.type "list") = some false
/-- a value that is known -/
inductive Th (K : Frag) (H : Hp) : V → Prop
  | non : Th K H .non
  | bl (b : Bool) : Th K H (.bl b)
  | int (i : Int) : Th K H (.int i)
  | str (x : Str) : Th K H (.str x)
  | lst {a : Addr} {xs : List V} (h : H a = some (.lst xs)) : Th K H (.ref a)
  | tup {a : Addr} {xs : List V} (h : H a = some (.tup xs)) : Th K H (.ref a)
  | dct {a : Addr} {kvs : List (Key × V)} (h : H a = some (.dK kvs)) : Th K H (.ref a)
  | ins {a C dx : Addr} {fs : List (Str × V)} (h : H a = some (.ins C dx fs)) (c : OwnC K C) : Th K H (.ref a)
  | dtt {a : Addr} {kvs : List (List Key × V)} (h : H a = some (.dT kvs)) : Th K H (.ref a)
def isI : V → Bool | .int _ => true | .bl _ => true | _ => false
def isB : V → Bool | .bl _ => true | _ => false
def isS : V → Bool | .str _ => true | _ => false
def obT : Option HO → Bool | some (.tup _) => true | _ => false
def obL : Option HO → Bool | some (.lst _) => true | _ => false
def isT (H : Hp) : V → Bool | .ref a => obT (H a) | _ => false
def isL (H : Hp) : V → Bool | .ref a => obL (H a) | _ => false
structure KitOf (K : Frag) (H : Hp) (x : V) (t : Value) : Prop where
  ty : TyX K H x t
  int : PySem.W.kitOne K t (.type "int") = some (isI x)
  bool : PySem.W.kitOne K t (.type "bool") = some (isB x)
  str : PySem.W.kitOne K t (.type "str") = some (isS x)
  tup : PySem.W.kitOne K t (.type "tuple") = some (isT H x)
  lst : PySem.W.kitOne K t (.type "list") = some (isL H x)
theorem Th.kit {K : Frag} {H : Hp} {x : V} (h : Th K H x) : ∃ t, KitOf K H x t := by
  cases h with
  | non => exact ⟨_, .base .non, kit_ty (by show _ = some false; decide +kernel), kit_ty (by show _ = some false; decide +kernel), kit_ty (by show _ = some false; decide +kernel), kit_ty (by show _ = some false; decide +kernel), kit_ty (by show _ = some false; decide +kernel)⟩
  | bl b => exact ⟨_, .base (.bl b), kit_ty (by show _ = some true; decide +kernel), kit_ty (by show _ = some true; decide +kernel), kit_ty (by show _ = some false; decide +kernel), kit_ty (by show _ = some false; decide +kernel), kit_ty (by show _ = some false; decide +kernel)⟩
  | int i => exact ⟨_, .base (.int i), kit_ty (by show _ = some true; decide +kernel), kit_ty (by show _ = some false; decide +kernel), kit_ty (by show _ = some false; decide +kernel), kit_ty (by show _ = some false; decide +kernel), kit_ty (by show _ = some false; decide +kernel)⟩
  | str s => exact ⟨_, .base (.str s), kit_ty (by show _ = some false; decide +kernel), kit_ty (by show _ = some false; decide +kernel), kit_ty (by show _ = some true; decide +kernel), kit_ty (by show _ = some false; decide +kernel), kit_ty (by show _ = some false; decide +kernel)⟩
  | @lst a xs h =>
    have e1 : isT H (.ref a) = false := by show obT (H a) = _; rw [h]; rfl
    have e2 : isL H (.ref a) = true := by show obL (H a) = _; rw [h]; rfl
    refine ⟨_, .base (.lst h), kit_ty (by show _ = some false; decide +kernel), kit_ty (by show _ = some false; decide +kernel), kit_ty (by show _ = some false; decide +kernel), ?_, ?_⟩
    · rw [e1]; exact kit_ty (by show _ = some _; decide +kernel)
    · rw [e2]; exact kit_ty (by show _ = some _; decide +kernel)
  | @tup a xs h =>
    have e1 : isT H (.ref a) = true := by show obT (H a) = _; rw [h]; rfl
    have e2 : isL H (.ref a) = false := by show obL (H a) = _; rw [h]; rfl
    refine ⟨_, .base (.tup h), kit_ty (by show _ = some false; decide +kernel), kit_ty (by show _ = some false; decide +kernel), kit_ty (by show _ = some false; decide +kernel), ?_, ?_⟩
    · rw [e1]; exact kit_ty (by show _ = some _; decide +kernel)
    · rw [e2]; exact kit_ty (by show _ = some _; decide +kernel)
  | @dct a kvs h =>
    have e1 : isT H (.ref a) = false := by show obT (H a) = _; rw [h]; rfl
    have e2 : isL H (.ref a) = false := by show obL (H a) = _; rw [h]; rfl
    refine ⟨_, .base (.dK h), kit_ty (by show _ = some false; decide +kernel), kit_ty (by show _ = some false; decide +kernel), kit_ty (by show _ = some false; decide +kernel), ?_, ?_⟩
    · rw [e1]; exact kit_ty (by show _ = some _; decide +kernel)
    · rw [e2]; exact kit_ty (by show _ = some _; decide +kernel)
  | @dtt a kvs h =>
    have e1 : isT H (.ref a) = false := by show obT (H a) = _; rw [h]; rfl
    have e2 : isL H (.ref a) = false := by show obL (H a) = _; rw [h]; rfl
    refine ⟨_, .base (.dT h), kit_ty (by show _ = some false; decide +kernel), kit_ty (by show _ = some false; decide +kernel), kit_ty (by show _ = some false; decide +kernel), ?_, ?_⟩
    · rw [e1]; exact kit_ty (by show _ = some _; decide +kernel)
    · rw [e2]; exact kit_ty (by show _ = some _; decide +kernel)
  | @ins a C dx fs h c =>
    have e1 : isT H (.ref a) = false := by show obT (H a) = _; rw [h]; rfl
    have e2 : isL H (.ref a) = false := by show obL (H a) = _; rw [h]; rfl
    refine ⟨_, .base (.ins h c.cl c.cls c.get c.tak c.obj), c.kInt, c.kBool, c.kStr, ?_, ?_⟩
    · rw [e1]; exact c.kTup
    · rw [e2]; exact c.kLst
/-- a known value stays known -/
theorem Th.stay {K : Frag} {b : Addr} {l : List V} {H H' : Hp} {x : V} (h : Th K H x) (hb : H b = some (.lst l)) {l' : List V} (hb' : H' b = some (.lst l')) (k : Kp b H H') : Th K H' x := by
  cases h with
  | non => exact .non
  | bl b => exact .bl b
  | int i => exact .int i
  | str s => exact .str s
  | @lst a xs h =>
    by_cases e : a = b
    · subst e; exact .lst hb'
    · exact .lst (k _ _ e h)
  | @tup a xs h => exact .tup (k _ _ (fun z => by subst z; rw [hb] at h; cases h) h)
  | @dct a xs h => exact .dct (k _ _ (fun z => by subst z; rw [hb] at h; cases h) h)
  | @ins a C dx fs h c => exact .ins (k _ _ (fun z => by subst z; rw [hb] at h; cases h) h) c
  | @dtt a kvs h => exact .dtt (k _ _ (fun z => by subst z; rw [hb] at h; cases h) h)
section
variable {K : Frag} {H : Hp} {Q : VK} {x : V} {t : Value}
theorem n_isT {m : String} {b : Bool} (k : TyX K H x t) (h : PySem.W.kitOne K t (.type m) = some b) (q : Q (.bl b) H) : rIsiU K [x, .ty m] H Q := n_isiX k h q
theorem n_isInt (k : KitOf K H x t) (q : Q (.bl (isI x)) H) : rIsiU K [x, .ty "int"] H Q := n_isT k.ty k.int q
theorem n_isBool (k : KitOf K H x t) (q : Q (.bl (isB x)) H) : rIsiU K [x, .ty "bool"] H Q := n_isT k.ty k.bool q
theorem n_isStr (k : KitOf K H x t) (q : Q (.bl (isS x)) H) : rIsiU K [x, .ty "str"] H Q := n_isT k.ty k.str q
theorem n_isTup (k : KitOf K H x t) (q : Q (.bl (isT H x)) H) : rIsiU K [x, .ty "tuple"] H Q := n_isT k.ty k.tup q
theorem n_isLst (k : KitOf K H x t) (q : Q (.bl (isL H x)) H) : rIsiU K [x, .ty "list"] H Q := n_isT k.ty k.lst q
/-- isinstance(x, (list, tuple)), the tuple just laid -/
theorem n_isLT {p : Addr} (k : KitOf K H x t) (hp : H p = some (.tup [.ty "list", .ty "tuple"])) (q : Q (.bl (isL H x || isT H x)) H) : rIsiU K [x, .ref p] H Q := by
  refine .inr ⟨x, p, _, t, [.type "list", .type "tuple"], isL H x || isT H x, rfl, hp, .cons (.ty "list") (.cons (.ty "tuple") .nil), k.ty, ?_, q⟩
  refine kitAny_cons k.lst (fun e => ?_) (fun e => by rw [e]; rfl)
  rw [e]
  refine kitAny_cons k.tup (fun e2 => ?_) (fun e2 => by rw [e2]; rfl)
  rw [e2]
  rfl
end
theorem _root_.L2.Same.nw {H H1 : Hp} {p : Addr} {o : HO} (k : Same H H1) (h : H1 p = none) : Same H (upd H1 p o) := fun a u e => by
  have q := k a u e
  rw [upd_ne (ne_of_none q h)]
  exact q
/-- an object that is new since H may change -/
theorem _root_.L2.Same.mu {H H1 : Hp} {p : Addr} {o : HO} (k : Same H H1) (h : H p = none) : Same H (upd H1 p o) := fun a u e => by
  rw [upd_ne (ne_of_none e h)]
  exact k a u e
theorem Th.same {K : Frag} {H H' : Hp} {x : V} (h : Th K H x) (k : Same H H') : Th K H' x := by
  cases h with
  | non => exact .non
  | bl b => exact .bl b
  | int i => exact .int i
  | str s => exact .str s
  | lst h => exact .lst (k _ _ h)
  | tup h => exact .tup (k _ _ h)
  | dct h => exact .dct (k _ _ h)
  | ins h c => exact .ins (k _ _ h) c
  | dtt h => exact .dtt (k _ _ h)
/-! ### the class of a sequence; isinstance(x, (list, tuple)) of one -/
theorem _root_.L2.SqT.ty {K : Frag} {H : Hp} {a : Addr} {xs : List V} (h : SqT K H a xs) : TyX K H (.ref a) (.type "tuple") := by
  rcases h with (h | ⟨o, h⟩) | ⟨o, its, n, h, c, _⟩
  · exact .base (.tup h)
  · exact .fTuple h
  · exact .kTuple h c
theorem n_isLTl {K : Frag} {H : Hp} {Q : VK} {x : V} {p : Addr} (ty : TyX K H x (.type "list")) (hp : H p = some (.tup [.ty "list", .ty "tuple"])) (q : Q (.bl true) H) : rIsiU K [x, .ref p] H Q :=
  .inr ⟨x, p, _, _, [.type "list", .type "tuple"], true, rfl, hp, .cons (.ty "list") (.cons (.ty "tuple") .nil), ty, kitAny_cons (b := true) (kit_ty (by decide +kernel)) (fun e => nomatch e) (fun _ => rfl), q⟩
theorem n_isLTt {K : Frag} {H : Hp} {Q : VK} {x : V} {p : Addr} (ty : TyX K H x (.type "tuple")) (hp : H p = some (.tup [.ty "list", .ty "tuple"])) (q : Q (.bl true) H) : rIsiU K [x, .ref p] H Q :=
  .inr ⟨x, p, _, _, [.type "list", .type "tuple"], true, rfl, hp, .cons (.ty "list") (.cons (.ty "tuple") .nil), ty,
    kitAny_cons (b := false) (kit_ty (by decide +kernel)) (fun _ => kitAny_cons (b := true) (kit_ty (by decide +kernel)) (fun e => nomatch e) (fun _ => rfl)) (fun e => nomatch e), q⟩
/-- a list or a tuple, tracked or of the program's top -/
def SqA (K : Frag) (H : Hp) (a : Addr) (xs : List V) : Prop := H a = some (.lst xs) ∨ SqT K H a xs
theorem _root_.L2.SqT.same {K : Frag} {H H' : Hp} {a : Addr} {xs : List V} (h : SqT K H a xs) (s : Same H H') : SqT K H' a xs := by
  rcases h with (h | ⟨o, h⟩) | h
  · exact .inl (.inl (s _ _ h))
  · exact .inl (.inr ⟨o, s _ _ h⟩)
  · exact .inr h
theorem SqA.same {K : Frag} {H H' : Hp} {a : Addr} {xs : List V} (h : SqA K H a xs) (s : Same H H') : SqA K H' a xs := by
  rcases h with h | (h | ⟨o, h⟩) | h
  · exact .inl (s _ _ h)
  · exact .inr (.inl (.inl (s _ _ h)))
  · exact .inr (.inl (.inr ⟨o, s _ _ h⟩))
  · exact .inr (.inr h)
theorem SqA.isLT {K : Frag} {H : Hp} {Q : VK} {a p : Addr} {xs : List V} (h : SqA K H a xs) (hp : H p = some (.tup [.ty "list", .ty "tuple"])) (q : Q (.bl true) H) : rIsiU K [.ref a, .ref p] H Q := by
  rcases h with h | h
  · exact n_isLTl (.base (.lst h)) hp q
  · exact n_isLTt h.ty hp q
theorem SqA.len {K : Frag} {H : Hp} {a : Addr} {xs : List V} (h : SqA K H a xs) : SqL K H a xs ∨ SqT K H a xs := h.elim (fun h => .inl (SqL.of h)) .inr
theorem n_tuple {K : Frag} {H : Hp} {Q : VK} {a : Addr} {xs : List V} (h : SqA K H a xs) (q : ∀ r H', Same H H' → SqT K H' r xs → Q (.ref r) H') : rTuple K [.ref a] H Q := by
  rcases h with h | h
  · exact ⟨a, xs, rfl, .inl ⟨SqL.of h, fun l hl => q l _ (L2.Same.nw (Same.refl _) hl) (SqT.of upd_same)⟩⟩
  · exact ⟨a, xs, rfl, .inr ⟨h, q a H (Same.refl _) h⟩⟩
theorem SqT.kp {K : Frag} {H H' : Hp} {a o : Addr} {xs : List V} {C dx : Addr} {fs : List (Str × V)} (h : SqT K H a xs) (ho : H o = some (.ins C dx fs)) (k : Kp o H H') : SqT K H' a xs := by
  rcases h with (h | ⟨o, h⟩) | h
  · exact .inl (.inl (k _ _ (fun z => by subst z; rw [ho] at h; cases h) h))
  · exact .inl (.inr ⟨_, k _ _ (fun z => by subst z; rw [ho] at h; cases h) h⟩)
  · exact .inr h
theorem SqA.kp {K : Frag} {H H' : Hp} {a o : Addr} {xs : List V} {C dx : Addr} {fs : List (Str × V)} (h : SqA K H a xs) (ho : H o = some (.ins C dx fs)) (k : Kp o H H') : SqA K H' a xs := by
  rcases h with h | h
  · exact .inl (k _ _ (fun z => by subst z; rw [ho] at h; cases h) h)
  · exact .inr (SqT.kp h ho k)
theorem n_ixA {K : Frag} {H : Hp} {Q : VK} {p : Addr} {xs : List V} {i : Int} {v : V} (h : SqA K H p xs) (hi : atI xs i = some v) (q : Q v H) : rIx K (.ref p) (.int i) H Q := h.elim (fun h => n_ixL (SqL.of h) hi q) fun h => n_ixT h hi q
/-! ### loops -/
/-- the loop itself, its walk made -/
def Lp (J : It) (g : TG) (tb : TS) (D : Ends) (σ : L2.St) (H : Hp) : Prop := ∃ W : Nat → Nat → L2.St → Hp → Prop, (∃ m, W 0 m σ H) ∧ ∀ (i m : Nat) (σ : L2.St) (H : Hp), W i m σ H →
  (J.stop i H ∧ D.nx σ H) ∨ (J.go i H ∧ ∃ N : L2.St → Hp → Prop, (∀ σ' H', N σ' H' → ∃ m', m' < m ∧ W (i + 1) m' σ' H') ∧ ∀ x H', J.yld i H x H' → g x σ H' fun σ2 H2 => tb { nx := N, rt := D.rt, bk := D.nx, ct := N } σ2 H2)
section
variable {σ : L2.St} {H : Hp} {K : Frag} {D : Ends} {g : TG} {tb u : TS} {wi : TI} {ta : TA} {te : TE} {R : It → Hp → Prop}
theorem a_for (q : wi σ H fun J H1 => Lp J g tb D σ H1) : tFor wi g tb D σ H := q
theorem a_sfor (q : wi σ H fun J H1 => Lp J g tb { D with nx := u D } σ H1) : tSeq (tFor wi g tb) u D σ H := q
theorem a_iE1 (q : ta σ H fun vs H1 => ∃ a xs, vs = [.ref a] ∧ SqT K H1 a xs ∧ R (Ites K a 0) H1) : iE1 K ta σ H R := q
theorem a_iEs {k : Int} (q : ta σ H fun vs H1 => ∃ a xs, vs = [.ref a] ∧ SqT K H1 a xs ∧ R (Ites K a k) H1) : iEs K k ta σ H R := q
theorem a_iEz {k : Int} (q : ta σ H fun vs H1 => ∃ a b xs ys, vs = [.ref a, .ref b] ∧ SqT K H1 a xs ∧ SqT K H1 b ys ∧ R (Itez K a b k) H1) : iEz K k ta σ H R := q
theorem a_iEnum (q : ta σ H fun vs H1 => ∃ a xs, vs = [.ref a] ∧ SqL K H1 a xs ∧ R (Ite K a) H1) : iEnum K ta σ H R := q
theorem a_iSeq (q : iList K te σ H R ∨ iTup K te σ H R) : iSeq K te σ H R := q
theorem a_iTup (q : te σ H fun x H1 => ∃ a, x = .ref a ∧ (∃ xs, SqT K H1 a xs) ∧ R (Itt K a) H1) : iTup K te σ H R := q
theorem a_iList (q : te σ H fun x H1 => ∃ a, x = .ref a ∧ (∃ xs, SqL K H1 a xs) ∧ R (Itl K a) H1) : iList K te σ H R := q
theorem lp_it {J : It} {n : Nat} {G : Hp → Prop} {Y : Nat → Hp → V → Hp → Prop} (w : Walk J n G Y) (Pv : Nat → L2.St → Hp → Prop) (h0 : Pv 0 σ H) (hG : ∀ i σ H, i ≤ n → Pv i σ H → G H)
    (hs : ∀ i x σ H H', i < n → Pv i σ H → Y i H x H' → g x σ H' fun σ2 H2 => tb { nx := Pv (i + 1), rt := D.rt, bk := D.nx, ct := Pv (i + 1) } σ2 H2) (hd : ∀ σ H, Pv n σ H → D.nx σ H) : Lp J g tb D σ H := for_it w Pv h0 hG hs hd
theorem lp_range {lo : Int} {n : Nat} (Pv : Nat → L2.St → Hp → Prop) (h0 : Pv 0 σ H) (hs : ∀ i σ H, i < n → Pv i σ H → g (.int (lo + i)) σ H fun σ2 H2 => tb { nx := Pv (i + 1), rt := D.rt, bk := D.nx, ct := Pv (i + 1) } σ2 H2) (hd : ∀ σ H, Pv n σ H → D.nx σ H) :
    Lp (Itr lo n) g tb D σ H := for_range Pv h0 hs hd
end
/-! ### comprehensions -/
def Lc (J : It) (g : TG) (tt : TT) (te : TE) (vs : List Nat) (σ : L2.St) (H1 : Hp) (D : Addr) (Qd : Hp → Prop) : Prop := ∃ W : Nat → Nat → Hp → Prop, (∃ m, W 0 m (upd H1 D (.lst []))) ∧ ∀ (i m : Nat) (H : Hp), W i m H →
  (J.stop i H ∧ Qd H) ∨ (J.go i H ∧ ∃ Nx : Hp → Prop, (∀ H', Nx H' → ∃ m', m' < m ∧ W (i + 1) m' H') ∧ ∀ (x : V) (H' : Hp), J.yld i H x H' → g x (wipe σ vs) H' fun σ2 H2 => wipe σ2 vs = wipe σ vs ∧
    tt σ2 H2 fun b H3 => if b = true then te σ2 H3 fun y H4 => ∃ acc, H4 D = some (.lst acc) ∧ acc.length < sizeLine ∧ Nx (upd H4 D (.lst (acc ++ [y]))) else Nx H3)
section
variable {σ : L2.St} {H : Hp} {Q : VK} {g : TG} {tt : TT} {te : TE} {wi : TI} {vs : List Nat}
theorem a_lc (q : wi σ H fun J H1 => ∀ D, H1 D = none → Lc J g tt te vs σ H1 D fun H2 => Q (.ref D) H2) : tLc wi g tt te vs σ H Q := q
theorem lc_of {J : It} {n : Nat} {G : Hp → Prop} {Y : Nat → Hp → V → Hp → Prop} (w : Walk J n G Y) {H1 : Hp} {D : Addr} {Qd : Hp → Prop} (Pv : Nat → Hp → Prop) (h0 : Pv 0 (upd H1 D (.lst []))) (hG : ∀ i H, i ≤ n → Pv i H → G H)
    (hs : ∀ i x H H', i < n → Pv i H → Y i H x H' → g x (wipe σ vs) H' fun σ2 H2 => wipe σ2 vs = wipe σ vs ∧ tt σ2 H2 fun b H3 => if b = true then te σ2 H3 fun y H4 => ∃ acc, H4 D = some (.lst acc) ∧ acc.length < sizeLine ∧ Pv (i + 1) (upd H4 D (.lst (acc ++ [y]))) else Pv (i + 1) H3)
    (hd : ∀ H, Pv n H → Qd H) : Lc J g tt te vs σ H1 D Qd := lc_it w Pv h0 hG hs hd
theorem a_yes {R : Bool → Hp → Prop} (q : R true H) : tYes σ H R := q
theorem a_wp {A B : Prop} (a : A) (b : B) : A ∧ B := ⟨a, b⟩
theorem a_sl {r : V → Option Int → Option Int → Hp → VK → Prop} {tl th : TO} (q : te σ H fun x H1 => tl σ H1 fun l H2 => th σ H2 fun u H3 => r x l u H3 Q) : tSl r te tl th σ H Q := q
theorem a_nop {R : Option Int → Hp → Prop} (q : R none H) : tNoPart σ H R := q
theorem a_prt {R : Option Int → Hp → Prop} (q : te σ H fun x H1 => ∃ i, x = .int i ∧ R (some i) H1) : tPart te σ H R := q
theorem a_ex1 {R : Int → Prop} {i : Int} (q : R i) : ∃ j, V.int i = V.int j ∧ R j := ⟨i, rfl, q⟩
end
section
variable {σ : L2.St} {H : Hp} {ta : TA} {R : It → Hp → Prop}
theorem a_rng1 (q : ta σ H fun vs H1 => ∃ j : Int, vs = [.int j] ∧ -2 ^ 62 ≤ j ∧ j < 2 ^ 62 ∧ R (Itr 0 j.toNat) H1) : iRng1 ta σ H R := q
theorem a_rng2 (q : ta σ H fun vs H1 => ∃ i j : Int, vs = [.int i, .int j] ∧ (-2 ^ 62 ≤ i ∧ i < 2 ^ 62 ∧ -2 ^ 62 ≤ j ∧ j < 2 ^ 62) ∧ R (Itr i (j - i).toNat) H1) : iRng2 ta σ H R := q
end
end EL

/- part T -/
/-! tracked data: what is laid and known, with empty dicts; repr of it; t[::-1] of a tuple -/
namespace EL
open PySem PySem.Spec PyProof.Rows L2
open PySem.W (Frag)
mutual
inductive Tk (H : Hp) : V → PyData → Prop
  | non : Tk H .non .none
  | bl (b : Bool) : Tk H (.bl b) (.bool b)
  | int (i : Int) : Tk H (.int i) (.int i)
  | str (x : Str) : Tk H (.str x) (.str x)
  | lst {a : Addr} {xs : List V} {ds : List PyData} (h : H a = some (.lst xs)) (t : TkAll H xs ds) : Tk H (.ref a) (.list ds)
  | tup {a : Addr} {xs : List V} {ds : List PyData} (h : H a = some (.tup xs)) (t : TkAll H xs ds) : Tk H (.ref a) (.tuple ds)
  | dct {a : Addr} (h : H a = some (.dK [])) : Tk H (.ref a) (.dict [])
inductive TkAll (H : Hp) : List V → List PyData → Prop
  | nil : TkAll H [] []
  | cons {v : V} {vs : List V} {d : PyData} {ds : List PyData} (h : Tk H v d) (t : TkAll H vs ds) : TkAll H (v :: vs) (d :: ds)
end
mutual
theorem tk_same {H H' : Hp} (s : Same H H') : ∀ (d : PyData) (v : V), Tk H v d → Tk H' v d
  | .none, _, h => by cases h; exact .non
  | .bool _, _, h => by cases h; exact .bl _
  | .int _, _, h => by cases h; exact .int _
  | .str _, _, h => by cases h; exact .str _
  | .list ds, _, h => by
    cases h with
    | lst a t => exact .lst (s _ _ a) (tk_sameAll s ds _ t)
  | .tuple ds, _, h => by
    cases h with
    | tup a t => exact .tup (s _ _ a) (tk_sameAll s ds _ t)
  | .dict _, _, h => by
    cases h with
    | dct a => exact .dct (s _ _ a)
theorem tk_sameAll {H H' : Hp} (s : Same H H') : ∀ (ds : List PyData) (vs : List V), TkAll H vs ds → TkAll H' vs ds
  | [], _, h => by cases h; exact .nil
  | d :: ds, _, h => by
    cases h with
    | cons h1 h2 => exact .cons (tk_same s d _ h1) (tk_sameAll s ds _ h2)
end
theorem Tk.same {H H' : Hp} {v : V} {d : PyData} (h : Tk H v d) (s : Same H H') : Tk H' v d := tk_same s d v h
theorem TkAll.same {H H' : Hp} {v : List V} {d : List PyData} (h : TkAll H v d) (s : Same H H') : TkAll H' v d := tk_sameAll s d v h
theorem TkAll.mem {H : Hp} : ∀ {vs : List V} {ds : List PyData}, TkAll H vs ds → ∀ y ∈ vs, ∃ e, e ∈ ds ∧ Tk H y e
  | [], _, _, _, h => nomatch h
  | v :: vs, _, .cons h t, y, hy => by
    rcases List.mem_cons.mp hy with rfl | q
    · exact ⟨_, List.mem_cons_self .., h⟩
    · obtain ⟨e, m, k⟩ := TkAll.mem t y q
      exact ⟨e, List.mem_cons_of_mem _ m, k⟩
theorem TkAll.app {H : Hp} : ∀ {vs ws : List V} {ds es : List PyData}, TkAll H vs ds → TkAll H ws es → TkAll H (vs ++ ws) (ds ++ es)
  | [], _, _, _, .nil, h => h
  | _ :: _, _, _, _, .cons h t, k => .cons h (TkAll.app t k)
theorem TkAll.at_ {H : Hp} {vs : List V} {ds : List PyData} (h : TkAll H vs ds) : ∀ (i : Nat) (v : V), vs[i]? = some v → ∃ d, ds[i]? = some d ∧ Tk H v d := by
  induction vs generalizing ds with
  | nil => intro i v e; cases i <;> cases e
  | cons w ws ih =>
    intro i v e
    cases h with
    | cons h1 h2 =>
      cases i with
      | zero => cases e; exact ⟨_, rfl, h1⟩
      | succ i => exact ih h2 i v e
theorem tk_ints {H : Hp} : ∀ (js : List Int), TkAll H (js.map V.int) (js.map PyData.int)
  | [] => .nil
  | j :: r => .cons (.int j) (tk_ints r)
theorem Tk.th {K : Frag} {H : Hp} {v : V} {d : PyData} (h : Tk H v d) : Th K H v := by
  cases h with
  | non => exact .non
  | bl b => exact .bl b
  | int i => exact .int i
  | str x => exact .str x
  | lst h _ => exact .lst h
  | tup h _ => exact .tup h
  | dct h => exact .dct h
theorem Tk.el {H : Hp} {q : Addr} {d : PyData} {xs : List V} (h : Tk H (.ref q) d) (e : H q = some (.tup xs)) : ∃ ds, d = .tuple ds ∧ TkAll H xs ds := by
  cases h with
  | lst h _ => rw [h] at e; cases e
  | tup h t => rw [h] at e; cases e; exact ⟨_, rfl, t⟩
  | dct h => rw [h] at e; cases e
theorem Tk.elL {H : Hp} {q : Addr} {d : PyData} {xs : List V} (h : Tk H (.ref q) d) (e : H q = some (.lst xs)) : ∃ ds, d = .list ds ∧ TkAll H xs ds := by
  cases h with
  | lst h t => rw [h] at e; cases e; exact ⟨_, rfl, t⟩
  | tup h _ => rw [h] at e; cases e
  | dct h => rw [h] at e; cases e
theorem Tk.els {K : Frag} {H : Hp} {x : V} {d : PyData} (h : Tk H x d) (q : Addr) (xs : List V) (ex : x = .ref q) (e : H q = some (.tup xs)) : ∀ y ∈ xs, Th K H y := fun y hy => by
  subst ex
  obtain ⟨ds, _, t⟩ := h.el e
  obtain ⟨e, _, k⟩ := t.mem y hy
  exact k.th
/-! ### the heap without the bag -/
def wo (b : Addr) (H : Hp) : Hp := fun a => if a = b then none else H a
theorem wo_ne {b a : Addr} {H : Hp} {o : HO} (n : a ≠ b) (h : H a = some o) : wo b H a = some o := by unfold wo; rw [if_neg n]; exact h
theorem wo_same {b : Addr} {H : Hp} : Same (wo b H) H := fun a o h => by
  unfold wo at h
  by_cases e : a = b
  · rw [if_pos e] at h; cases h
  · rw [if_neg e] at h; exact h
theorem wo_kp {b : Addr} {H H' : Hp} (k : Kp b H H') : Same (wo b H) (wo b H') := fun a o h => by
  unfold wo at h
  by_cases e : a = b
  · rw [if_pos e] at h; cases h
  · rw [if_neg e] at h; exact wo_ne e (k a o e h)
theorem wo_sm {b : Addr} {H H' : Hp} (s : Same H H') : Same (wo b H) (wo b H') := wo_kp (same_kp s)
/-- known apart from the bag -/
abbrev TkB (b : Addr) (H : Hp) (v : V) (d : PyData) : Prop := Tk (wo b H) v d
theorem TkB.tk {b : Addr} {H : Hp} {v : V} {d : PyData} (h : TkB b H v d) : Tk H v d := h.same wo_same
theorem TkB.kp {b : Addr} {H H' : Hp} {v : V} {d : PyData} (h : TkB b H v d) (k : Kp b H H') : TkB b H' v d := h.same (wo_kp k)
/-! ### what can be shown -/
mutual
def gd : PyData → Bool
  | .none | .bool _ => true
  | .int i => decide (i.natAbs < 10 ^ 40)
  | .str x => x.cps.toList.all fun c => decide (c < 16 ^ 8)
  | .list xs | .tuple xs => gdAll xs
  | .dict kvs => kvs.isEmpty
def gdAll : List PyData → Bool
  | [] => true
  | x :: xs => gd x && gdAll xs
end
mutual
def noL : PyData → Bool
  | .list _ => false
  | .tuple xs => noLAll xs
  | _ => true
def noLAll : List PyData → Bool
  | [] => true
  | x :: xs => noL x && noLAll xs
end
structure Fine (d : PyData) : Prop where
  good : gd d = true
  bulk : d.bulk ≤ 300000
  depth : d.depth ≤ 40
  mix : d.hasDict = true → noL d = true
theorem pow10 : (10 : Nat) ^ 40 ≤ 2 ^ 1920 := by decide +kernel
mutual
theorem gd_showable : ∀ (d : PyData), gd d = true → d.showable = true
  | .none, _ => rfl
  | .bool _, _ => rfl
  | .str _, _ => rfl
  | .int i, h => by
    have q : i.natAbs < 10 ^ 40 := by simpa [gd] using h
    have q2 : i.natAbs < 2 ^ 1920 := Nat.lt_of_lt_of_le q pow10
    show decide (i.natAbs.log2 < 1920) = true
    rw [decide_eq_true_iff]
    by_cases e : i.natAbs = 0
    · rw [e]; decide
    · exact (Nat.log2_lt e).mpr q2
  | .list xs, h => gd_showableAll xs h
  | .tuple xs, h => gd_showableAll xs h
  | .dict [], _ => rfl
  | .dict (_ :: _), h => by cases h
theorem gd_showableAll : ∀ (ds : List PyData), gdAll ds = true → PyData.showableAll ds = true
  | [], _ => rfl
  | d :: ds, h => by
    have q : gd d = true ∧ gdAll ds = true := by simpa [gdAll] using h
    show (d.showable && PyData.showableAll ds) = true
    rw [gd_showable d q.1, gd_showableAll ds q.2]
    rfl
end
theorem int_shown {i : Int} (h : i.natAbs < 10 ^ 40) : (PyData.shown (.int i)).length ≤ 42 := by
  have q := int_text_length_le10 (a := i) (k := 40) (by decide) h
  have e : (PyData.shown (.int i)).length = (toString i).length := by
    show (Str.ofString (toString i)).length = _
    exact PySem.ofString_length _
  omega
mutual
theorem gd_short : ∀ (d : PyData), gd d = true → d.leavesShort 42 = true
  | .none, _ => rfl
  | .bool _, _ => rfl
  | .str _, h => h
  | .int i, h => by
    have q : i.natAbs < 10 ^ 40 := by simpa [gd] using h
    show decide (_ ≤ 42) = true
    rw [decide_eq_true_iff]
    exact int_shown q
  | .list xs, h => gd_shortAll xs h
  | .tuple xs, h => gd_shortAll xs h
  | .dict [], _ => rfl
  | .dict (_ :: _), h => by cases h
theorem gd_shortAll : ∀ (ds : List PyData), gdAll ds = true → PyData.leavesShortAll 42 ds = true
  | [], _ => rfl
  | d :: ds, h => by
    have q : gd d = true ∧ gdAll ds = true := by simpa [gdAll] using h
    show (d.leavesShort 42 && PyData.leavesShortAll 42 ds) = true
    rw [gd_short d q.1, gd_shortAll ds q.2]
    rfl
end
theorem Fine.len {d : PyData} (h : Fine d) : d.shown.length ≤ sizeLine := by
  have q := PyData.shown_le_bulk 42 (by decide) d (gd_short d h.good)
  have e : sizeLine = 16777216 := rfl
  have := h.bulk
  omega
/-! ### what the real heap has of it -/
section
variable {X : Cx} {pins : List (Addr × Obj)} {σ : L2.St} {H : Hp} {s : Shared}
mutual
theorem tk_reads (I : Inv X pins σ H s) : ∀ (d : PyData) (v : V) (u : Value), Tk H v d → RelV v u → ∃ as, Reads s.heap u d as ∧ (noL d = true → sysModules ∉ as)
  | .none, _, _, h, r => by
    cases h
    cases r
    exact ⟨_, Reads.none, fun _ => List.not_mem_nil⟩
  | .bool b, _, _, h, r => by
    cases h
    cases r
    exact ⟨_, Reads.bool b, fun _ => List.not_mem_nil⟩
  | .int i, _, _, h, r => by
    cases h
    obtain ⟨t, rfl⟩ := r
    exact ⟨_, Reads.int i t, fun _ => List.not_mem_nil⟩
  | .str x, _, _, h, r => by
    cases h
    obtain ⟨t, rfl⟩ := r
    exact ⟨_, Reads.str x t, fun _ => List.not_mem_nil⟩
  | .list ds, _, _, h, r => by
    cases h with
    | lst hs ha =>
      cases r
      obtain ⟨its, rv, ⟨o, n, ho, hc, _, hd⟩, _⟩ := I.list (SqL.of hs)
      obtain ⟨as, hr, _⟩ := tk_readsAll I ds _ its ha rv
      exact ⟨_, Reads.list ho hc hd hr, fun z => nomatch z⟩
  | .tuple ds, _, _, h, r => by
    cases h with
    | tup hs ha =>
      cases r
      obtain ⟨its, rv, ⟨o, ho, hc, n, hd⟩, _⟩ := I.tuple (SqT.of hs)
      obtain ⟨as, hr, hm⟩ := tk_readsAll I ds _ its ha rv
      exact ⟨_, Reads.tuple ho hc hd hr, hm⟩
  | .dict _, _, _, h, r => by
    cases h with
    | @dct p hp =>
      cases r
      obtain ⟨_, ns, vs, kv, o, es, ep, ho, ex, hd, _, pr, _⟩ := I.hok p _ hp
      cases kv
      have e0 : es.toList = [] := by
        generalize es.toList = l at pr
        cases pr
        rfl
      have e1 : es = #[] := Array.toList_inj.mp e0
      subst e1
      refine ⟨_, .dict ho ex.1 hd .nil .nil, fun _ z => ?_⟩
      have z' : sysModules = p := by simpa using z
      rw [← z'] at ns
      exact absurd ns (by decide)
theorem tk_readsAll (I : Inv X pins σ H s) : ∀ (ds : List PyData) (vs : List V) (us : List Value), TkAll H vs ds → Vals vs us → ∃ as, ReadsAll s.heap us ds as ∧ (noLAll ds = true → sysModules ∉ as)
  | [], _, _, h, r => by
    cases h
    cases r
    exact ⟨_, ReadsAll.nil, fun _ => List.not_mem_nil⟩
  | d :: ds, _, _, h, r => by
    cases h with
    | cons h1 h2 =>
      cases r with
      | cons r1 r2 =>
        obtain ⟨as, q1, m1⟩ := tk_reads I d _ _ h1 r1
        obtain ⟨bs, q2, m2⟩ := tk_readsAll I ds _ _ h2 r2
        refine ⟨_, ReadsAll.cons q1 q2, fun z => ?_⟩
        have q : noL d = true ∧ noLAll ds = true := by simpa [noLAll] using z
        exact fun w => (List.mem_append.mp w).elim (m1 q.1) (m2 q.2)
end
end
def rShowT : List V → Hp → VK → Prop := fun xs H Q => ∃ x d, xs = [x] ∧ Tk H x d ∧ Fine d ∧ Q (.str d.shown) H
theorem u_showT {X : Cx} (hq : Quiet X.A) (hu : X.A.units + 64 < cLine) : CallR X (.builtin "repr") rShowT := by
  rintro pins s σ H xs us Q I r ⟨x, d, rfl, hd, hf, q⟩
  have hlen := hf.len
  have hs := gd_showable d hf.good
  have hdep := hf.depth
  have hm := hf.mix
  cases r with
  | cons rx rn =>
    rename_i u us
    cases rn
    obtain ⟨as, rd, ns⟩ := tk_reads I d x u hd rx
    have ns2 : d.hasDict = true → sysModules ∉ as := fun z => ns (hm z)
    have fin : ∀ t k, EP X pins σ Q (.str d.shown t) { s with toks := k } := fun t k => ⟨V.str d.shown, H, I.tok _, ⟨t, rfl⟩, q⟩
    have fin2 : ∀ h' t k, (∀ b o, s.heap.get? b = some o → h'.get? b = some o) → EP X pins σ Q (.str d.shown t) { s with heap := h', toks := k } := fun h' t tk k => ⟨V.str _, H, I.kept k, ⟨t, rfl⟩, q⟩
    cases rd with
    | none => exact PySem.P.repr_of_none (fin _ _)
    | bool b => exact PySem.P.repr_of_bool (fin _ _)
    | int i t => exact PySem.P.repr_of_int (by simpa [PyData.showable] using hs) (fin _ _)
    | str y t => exact PySem.P.repr_of_str (fin _ _) hlen
    | list h1 h2 h3 h4 => exact repr_of_reads' (h₀ := s.heap) (.list h1 h2 h3 h4) hs ns2 hq (by omega) (fun _ _ e => e) fin2 hlen
    | tuple h1 h2 h3 h4 => exact repr_of_reads' (h₀ := s.heap) (.tuple h1 h2 h3 h4) hs ns2 hq (by omega) (fun _ _ e => e) fin2 hlen
    | dict h1 h2 h3 h4 h5 => exact repr_of_reads' (h₀ := s.heap) (.dict h1 h2 h3 h4 h5) hs ns2 hq (by omega) (fun _ _ e => e) fin2 hlen
end EL

/- part T2 -/
/-! t[::-1] of a tuple -/
namespace EL
open PySem PySem.Spec PyProof.Rows L2
open PySem.W (Frag)
theorem rev_adjust (n : Nat) : Builtin.Slice.sliceAdjust none none (-1) (n : Int) = ((n : Int) - 1, -1) := by
  unfold Builtin.Slice.sliceAdjust
  rfl
theorem rev_places (n : Nat) : Builtin.Slice.slicePlaces ((n : Int) - 1) (-1) (-1) = n := by
  unfold Builtin.Slice.slicePlaces
  have h1 : ¬ ((-1 : Int) > 0) := by omega
  rw [if_neg h1]
  by_cases h : (n : Int) - 1 > -1
  · rw [if_pos h, show (- -1 : Int) = 1 by decide, Int.ediv_one]
    omega
  · rw [if_neg h]
    omega
theorem fm_congr {α β : Type} {f g : α → Option β} : ∀ (l : List α), (∀ x ∈ l, f x = g x) → l.filterMap f = l.filterMap g
  | [], _ => rfl
  | a :: l, h => by rw [List.filterMap_cons, List.filterMap_cons, h a (List.mem_cons_self ..), fm_congr l fun x hx => h x (List.mem_cons_of_mem _ hx)]
theorem rev_pick (xs : Array Value) : ((List.range xs.size).filterMap fun (k : Nat) => xs[((xs.size : Int) - 1 + (k : Int) * (-1)).toNat]?).toArray = xs.toList.reverse.toArray := by
  have e : (List.range xs.size).filterMap (fun (k : Nat) => xs[((xs.size : Int) - 1 + (k : Int) * (-1)).toNat]?) = ((List.range xs.size).map fun k => xs.size - 1 - k).filterMap (xs[·]?) := by
    rw [List.filterMap_map]
    apply fm_congr
    intro k hk
    have := List.mem_range.mp hk
    have q : ((xs.size : Int) - 1 + (k : Int) * (-1)).toNat = xs.size - 1 - k := by omega
    show xs[((xs.size : Int) - 1 + (k : Int) * (-1)).toNat]? = xs[xs.size - 1 - k]?
    rw [q]
  rw [e, PySem.W.krv_range, List.filterMap_reverse, PySem.W.krv_all]
section
variable {prog : Program} {w : World} {A : Around} {E : Value → Shared → Prop} {s : Shared}
open HT in
theorem getItem_tuple_rev {t sl : Addr} {items : Array Value} {vl vu vs : Value} {Q : Value → Shared → Prop} (ht : IsTup s.heap t items) (hs : s.heap.IsSliceOf sl vl vu vs) (pl : IsPart vl none) (pu : IsPart vu none) (ps : IsPart vs (some (-1)))
    (h : Q (.ref s.heap.objs.size) { s with heap := s.heap.push { cls := .type "tuple", data := .seq items.toList.reverse.toArray } }) (hsz : items.size ≤ sizeLine) : wpAny (model prog w) A (getItem (.ref t) (.ref sl)) Q E s := by
  have htake : sizeOk (.seq items.toList.reverse.toArray) := by
    show items.toList.reverse.toArray.size ≤ sizeLine
    rw [List.size_toArray, List.length_reverse, Array.length_toList]
    exact hsz
  obtain ⟨os, hos, hcs, hds⟩ := id hs
  have hTs : s.TypeIs (.ref sl) "slice" := ⟨os, hos, hcs⟩
  unfold getItem
  try with_reducible refine wpAny_holding ?_
  first | refine wpAny_bind (wpAny_pure ?_) | skip
  refine wpAny_bind (wpAny_sequenceKey ht.typeIs (by decide) ?_)
  refine wpAny_bind (wpAny_callSpecial?_slot (name := Str.ofString "__getitem__") ht.typeIs PyProof.Rows.slot_tuple_getitem
    (wpAny_call_entry PyProof.Rows.slot_tuple_getitem ht.typeIs entry_tuple_getitem ?_ (args_tuple_getitem _ _)))
  show wpAny _ _ (Builtin.Tuple.tupleItemsOf (.ref t) >>= _) _ _ s
  refine wpAny_bind (tupleItemsOf_ ht ?_)
  refine wpAny_bind (wpAny_typeOf hTs ?_)
  rw [if_pos (by decide)]
  have ap : ∀ {R : Int × Int × Nat → Shared → Prop}, R ((items.size : Int) - 1, -1, items.size) s → wpAny (model prog w) A.in1 (Builtin.Slice.sliceApplied (.ref sl) (pure (items.size : Int))) R E s := by
    intro R hR
    unfold Builtin.Slice.sliceApplied Builtin.Slice.sliceFields
    refine wpAny_bind (wpAny_bind (wpAny_field hos hds (x := vl) rfl (wpAny_bind (wpAny_field hos hds (x := vu) rfl (wpAny_bind (wpAny_field hos hds (x := vs) rfl (wpAny_pure ?_)))))))
    refine wpAny_bind (slicePart_ ps ?_)
    show wpAny _ _ (if ((-1 : Int) == 0) = true then _ else _) _ _ s
    rw [if_neg (by decide)]
    refine wpAny_bind (slicePart_ pl (wpAny_bind (slicePart_ pu (wpAny_bind (wpAny_pure ?_)))))
    show wpAny _ _ (match Builtin.Slice.sliceAdjust none none (-1) (items.size : Int) with | (lo, hi) => pure (lo, (-1 : Int), Builtin.Slice.slicePlaces lo hi (-1))) _ _ s
    rw [rev_adjust]
    show wpAny _ _ (pure ((items.size : Int) - 1, (-1 : Int), Builtin.Slice.slicePlaces ((items.size : Int) - 1) (-1) (-1))) _ _ s
    rw [rev_places]
    exact wpAny_pure hR
  refine wpAny_bind (ap ?_)
  have hno : ¬ ((((items.size : Int) - 1) == 0 && (-1 : Int) == 1 && items.size == items.size) = true) := by
    intro q
    rw [Bool.and_eq_true, Bool.and_eq_true] at q
    exact absurd q.1.2 (by decide)
  show wpAny _ _ (if (((items.size : Int) - 1) == 0 && (-1 : Int) == 1 && items.size == items.size) = true then _ else _) _ _ s
  rw [if_neg hno, rev_pick]
  first
    | exact wpAny_bind (m := Builtin.Tuple.tupleExact _) (wpAny_newObj_type (wpAny_pure ⟨_, rfl, wpAny_pure h⟩) htake)
    | exact wpAny_bind (m := Builtin.Tuple.tupleExact _) (wpAny_newObj_type (wpAny_bind (wpAny_pure (wpAny_pure ⟨_, rfl, wpAny_pure h⟩))) htake)
    | exact wpAny_bind (wpAny_bind (m := Builtin.Tuple.tupleExact _) (wpAny_newObj_type (wpAny_pure (wpAny_pure ⟨_, rfl, wpAny_pure h⟩)) htake))
    | exact wpAny_bind (wpAny_bind (m := Builtin.Tuple.tupleExact _) (wpAny_newObj_type (wpAny_pure ⟨_, rfl, wpAny_pure h⟩) htake))
end
section
variable {X : Cx}
def tRevT (K : Frag) (te : TE) : TE := fun σ H Q => te σ H fun x H1 => ∃ a xs, x = .ref a ∧ SqT K H1 a xs ∧ ∀ p, H1 p = none → Q (.ref p) (upd H1 p (.tup xs.reverse))
theorem pe_revT {e : Expr} {te : TE} {k : Nat} {p1 p2 p3 pos : Pos} (he : PE X e te) : PE X (.Subscript e (.Slice none none (some (.UnaryOp .USub (.Constant (.int 1) k p1) p2)) p3) pos) (tRevT X.K te) := by
  refine ⟨fun pins s σ H Q I h => ?_⟩
  refine Subscript_ (thn (he.run pins s σ H _ I h) fun v s1 ⟨x, H1, I1, r1, q1⟩ => ?_)
  obtain ⟨a, xs, ex, hx, q⟩ := q1
  subst ex
  cases r1
  have hst : PO X (some (.UnaryOp .USub (.Constant (.int 1) k p1) p2)) (tPart (tUn (rU fun i => .int (-i)) (tC (.int 1)))) := po_some (pe_un un_neg pe_int)
  refine wpAny_Slice (thn (po_none.run pins s1 σ H1 (fun o H2 => o = none ∧ H2 = H1) I1 ⟨rfl, rfl⟩) fun vl s2 ⟨l, H2, I2, pl, el, e2⟩ => ?_)
  subst el e2
  refine thn (po_none.run pins s2 σ H2 (fun o H3 => o = none ∧ H3 = H2) I2 ⟨rfl, rfl⟩) fun vu s3 ⟨u, H3, I3, pu, eu, e3⟩ => ?_
  subst eu e3
  refine thn (hst.run pins s3 σ H3 (fun o H4 => o = some (-1) ∧ H4 = H3) I3 ⟨1, rfl, -1, rfl, rfl, rfl⟩) fun vs s4 ⟨o, H4, I4, ps, eo, e4⟩ => ?_
  subst eo e4
  have I5 : Inv X pins σ H4 { s4 with heap := s4.heap.push { cls := .type "slice", data := .fields #[vl, vu, vs] } } := I4.kept (t' := s4.toks) fun b ob q => Heap.get?_push_of_some _ q
  obtain ⟨its, r, ht, hz⟩ := I5.tuple hx
  have hlen := r.length
  show wpAny (model X.prog X.w) X.A (subscriptTail e (.Slice none none (some (.UnaryOp .USub (.Constant (.int 1) k p1) p2)) p3) (.ref a) (.ref s4.heap.objs.size)) (EP X pins σ Q) X.xe { s4 with heap := s4.heap.push { cls := .type "slice", data := .fields #[vl, vu, vs] } }
  refine tail_any (ops := [.ref a, .ref s4.heap.objs.size]) ht.typeIs (PyProof.Rows.slot_tuple_getitem.lookup) ?_ (by with_unfolding_all rfl)
  refine getItem_tuple_rev ht (Heap.IsSliceOf.new _ vl vu vs) pl pu ps ?_ (by rw [List.size_toArray]; omega)
  refine ⟨.ref _, _, I5.laid (t' := s4.toks) (o := .tup xs.reverse) (fun b ob q => Heap.get?_push_of_some _ q) (Nat.le_refl _) ?_, rfl, q _ (I5.hok.fresh (Nat.le_refl _))⟩
  exact ⟨by rw [List.length_reverse]; exact hz, _, r.reverse, IsTup.new _ _⟩
end
end EL

/- part T3 -/
/-! data of a size; parts of tuples -/
namespace EL
open PySem PySem.Spec PyProof.Rows L2
open PySem.W (Frag)
/-- no dict, so big, so deep -/
structure Sz (n k : Nat) (d : PyData) : Prop where
  good : gd d = true
  bulk : d.bulk ≤ n
  depth : d.depth ≤ k
  nod : d.hasDict = false
theorem Sz.le {n k n' k' : Nat} {d : PyData} (h : Sz n k d) (a : n ≤ n') (b : k ≤ k') : Sz n' k' d := ⟨h.good, Nat.le_trans h.bulk a, Nat.le_trans h.depth b, h.nod⟩
theorem Sz.fine {n k : Nat} {d : PyData} (h : Sz n k d) (a : n ≤ 300000) (b : k ≤ 40) : Fine d := ⟨h.good, Nat.le_trans h.bulk a, Nat.le_trans h.depth b, fun z => by rw [h.nod] at z; cases z⟩
theorem sz_all {n k : Nat} : ∀ {ds : List PyData}, (∀ d ∈ ds, Sz n k d) → gdAll ds = true ∧ PyData.bulkAll ds ≤ ds.length * (n + 1) ∧ PyData.depthAll ds ≤ k ∧ PyData.hasDictAll ds = false
  | [], _ => ⟨rfl, Nat.zero_le _, Nat.zero_le _, rfl⟩
  | d :: ds, h => by
    have q := h d (List.mem_cons_self ..)
    obtain ⟨a, b, c, e⟩ := sz_all fun x hx => h x (List.mem_cons_of_mem _ hx)
    refine ⟨?_, ?_, ?_, ?_⟩
    · show (gd d && gdAll ds) = true
      rw [q.good, a]; rfl
    · show d.bulk + 1 + PyData.bulkAll ds ≤ (ds.length + 1) * (n + 1)
      have := q.bulk
      rw [Nat.add_mul, Nat.one_mul]
      omega
    · show max d.depth (PyData.depthAll ds) ≤ k
      exact Nat.max_le.mpr ⟨q.depth, c⟩
    · show (d.hasDict || PyData.hasDictAll ds) = false
      rw [q.nod, e]; rfl
theorem sz_tup {n k : Nat} {ds : List PyData} (h : ∀ d ∈ ds, Sz n k d) : Sz (ds.length * (n + 1)) (k + 1) (.tuple ds) := by
  obtain ⟨a, b, c, e⟩ := sz_all h
  exact ⟨a, b, Nat.succ_le_succ c, e⟩
theorem sz_lst {n k : Nat} {ds : List PyData} (h : ∀ d ∈ ds, Sz n k d) : Sz (ds.length * (n + 1)) (k + 1) (.list ds) := by
  obtain ⟨a, b, c, e⟩ := sz_all h
  exact ⟨a, b, Nat.succ_le_succ c, e⟩
theorem sz_non : Sz 0 0 .none := ⟨rfl, Nat.le_refl _, Nat.le_refl _, rfl⟩
theorem sz_bl {b : Bool} : Sz 0 0 (.bool b) := ⟨rfl, Nat.le_refl _, Nat.le_refl _, rfl⟩
theorem sz_int {i : Int} (h : i.natAbs < 10 ^ 40) : Sz 0 0 (.int i) := ⟨by show decide _ = true; exact decide_eq_true h, Nat.le_refl _, Nat.le_refl _, rfl⟩
theorem sz_str {s : Str} (h : gd (.str s) = true) : Sz s.cps.size 0 (.str s) := ⟨h, Nat.le_refl _, Nat.le_refl _, rfl⟩
/-- a value that is known apart from the bag, of a size -/
def NiS (n k : Nat) (b : Addr) (H : Hp) (v : V) : Prop := ∃ d, TkB b H v d ∧ Sz n k d
/-- a value that is known apart from the bag, and can be shown -/
def Nice (b : Addr) (H : Hp) (v : V) : Prop := ∃ d, TkB b H v d ∧ Fine d
section
variable {n k : Nat} {b : Addr} {H H' : Hp} {v : V}
theorem NiS.le {n' k' : Nat} (h : NiS n k b H v) (a : n ≤ n') (c : k ≤ k') : NiS n' k' b H v := by
  obtain ⟨d, t, z⟩ := h
  exact ⟨d, t, z.le a c⟩
theorem NiS.nice (h : NiS n k b H v) (a : n ≤ 300000) (c : k ≤ 40) : Nice b H v := by
  obtain ⟨d, t, z⟩ := h
  exact ⟨d, t, z.fine a c⟩
theorem NiS.kp (h : NiS n k b H v) (q : Kp b H H') : NiS n k b H' v := by
  obtain ⟨d, t, z⟩ := h
  exact ⟨d, t.kp q, z⟩
theorem Nice.kp (h : Nice b H v) (q : Kp b H H') : Nice b H' v := by
  obtain ⟨d, t, z⟩ := h
  exact ⟨d, t.kp q, z⟩
theorem NiS.same (h : NiS n k b H v) (q : Same H H') : NiS n k b H' v := h.kp (same_kp q)
theorem Nice.same (h : Nice b H v) (q : Same H H') : Nice b H' v := h.kp (same_kp q)
theorem ni_non : NiS 0 0 b H .non := ⟨_, .non, sz_non⟩
theorem ni_bl {x : Bool} : NiS 0 0 b H (.bl x) := ⟨_, .bl x, sz_bl⟩
theorem ni_int {i : Int} (h : i.natAbs < 10 ^ 40) : NiS 0 0 b H (.int i) := ⟨_, .int i, sz_int h⟩
theorem ni_str {s : Str} (h : gd (.str s) = true := by decide +kernel) : NiS s.cps.size 0 b H (.str s) := ⟨_, .str s, sz_str h⟩
theorem tk_pick {P : PyData → Prop} : ∀ {xs : List V}, (∀ v ∈ xs, ∃ d, TkB b H v d ∧ P d) → ∃ ds, TkAll (wo b H) xs ds ∧ ds.length = xs.length ∧ ∀ d ∈ ds, P d
  | [], _ => ⟨[], .nil, rfl, fun _ h => nomatch h⟩
  | x :: xs, h => by
    obtain ⟨ds, t, l, p⟩ := tk_pick fun v hv => h v (List.mem_cons_of_mem _ hv)
    obtain ⟨d, t1, p1⟩ := h x (List.mem_cons_self ..)
    exact ⟨d :: ds, .cons t1 t, by rw [List.length_cons, List.length_cons, l], fun y hy => (List.mem_cons.mp hy).elim (fun e => e ▸ p1) (p y)⟩
theorem ni_tup {p : Addr} {xs : List V} (hp : H p = some (.tup xs)) (nb : p ≠ b) (h : ∀ v ∈ xs, NiS n k b H v) : NiS (xs.length * (n + 1)) (k + 1) b H (.ref p) := by
  obtain ⟨ds, t, l, q⟩ := tk_pick (P := Sz n k) h
  exact ⟨.tuple ds, .tup (wo_ne nb hp) t, l ▸ sz_tup q⟩
theorem ni_lst {p : Addr} {xs : List V} (hp : H p = some (.lst xs)) (nb : p ≠ b) (h : ∀ v ∈ xs, NiS n k b H v) : NiS (xs.length * (n + 1)) (k + 1) b H (.ref p) := by
  obtain ⟨ds, t, l, q⟩ := tk_pick (P := Sz n k) h
  exact ⟨.list ds, .lst (wo_ne nb hp) t, l ▸ sz_lst q⟩
theorem nice_dct {p : Addr} (hp : H p = some (.dK [])) (nb : p ≠ b) : Nice b H (.ref p) := ⟨_, .dct (wo_ne nb hp), ⟨rfl, by decide, by decide, fun _ => rfl⟩⟩
/-- the items of a known tuple -/
theorem ni_at {p : Addr} {xs : List V} (h : NiS n (k + 1) b H (.ref p)) (hp : H p = some (.tup xs)) : ∀ v ∈ xs, NiS n k b H v := by
  obtain ⟨d, t, z⟩ := h
  cases t with
  | lst e _ => rw [wo_same _ _ e] at hp; cases hp
  | dct e => rw [wo_same _ _ e] at hp; cases hp
  | @tup _ ys ds e t =>
    rw [wo_same _ _ e] at hp
    cases hp
    intro v hv
    obtain ⟨d, hd, q⟩ := t.mem v hv
    refine ⟨d, q, ?_⟩
    have a : ∀ {ds : List PyData}, d ∈ ds → gdAll ds = true → PyData.bulkAll ds ≤ n → PyData.depthAll ds ≤ k → PyData.hasDictAll ds = false → Sz n k d := by
      intro ds
      induction ds with
      | nil => intro h; cases h
      | cons e r ih =>
        intro hm h1 h2 h3 h4
        have g1 : gd e = true ∧ gdAll r = true := by simpa [gdAll] using h1
        have g2 : e.bulk + 1 + PyData.bulkAll r ≤ n := h2
        have g3 : max e.depth (PyData.depthAll r) ≤ k := h3
        have g4 : e.hasDict = false ∧ PyData.hasDictAll r = false := by simpa [PyData.hasDictAll] using h4
        have g5 := Nat.max_le.mp g3
        rcases List.mem_cons.mp hm with rfl | hm
        · exact ⟨g1.1, by omega, g5.1, g4.1⟩
        · exact ih hm g1.2 (by omega) g5.2 g4.2
    have z3 : PyData.depthAll ds + 1 ≤ k + 1 := z.depth
    exact a hd z.good z.bulk (by omega) z.nod
end
/-! ### parts of tuples, joined tuples -/
section
variable {K : Frag} {H : Hp} {Q : VK}
theorem n_catT {a b : Addr} {xs ys : List V} (ha : H a = some (.tup xs)) (hb : H b = some (.tup ys)) (z : xs.length + ys.length ≤ sizeLine) (q : ∀ p H', Same H H' → H' p = some (.tup (xs ++ ys)) → Q (.ref p) H') : rAdd K (.ref a) (.ref b) H Q := by
  refine .inr (.inr ⟨a, b, xs, ys, rfl, rfl, SqT.of ha, SqT.of hb, z, fun e => ?_, fun e1 e2 => ?_, fun _ _ p hp => q p _ (L2.Same.nw (Same.refl _) hp) upd_same⟩)
  · subst e
    exact q b H (Same.refl _) hb
  · subst e2
    exact q a H (Same.refl _) (by rw [List.append_nil]; exact ha)
theorem n_slT {a : Addr} {xs : List V} {lo hi : Option Int} (ha : H a = some (.tup xs)) (q : ∀ p H', Same H H' → H' p = some (.tup (cutV xs lo hi)) → Q (.ref p) H') : rSlice K (.ref a) lo hi H Q := by
  refine .inr ⟨a, xs, rfl, SqT.of ha, fun e => ?_, fun _ p hp => q p _ (L2.Same.nw (Same.refl _) hp) upd_same⟩
  refine q a H (Same.refl _) ?_
  have w : cutV xs lo hi = xs := by
    unfold cutV
    rw [e.1, e.2, List.drop_zero, Nat.sub_zero, List.take_length]
  rw [w]
  exact ha
theorem a_spar3 {σ : L2.St} {D : Ends} {u : TS} {ta : TA} {i j l : Nat} (q : ta σ H fun vs H1 => ∃ x y z, vs = [x, y, z] ∧ u D (((σ.set i (some x)).set j (some y)).set l (some z)) H1) : tSeq (tPar3 i j l ta) u D σ H := q
theorem a_par3 {σ : L2.St} {D : Ends} {ta : TA} {i j l : Nat} (q : ta σ H fun vs H1 => ∃ x y z, vs = [x, y, z] ∧ D.nx (((σ.set i (some x)).set j (some y)).set l (some z)) H1) : tPar3 i j l ta D σ H := q
theorem a_three {R : V → V → V → Prop} {a b c : V} (q : R a b c) : ∃ x y z, [a, b, c] = [x, y, z] ∧ R x y z := ⟨a, b, c, rfl, q⟩
theorem a_revT {σ : L2.St} {te : TE} (q : te σ H fun x H1 => ∃ a xs, x = .ref a ∧ SqT K H1 a xs ∧ ∀ p, H1 p = none → Q (.ref p) (upd H1 p (.tup xs.reverse))) : tRevT K te σ H Q := q
end
theorem cut_mem {xs : List V} {lo hi : Option Int} {v : V} (h : v ∈ cutV xs lo hi) : v ∈ xs := by
  unfold cutV at h
  exact List.mem_of_mem_drop (List.mem_of_mem_take h)
theorem cut_le (xs : List V) (lo hi : Option Int) : (cutV xs lo hi).length ≤ xs.length := by
  unfold cutV
  rw [List.length_take, List.length_drop]
  omega
end EL

/- part A -/
namespace EL
open PySem PySem.Spec PyProof.Rows L2
open PySem.W (Frag)
def top (i : Nat) : Stmt := PySem.Challenge.pw_earlyorlate_k22_ways_with_the_greatest_s.main.body.getD i (.Pass ⟨0, 0, 0, 0⟩)
abbrev s_take : Stmt := top 38
abbrev N_take : List Str := ["_law_bag_here", "_law_many", "_law_cell", "_law_mixed_here", "_law_drawn", "_law_early", "_law_second"]
theorem sc_take : FnScope N_take ["_law_bag_here", "_law_many"] (defScope s_take) := ⟨rfl, rfl, rfl, by decide +kernel, rfl, by decide +kernel, by decide +kernel⟩
structure Tb (mg : Str → Option Value) : Prop where
  b : Bi mg
local macro_rules | `(tactic| walk_at "el1") => `(tactic| with_reducible first
  | refine a_sasg ?_ | refine a_sdrop ?_ | refine a_saugS ?_ | refine a_spar ?_ | refine a_seq ?_ | refine a_asg ?_ | refine a_drop ?_ | refine a_ret ?_ | refine a_if ?_ | refine a_next ?_
  | refine a_op ?_ | refine a_cons ?_ | refine a_nil ?_ | refine a_cb ?_ | refine a_call ?_ | refine a_c ?_ | refine a_gn ?_ | refine a_nx ?_ | refine a_rt ?_ | refine a_un ?_
  | refine a_test ?_ | refine a_B ?_ | refine a_bl ?_ | refine a_and ?_ | refine a_or ?_ | refine a_not ?_ | refine a_andV ?_ | refine a_orV ?_ | refine a_notV ?_ | refine a_ifx ?_ | refine a_chain ?_
  | refine a_nT ?_ | refine a_nF ?_ | refine a_fld ?_ | refine a_getF ?_ | refine a_T ?_ | refine a_F ?_ | refine a_tup ?_ | refine a_lst ?_ | refine a_sub ?_ | refine a_augS ?_ | refine a_two ?_ | refine a_I0 ?_ | refine a_U ?_ | refine n_add ?_ | refine n_int ?_ | refine n_ib ?_ | refine a_ip ?_ | refine a_rng1 ?_ | refine a_rng2 ?_ | refine a_bm ?_ | refine a_abs ?_ | refine a_pairs ?_ | refine a_pairs0 ?_ | refine a_bk ?_ | refine a_prp ?_ | refine a_lc ?_ | refine a_yes ?_ | refine a_sl ?_ | refine a_nop ?_ | refine a_prt ?_ | refine a_ex1 ?_ | refine a_for ?_ | refine a_sfor ?_ | refine a_iE1 ?_ | refine a_iEs ?_ | refine a_iEz ?_ | refine a_iEnum ?_ | refine a_iTup ?_ | refine a_iList ?_ | refine a_gcons ?_ | refine a_gnil ?_ | refine a_revT ?_ | refine a_spar3 ?_ | refine a_par3 ?_ | refine a_three ?_)
local macro_rules | `(tactic| walk_at "el2") => `(tactic| first
  | (refine a_var (by rfl) ?_)
  | (refine n_ixL (SqL.of (by assumption)) (by rfl) ?_) | (refine n_ixT (SqT.of (by assumption)) (by rfl) ?_) | (refine n_eq (by rfl) ?_) | (refine n_ne (by rfl) ?_)
  | (refine n_isN ?_) | (refine n_notN ?_) | (refine n_isB ?_) | (refine n_notB ?_) | (refine n_isBI ?_) | (refine n_notBI ?_) | (refine n_len (.inl (SqL.of (by assumption))) ?_) | (refine n_len (.inr (SqT.of (by assumption))) ?_)
  | (refine a_getL (SqL.of (by assumption)) (by rfl) ?_)
  | (refine n_isInt (by assumption) ?_) | (refine n_isBool (by assumption) ?_) | (refine n_isStr (by assumption) ?_) | (refine n_isTup (by assumption) ?_) | (refine n_isLst (by assumption) ?_))
local macro_rules | `(tactic| walk_at "el") => `(tactic| repeat (first | walk_at "el1" | walk_at "el2"))

/-! ### the bag -/
def Bag (H : Hp) (b c : Addr) : Prop := ∃ (i j k : Int) (cs : List Int), H b = some (.lst [.int i, .int j, .int k, .ref c]) ∧ H c = some (.lst (cs.map V.int)) ∧ c ≠ b ∧ 0 ≤ i ∧ 0 ≤ j ∧ j < 2147483647 ∧ 0 ≤ k ∧ ∀ x ∈ cs, 0 ≤ x
/-- a draw: a number from 0 to many - 1, the bag changed -/
def spTake : Sp := fun vs H Q _ => ∃ (b c : Addr) (m : Int), vs = [.ref b, .int m] ∧ Bag H b c ∧ 0 < m ∧ m ≤ 1000000000 ∧ ∀ (r : Int) H', 0 ≤ r → r < m → Bag H' b c → Kp b H H' → Q (.int r) H'
theorem cell_at {cs : List Int} {k : Int} (h0 : 0 ≤ k) (h1 : k < (cs.map V.int).length) (hc : ∀ x ∈ cs, (0 : Int) ≤ x) : ∃ x, atI (cs.map V.int) k = some (V.int x) ∧ 0 ≤ x := by
  obtain ⟨n, rfl⟩ : ∃ n : Nat, k = n := ⟨k.toNat, by omega⟩
  have hn : n < cs.length := by rw [List.length_map] at h1; omega
  refine ⟨cs[n], atI_nat (by rw [List.getElem?_map, List.getElem?_eq_getElem hn]; rfl), hc _ (List.getElem_mem hn)⟩
section
variable {P : Program} {w : World} {K : Frag} {mg : Str → Option Value} {base : Heap} {f : Addr} {fd : FuncData}
theorem ok_take (F : Fun K "_law_take" "_law_take" s_take f fd) (T : Tb mg) : FnOk P w K mg base CX0 1 f fd ["_law_bag_here", "_law_many"] spTake := by
  refine F.ok sc_take (fun vs H Q E h => ?_) (fun cdv A outer s H vs Q E hr h => ?_)
  · obtain ⟨b, c, m, rfl, _⟩ := h
    rfl
  · obtain ⟨b, c, m, rfl, hB, hm0, hm1, k⟩ := h
    refine ⟨_, (Evl.pss_cut (ps_if (pt_cmpR (u_eq hr.units) (pe_ix ix_seq (pv 0) pe_int (fun _ _ => rfl)) pe_int (nomark _))
    (pss_cons (ps_set (i := 2) sc_take.nd rfl (Or.inl rfl) pe_int)
  (Evl.pss_cut (ps_if (pt_cmpR op_lt (pe_ix ix_seq (pv 0) pe_int (fun _ _ => rfl)) (pe_callB u_len rfl T.b.len_ boot_len (pa_cons (pe_ix ix_seq (pv 0) pe_int (fun _ _ => rfl)) pa_nil)) (nomark _))
    (pss_one (ps_set (i := 2) sc_take.nd rfl (Or.inl rfl) (pe_ix ix_seq (pe_ix ix_seq (pv 0) pe_int (fun _ _ => rfl)) (pe_ix ix_seq (pv 0) pe_int (fun _ _ => rfl)) (fun _ _ => rfl))))
    pss_nil)
  (pss_cons (ps_augS (pv 0) pe_int get_list pe_int ip_add set_list)
  (Evl.pss_cut (ps_if (pt_cmpR op_ge (pv 2) pe_int (nomark _))
    (pss_one (ps_asg (pv 2) (pg_sub (pv 0) pe_int set_list)))
    pss_nil)
  (pss_cons (ps_set (i := 3) sc_take.nd rfl (Or.inl rfl) (pe_op u_add (pe_op u_add (pe_op u_mul (pe_ix ix_seq (pv 0) pe_int (fun _ _ => rfl)) pe_int) (pe_op op_mod (pe_callTy u_int rfl T.b.int_ (by decide +kernel) (pa_cons (pv 2) pa_nil)) pe_int)) (pe_op u_mul pe_int (pe_ix ix_seq (pv 0) pe_int (fun _ _ => rfl)))))
  (pss_one (ps_asg (pe_op op_mod (pe_callTy u_int rfl T.b.int_ (by decide +kernel) (pa_cons (pv 3) pa_nil)) pe_int) (pg_sub (pv 0) pe_int set_list))))))))
    pss_nil)
  (pss_cons (ps_if (pt_cmpR op_gt (pe_ix ix_seq (pv 0) pe_int (fun _ _ => rfl)) pe_int (nomark _))
    (pss_cons (ps_set (i := 4) sc_take.nd rfl (Or.inl rfl) (pe_op op_mod (pe_callTy u_int rfl T.b.int_ (by decide +kernel) (pa_cons (pe_ix ix_seq (pv 0) pe_int (fun _ _ => rfl)) pa_nil)) (pv 1)))
  (pss_cons (ps_asg (pe_op op_fdiv (pe_callTy u_int rfl T.b.int_ (by decide +kernel) (pa_cons (pe_ix ix_seq (pv 0) pe_int (fun _ _ => rfl)) pa_nil)) (pv 1)) (pg_sub (pv 0) pe_int set_list))
  (pss_one (ps_ret (pv 4)))))
    pss_nil)
  (pss_cons (ps_set (i := 5) sc_take.nd rfl (Or.inl rfl) (pe_op op_mod (pe_callTy u_int rfl T.b.int_ (by decide +kernel) (pa_cons (pe_op u_mul (pe_op u_add (pe_ix ix_seq (pv 0) pe_int (fun _ _ => rfl)) pe_int) pe_int) pa_nil)) pe_int))
  (pss_cons (ps_set (i := 6) sc_take.nd rfl (Or.inl rfl) (pe_op op_mod (pe_callTy u_int rfl T.b.int_ (by decide +kernel) (pa_cons (pe_op u_mul (pe_op op_mod (pe_callTy u_int rfl T.b.int_ (by decide +kernel) (pa_cons (pe_op u_mul (pv 5) (pv 5)) pa_nil)) pe_int) pe_int) pa_nil)) pe_int))
  (pss_one (ps_ret (pe_op op_mod (pe_callTy u_int rfl T.b.int_ (by decide +kernel) (pa_cons (pe_op op_fdiv (pv 6) pe_int) pa_nil)) (pv 1)))))))), ?_⟩
    obtain ⟨i, j, n, cs, hb, hc, hcb, hi, hj, hj2, hn, hcs⟩ := hB
    -- the bag fed, or not
    refine a_cut (fun σ' H' => ∃ v2 v3, σ' = [some (.ref b), some (.int m), v2, v3, none, none, none] ∧ Bag H' b c ∧ Kp b H H') ?_ ?_
    · walk_at "el"
      walk_at "el"
      refine ite2 (fun h0 => ?_) (fun h0 => ?_)
      · walk_at "el"
        refine a_cut (fun σ' H' => ∃ x : Int, 0 ≤ x ∧ σ' = [some (.ref b), some (.int m), some (.int x), none, none, none, none] ∧ H' = H) ?_ ?_
        · walk_at "el"
          walk_at "el"
          refine ite2 (fun h1 => ?_) (fun h1 => ?_)
          · obtain ⟨x, hx, x0⟩ := cell_at hn (of_decide_eq_true h1) hcs
            walk_at "el"
            refine n_ixL (SqL.of hc) hx ?_
            walk_at "el"
            exact ⟨x, x0, rfl, rfl⟩
          · walk_at "el"
            exact ⟨0, by decide, rfl, rfl⟩
        · rintro σ' H' ⟨x, x0, rfl, rfl⟩
          walk_at "el"
          refine a_set hb rfl ?_
          refine a_cut (fun σ' H1 => ∃ i', 0 ≤ i' ∧ σ' = [some (.ref b), some (.int m), some (.int x), none, none, none, none] ∧ H1 b = some (.lst [.int i', .int j, .int (n + 1), .ref c]) ∧ ∀ a, a ≠ b → H1 a = H' a) ?_ ?_
          · walk_at "el"
            refine ite2 (fun h1 => ?_) (fun h1 => ?_)
            · walk_at "el"
              refine a_set upd_same rfl ?_
              walk_at "el"
              exact ⟨x, x0, rfl, upd_same, fun a h => by rw [upd_ne h, upd_ne h]⟩
            · walk_at "el"
              exact ⟨i, hi, rfl, upd_same, fun a h => upd_ne h⟩
          · rintro σ' H1 ⟨i', hi', rfl, hb', ho⟩
            have hc' : H1 c = some (.lst (cs.map V.int)) := (ho c hcb).trans hc
            walk_at "el"
            refine n_mul (.inr (by decide)) ?_
            walk_at "el"
            refine a_I (by show (0 : Int) < 2147483647; decide) ?_
            walk_at "el"
            refine n_mul (.inl (by decide)) ?_
            walk_at "el"
            refine a_I (by show (0 : Int) < 2147483647; decide) ?_
            walk_at "el"
            refine a_set hb' rfl ?_
            walk_at "el"
            refine ⟨_, _, rfl, ⟨i', _, n + 1, cs, upd_same, by rw [upd_ne hcb]; exact hc', hcb, hi', Int.emod_nonneg _ (by decide), Int.emod_lt_of_pos _ (by decide), by omega, hcs⟩, fun a o h e => ?_⟩
            rw [upd_ne h, ho a h]
            exact e
      · walk_at "el"
        exact ⟨_, _, rfl, ⟨i, j, n, cs, hb, hc, hcb, hi, hj, hj2, hn, hcs⟩, Kp.refl b H⟩
    · clear hb hc hcb hi hj hj2 hn hcs
      rintro σ' H1 ⟨v2, v3, rfl, ⟨i, j, n, cs, hb, hc, hcb, hi, hj, hj2, hn, hcs⟩, k1⟩
      walk_at "el"
      refine ite2 (fun h0 => ?_) (fun h0 => ?_)
      · walk_at "el"
        walk_at "el"
        refine a_I hm0 ?_
        walk_at "el"
        refine a_I ⟨hm0, by omega⟩ ?_
        walk_at "el"
        refine a_set hb rfl ?_
        walk_at "el"
        refine k _ _ (Int.emod_nonneg _ (by omega)) (Int.emod_lt_of_pos _ hm0) ?_ k1.bag
        exact ⟨_, j, n, cs, upd_same, by rw [upd_ne hcb]; exact hc, hcb, Int.ediv_nonneg hi (by omega), hj, hj2, hn, hcs⟩
      · walk_at "el"
        walk_at "el"
        refine n_mul (.inr (by decide)) ?_
        walk_at "el"
        refine a_I (by show (0 : Int) < 1000000007; decide) ?_
        have e0 := Int.emod_nonneg ((j + 1) * 39373) (show (1000000007 : Int) ≠ 0 by decide)
        have e1 := Int.emod_lt_of_pos ((j + 1) * 39373) (show (0 : Int) < 1000000007 by decide)
        walk_at "el"
        refine n_mul (.inl ⟨by omega, by omega⟩) ?_
        walk_at "el"
        refine a_I (by show (0 : Int) < 998244353; decide) ?_
        walk_at "el"
        refine n_mul (.inr (by decide)) ?_
        walk_at "el"
        refine a_I (by show (0 : Int) < 998244353; decide) ?_
        walk_at "el"
        refine a_I ⟨by decide, by decide⟩ ?_
        walk_at "el"
        refine a_I hm0 ?_
        walk_at "el"
        exact k _ _ (Int.emod_nonneg _ (by omega)) (Int.emod_lt_of_pos _ hm0) ⟨i, j, n, cs, hb, hc, hcb, hi, hj, hj2, hn, hcs⟩ k1
end
end EL

/- part B -/
namespace EL
open PySem PySem.Spec PyProof.Rows L2
open PySem.W (Frag)
abbrev s_is_integer : Stmt := top 9
abbrev N_is_integer : List Str := ["thing"]
theorem sc_is_integer : FnScope N_is_integer ["thing"] (defScope s_is_integer) := ⟨rfl, rfl, rfl, by decide +kernel, rfl, by decide +kernel, by decide +kernel⟩
abbrev s_is_number : Stmt := top 10
abbrev N_is_number : List Str := ["thing"]
theorem sc_is_number : FnScope N_is_number ["thing"] (defScope s_is_number) := ⟨rfl, rfl, rfl, by decide +kernel, rfl, by decide +kernel, by decide +kernel⟩
abbrev s_is_kind : Stmt := top 11
abbrev N_is_kind : List Str := ["thing"]
theorem sc_is_kind : FnScope N_is_kind ["thing"] (defScope s_is_kind) := ⟨rfl, rfl, rfl, by decide +kernel, rfl, by decide +kernel, by decide +kernel⟩
abbrev s_is_tuple : Stmt := top 12
abbrev N_is_tuple : List Str := ["thing", "many"]
theorem sc_is_tuple : FnScope N_is_tuple ["thing", "many"] (defScope s_is_tuple) := ⟨rfl, rfl, rfl, by decide +kernel, rfl, by decide +kernel, by decide +kernel⟩
structure Wo (K : Frag) (mg : Str → Option Value) : Prop where
  b : Bi mg
  k_GREATEST_NUMBER : ∃ u, mg "GREATEST_NUMBER" = some u ∧ L2.RelV (.int 1000000000000000) u
local macro_rules | `(tactic| walk_at "el1") => `(tactic| with_reducible first
  | refine a_sasg ?_ | refine a_sdrop ?_ | refine a_saugS ?_ | refine a_spar ?_ | refine a_seq ?_ | refine a_asg ?_ | refine a_drop ?_ | refine a_ret ?_ | refine a_if ?_ | refine a_next ?_
  | refine a_op ?_ | refine a_cons ?_ | refine a_nil ?_ | refine a_cb ?_ | refine a_call ?_ | refine a_c ?_ | refine a_gn ?_ | refine a_nx ?_ | refine a_rt ?_ | refine a_un ?_
  | refine a_test ?_ | refine a_B ?_ | refine a_bl ?_ | refine a_and ?_ | refine a_or ?_ | refine a_not ?_ | refine a_andV ?_ | refine a_orV ?_ | refine a_notV ?_ | refine a_ifx ?_ | refine a_chain ?_
  | refine a_nT ?_ | refine a_nF ?_ | refine a_fld ?_ | refine a_getF ?_ | refine a_T ?_ | refine a_F ?_ | refine a_tup ?_ | refine a_lst ?_ | refine a_sub ?_ | refine a_augS ?_ | refine a_two ?_ | refine a_I0 ?_ | refine a_U ?_ | refine n_add ?_ | refine n_int ?_ | refine n_ib ?_ | refine a_ip ?_ | refine a_rng1 ?_ | refine a_rng2 ?_ | refine a_bm ?_ | refine a_abs ?_ | refine a_pairs ?_ | refine a_pairs0 ?_ | refine a_bk ?_ | refine a_prp ?_ | refine a_lc ?_ | refine a_yes ?_ | refine a_sl ?_ | refine a_nop ?_ | refine a_prt ?_ | refine a_ex1 ?_ | refine a_for ?_ | refine a_sfor ?_ | refine a_iE1 ?_ | refine a_iEs ?_ | refine a_iEz ?_ | refine a_iEnum ?_ | refine a_iTup ?_ | refine a_iList ?_ | refine a_gcons ?_ | refine a_gnil ?_ | refine a_revT ?_ | refine a_spar3 ?_ | refine a_par3 ?_ | refine a_three ?_)
local macro_rules | `(tactic| walk_at "el2") => `(tactic| first
  | (refine a_var (by rfl) ?_)
  | (refine n_ixL (SqL.of (by assumption)) (by rfl) ?_) | (refine n_ixT (SqT.of (by assumption)) (by rfl) ?_) | (refine n_eq (by rfl) ?_) | (refine n_ne (by rfl) ?_)
  | (refine n_isN ?_) | (refine n_notN ?_) | (refine n_isB ?_) | (refine n_notB ?_) | (refine n_isBI ?_) | (refine n_notBI ?_) | (refine n_len (.inl (SqL.of (by assumption))) ?_) | (refine n_len (.inr (SqT.of (by assumption))) ?_)
  | (refine a_getL (SqL.of (by assumption)) (by rfl) ?_)
  | (refine n_isInt (by assumption) ?_) | (refine n_isBool (by assumption) ?_) | (refine n_isStr (by assumption) ?_) | (refine n_isTup (by assumption) ?_) | (refine n_isLst (by assumption) ?_))
local macro_rules | `(tactic| walk_at "el") => `(tactic| repeat (first | walk_at "el1" | walk_at "el2"))

/-! ### what the words mean -/
def intB : V → Bool | .int _ => true | _ => false
def numB : V → Bool | .int i => decide (-1000000000000000 ≤ i) && decide (i ≤ 1000000000000000) | _ => false
def kindB : V → Bool | .str s => decide (s = "early") || decide (s = "late") | _ => false
def otherK (s : Str) : Str := if s = "early" then "late" else "early"
def spB (f : V → Bool) (K : Frag) : Sp := fun vs H Q _ => ∃ x, vs = [x] ∧ Th K H x ∧ ∀ H', Same H H' → Q (.bl (f x)) H'
theorem intB_eq (x : V) : (if isI x = true then !isB x else false) = intB x := by cases x <;> rfl
/-- a tuple of so many -/
def tupN (H : Hp) (x : V) (n : Int) : Prop := ∃ a xs, x = .ref a ∧ H a = some (.tup xs) ∧ (xs.length : Int) = n
def spTu (K : Frag) : Sp := fun vs H Q _ => ∃ (x : V) (n : Int), vs = [x, .int n] ∧ Th K H x ∧ ∀ b, (b = true ↔ tupN H x n) → Q (.bl b) H
theorem isT_tup {K : Frag} {H : Hp} {x : V} (th : Th K H x) (e : isT H x = true) : ∃ a xs, x = .ref a ∧ H a = some (.tup xs) := by
  cases th with
  | tup h => exact ⟨_, _, rfl, h⟩
  | @lst a xs h => (exfalso; have q : obT (H a) = true := e; rw [h] at q; cases q)
  | @dct a xs h => (exfalso; have q : obT (H a) = true := e; rw [h] at q; cases q)
  | @ins a C dx fs h c => (exfalso; have q : obT (H a) = true := e; rw [h] at q; cases q)
  | @dtt a kvs h => (exfalso; have q : obT (H a) = true := e; rw [h] at q; cases q)
  | _ => cases e
theorem isT_of {H : Hp} {a : Addr} {xs : List V} (h : H a = some (.tup xs)) : isT H (.ref a) = true := by show obT (H a) = true; rw [h]; rfl
section
variable {P : Program} {w : World} {K : Frag} {mg : Str → Option Value} {base : Heap} {f : Addr} {fd : FuncData}
theorem ok_is_tuple (F : Fun K "is_tuple" "is_tuple" s_is_tuple f fd) (T : Wo K mg) : FnOk P w K mg base CX0 1 f fd ["thing", "many"] (spTu K) := by
  refine F.ok sc_is_tuple (fun vs H Q E h => ?_) (fun cdv A outer s H vs Q E hr h => ?_)
  · obtain ⟨x, n, rfl, _⟩ := h
    rfl
  · obtain ⟨x, n, rfl, hx, k⟩ := h
    refine ⟨_, (pss_one (ps_ret (pe_and (pe_callB u_isi rfl T.b.isinstance_ boot_isinstance (pa_cons (pv 0) (pa_cons (pe_bltn (v := V.ty "tuple") rfl T.b.tuple_ (by decide +kernel) rfl) pa_nil))) (pe_one (pe_cmpR (u_eq hr.units) (pe_callB u_len rfl T.b.len_ boot_len (pa_cons (pv 0) pa_nil)) (pv 1) (nomark _)))))), ?_⟩
    obtain ⟨t, kt⟩ := hx.kit
    walk_at "el"
    refine ite2 (fun h0 => ?_) (fun h0 => ?_)
    · obtain ⟨a, xs, rfl, ha⟩ := isT_tup hx h0
      walk_at "el"
      refine k _ ⟨fun z => ⟨a, xs, rfl, ha, by simpa using z⟩, ?_⟩
      rintro ⟨a', xs', e, ha', hl⟩
      cases e
      rw [ha] at ha'
      cases ha'
      simpa using hl
    · walk_at "el"
      refine k _ ⟨(fun h => nomatch h), ?_⟩
      rintro ⟨a, xs, rfl, ha, _⟩
      rw [isT_of ha] at h0
      exact absurd rfl h0
/-- a tuple of this word and one value more -/
def spHd (K : Frag) : Sp := fun vs H Q _ => ∃ (x : V) (wd : Str), vs = [x, .str wd] ∧ Th K H x ∧ (∀ q xs, x = .ref q → H q = some (.tup xs) → ∀ y ∈ xs, Th K H y) ∧ ∀ b, (b = true ↔ ∃ a y, x = .ref a ∧ H a = some (.tup [.str wd, y])) → Q (.bl b) H
theorem ok_is_integer (F : Fun K "is_integer" "is_integer" s_is_integer f fd) (T : Wo K mg) : FnOk P w K mg base CX0 1 f fd ["thing"] (spB intB K) := by
  refine F.ok sc_is_integer (fun vs H Q E h => ?_) (fun cdv A outer s H vs Q E hr h => ?_)
  · obtain ⟨x, rfl, _⟩ := h
    rfl
  · obtain ⟨x, rfl, hx, k⟩ := h
    refine ⟨_, (pss_one (ps_ret (pe_and (pe_callB u_isi rfl T.b.isinstance_ boot_isinstance (pa_cons (pv 0) (pa_cons (pe_bltn (v := V.ty "int") rfl T.b.int_ (by decide +kernel) rfl) pa_nil))) (pe_one (pe_not (pe_callB u_isi rfl T.b.isinstance_ boot_isinstance (pa_cons (pv 0) (pa_cons (pe_bltn (v := V.ty "bool") rfl T.b.bool_ (by decide +kernel) rfl) pa_nil)))))))), ?_⟩
    obtain ⟨t, kt⟩ := hx.kit
    walk_at "el"
    refine ite2 (fun h0 => ?_) (fun h0 => ?_)
    · walk_at "el"
      rw [← intB_eq, if_pos h0] at k
      exact k _ (Same.refl _)
    · walk_at "el"
      rw [← intB_eq, if_neg h0] at k
      exact k _ (Same.refl _)
theorem ok_is_number (F : Fun K "is_number" "is_number" s_is_number f fd) (T : Wo K mg) (c_is_integer : Cal P w K mg base CX0 1 "is_integer" ["thing"] (spB intB K)) : FnOk P w K mg base CX0 2 f fd ["thing"] (spB numB K) := by
  refine F.ok sc_is_number (fun vs H Q E h => ?_) (fun cdv A outer s H vs Q E hr h => ?_)
  · obtain ⟨x, rfl, _⟩ := h
    rfl
  · obtain ⟨x, rfl, hx, k⟩ := h
    refine ⟨_, (pss_one (ps_ret (pe_and (pe_cal c_is_integer (hr.mono (by decide)) pass0 (pa_cons (pv 0) pa_nil)) (pe_one (pe_chain op_le op_le (pe_un un_neg (pe_gc (v := .int 1000000000000000) rfl T.k_GREATEST_NUMBER)) (pv 0) (pe_gc (v := .int 1000000000000000) rfl T.k_GREATEST_NUMBER)))))), ?_⟩
    walk_at "el"
    refine ⟨x, rfl, hx, fun H1 s1 => ?_⟩
    walk_at "el"
    refine ite2 (fun h0 => ?_) (fun h0 => ?_)
    · obtain ⟨i, rfl⟩ : ∃ i, x = .int i := by cases x <;> first | exact ⟨_, rfl⟩ | cases h0
      walk_at "el"
      refine ite2 (fun h1 => ?_) (fun h1 => ?_)
      · walk_at "el"
        have e : numB (.int i) = decide (i ≤ 1000000000000000) := by show (decide _ && decide _) = _; rw [h1]; rfl
        rw [e] at k
        exact k _ s1
      · walk_at "el"
        have e : numB (.int i) = false := by show (decide _ && decide _) = _; rw [Bool.not_eq_true _ |>.mp h1]; rfl
        rw [e] at k
        exact k _ s1
    · walk_at "el"
      have e : numB x = false := by cases x <;> first | rfl | exact absurd rfl h0
      rw [e] at k
      exact k _ s1
theorem ok_is_kind (F : Fun K "is_kind" "is_kind" s_is_kind f fd) (T : Wo K mg) : FnOk P w K mg base CX0 1 f fd ["thing"] (spB kindB K) := by
  refine F.ok sc_is_kind (fun vs H Q E h => ?_) (fun cdv A outer s H vs Q E hr h => ?_)
  · obtain ⟨x, rfl, _⟩ := h
    rfl
  · obtain ⟨x, rfl, hx, k⟩ := h
    refine ⟨_, (pss_one (ps_ret (pe_and (pe_callB u_isi rfl T.b.isinstance_ boot_isinstance (pa_cons (pv 0) (pa_cons (pe_bltn (v := V.ty "str") rfl T.b.str_ (by decide +kernel) rfl) pa_nil))) (pe_one (pe_cmpR u_in (pv 0) (pe_tup (pa_cons pe_str (pa_cons pe_str pa_nil))) rfl))))), ?_⟩
    obtain ⟨t, kt⟩ := hx.kit
    walk_at "el"
    refine ite2 (fun h0 => ?_) (fun h0 => ?_)
    · obtain ⟨i, rfl⟩ : ∃ i, x = .str i := by cases x <;> first | exact ⟨_, rfl⟩ | cases h0
      walk_at "el"
      refine ⟨by decide, fun p hp => n_inT upd_same rfl rfl ?_⟩
      walk_at "el"
      have e : kindB (.str i) = inV (.str i) [.str "early", .str "late"] := by
        show (decide _ || decide _) = (_ == _ || (_ == _ || false))
        rw [Bool.or_false]
        congr 1 <;> (rw [Bool.eq_iff_iff, decide_eq_true_iff, beq_iff_eq]; exact ⟨fun h => h.symm, fun h => h.symm⟩)
      rw [e] at k
      exact k _ (L2.Same.nw (Same.refl _) hp)
    · walk_at "el"
      have e : kindB x = false := by cases x <;> first | rfl | exact absurd rfl h0
      rw [e] at k
      exact k _ (Same.refl _)
def spTl : Sp := fun vs H Q _ => ∃ p x s, vs = [.ref p] ∧ H p = some (.tup [x, .str s]) ∧ ∀ r, H r = none → Q (.ref r) (upd H r (.tup [x, .str (otherK s)]))
end
end EL

/- part C -/
namespace EL
open PySem PySem.Spec PyProof.Rows L2
open PySem.W (Frag)
abbrev s_is_below : Stmt := top 16
abbrev N_is_below : List Str := ["thing", "many"]
theorem sc_is_below : FnScope N_is_below ["thing", "many"] (defScope s_is_below) := ⟨rfl, rfl, rfl, by decide +kernel, rfl, by decide +kernel, by decide +kernel⟩
abbrev s_is_side : Stmt := top 17
abbrev N_is_side : List Str := ["thing"]
theorem sc_is_side : FnScope N_is_side ["thing"] (defScope s_is_side) := ⟨rfl, rfl, rfl, by decide +kernel, rfl, by decide +kernel, by decide +kernel⟩
abbrev s_first_wrong : Stmt := top 18
abbrev N_first_wrong : List Str := ["part", "values", "events", "witnesses", "place", "word"]
theorem sc_first_wrong : FnScope N_first_wrong ["part", "values", "events", "witnesses"] (defScope s_first_wrong) := ⟨rfl, rfl, rfl, by decide +kernel, rfl, by decide +kernel, by decide +kernel⟩
abbrev s__can_stand : Stmt := top 19
abbrev N__can_stand : List Str := ["word", "values", "place", "events", "witnesses", "thing"]
theorem sc__can_stand : FnScope N__can_stand ["word", "values", "place", "events", "witnesses"] (defScope s__can_stand) := ⟨rfl, rfl, rfl, by decide +kernel, rfl, by decide +kernel, by decide +kernel⟩
abbrev s_is_item : Stmt := top 20
abbrev N_is_item : List Str := ["part", "thing", "events", "witnesses"]
theorem sc_is_item : FnScope N_is_item ["part", "thing", "events", "witnesses"] (defScope s_is_item) := ⟨rfl, rfl, rfl, by decide +kernel, rfl, by decide +kernel, by decide +kernel⟩
local macro_rules | `(tactic| walk_at "el1") => `(tactic| with_reducible first
  | refine a_sasg ?_ | refine a_sdrop ?_ | refine a_saugS ?_ | refine a_spar ?_ | refine a_seq ?_ | refine a_asg ?_ | refine a_drop ?_ | refine a_ret ?_ | refine a_if ?_ | refine a_next ?_
  | refine a_op ?_ | refine a_cons ?_ | refine a_nil ?_ | refine a_cb ?_ | refine a_call ?_ | refine a_c ?_ | refine a_gn ?_ | refine a_nx ?_ | refine a_rt ?_ | refine a_un ?_
  | refine a_test ?_ | refine a_B ?_ | refine a_bl ?_ | refine a_and ?_ | refine a_or ?_ | refine a_not ?_ | refine a_andV ?_ | refine a_orV ?_ | refine a_notV ?_ | refine a_ifx ?_ | refine a_chain ?_
  | refine a_nT ?_ | refine a_nF ?_ | refine a_fld ?_ | refine a_getF ?_ | refine a_T ?_ | refine a_F ?_ | refine a_tup ?_ | refine a_lst ?_ | refine a_sub ?_ | refine a_augS ?_ | refine a_two ?_ | refine a_I0 ?_ | refine a_U ?_ | refine n_add ?_ | refine n_int ?_ | refine n_ib ?_ | refine a_ip ?_ | refine a_rng1 ?_ | refine a_rng2 ?_ | refine a_bm ?_ | refine a_abs ?_ | refine a_pairs ?_ | refine a_pairs0 ?_ | refine a_bk ?_ | refine a_prp ?_ | refine a_lc ?_ | refine a_yes ?_ | refine a_sl ?_ | refine a_nop ?_ | refine a_prt ?_ | refine a_ex1 ?_ | refine a_for ?_ | refine a_sfor ?_ | refine a_iE1 ?_ | refine a_iEs ?_ | refine a_iEz ?_ | refine a_iEnum ?_ | refine a_iTup ?_ | refine a_iList ?_ | refine a_gcons ?_ | refine a_gnil ?_ | refine a_revT ?_ | refine a_spar3 ?_ | refine a_par3 ?_ | refine a_three ?_)
local macro_rules | `(tactic| walk_at "el2") => `(tactic| first
  | (refine a_var (by rfl) ?_)
  | (refine n_ixL (SqL.of (by assumption)) (by rfl) ?_) | (refine n_ixT (SqT.of (by assumption)) (by rfl) ?_) | (refine n_eq (by rfl) ?_) | (refine n_ne (by rfl) ?_)
  | (refine n_isN ?_) | (refine n_notN ?_) | (refine n_isB ?_) | (refine n_notB ?_) | (refine n_isBI ?_) | (refine n_notBI ?_) | (refine n_len (.inl (SqL.of (by assumption))) ?_) | (refine n_len (.inr (SqT.of (by assumption))) ?_)
  | (refine a_getL (SqL.of (by assumption)) (by rfl) ?_)
  | (refine n_isInt (by assumption) ?_) | (refine n_isBool (by assumption) ?_) | (refine n_isStr (by assumption) ?_) | (refine n_isTup (by assumption) ?_) | (refine n_isLst (by assumption) ?_))
local macro_rules | `(tactic| walk_at "el") => `(tactic| repeat (first | walk_at "el1" | walk_at "el2"))

/-! ### items -/
inductive Pt | tel | gap | sur | cla
  deriving DecidableEq
def Pt.name : Pt → Str | .tel => "tellings" | .gap => "gaps" | .sur => "sure" | .cla => "clauses"
def Pt.form : Pt → List Str
  | .tel => ["witness", "event", "number"]
  | .gap => ["event", "another event", "number"]
  | .sur => ["event", "side", "number"]
  | .cla => ["witness", "kind", "witness", "kind"]
def belowB (x : V) (n : Int) : Bool := match x with | .int i => decide (0 ≤ i) && decide (i < n) | _ => false
def sideB : V → Bool | .str s => decide (s = "least") || decide (s = "most") | _ => false
def turnS (s : Str) : Str := if s = "least" then "most" else "least"
structure It4 (K : Frag) (w : World) (mg : Str → Option Value) (aForms aParts : Addr) : Prop where
  b : Bi mg
  gForms : mg "FORMS" = some (.ref aForms)
  gParts : mg "PARTS" = some (.ref aParts)
  forms : ∀ p : Pt, ∃ a, KDct K w aForms p.name (.ref a) ∧ ∀ H, SqT K H a (p.form.map V.str)
  parts : ∀ H, SqT K H aParts [.str "tellings", .str "gaps", .str "sure", .str "clauses"]
def spBelow (K : Frag) : Sp := fun vs H Q _ => ∃ x n, vs = [x, .int n] ∧ Th K H x ∧ ∀ H', Same H H' → Q (.bl (belowB x n)) H'
section
variable {P : Program} {w : World} {K : Frag} {mg : Str → Option Value} {base : Heap} {f : Addr} {fd : FuncData} {aForms aParts : Addr}
theorem ok_is_below (F : Fun K "is_below" "is_below" s_is_below f fd) (c_is_integer : Cal P w K mg base CX0 1 "is_integer" ["thing"] (spB intB K)) : FnOk P w K mg base CX0 2 f fd ["thing", "many"] (spBelow K) := by
  refine F.ok sc_is_below (fun vs H Q E h => ?_) (fun cdv A outer s H vs Q E hr h => ?_)
  · obtain ⟨x, n, rfl, _⟩ := h
    rfl
  · obtain ⟨x, n, rfl, hx, k⟩ := h
    refine ⟨_, (pss_one (ps_ret (pe_and (pe_cal c_is_integer (hr.mono (by decide)) pass0 (pa_cons (pv 0) pa_nil)) (pe_one (pe_chain op_le op_lt pe_int (pv 0) (pv 1)))))), ?_⟩
    walk_at "el"
    refine ⟨x, rfl, hx, fun H1 s1 => ?_⟩
    walk_at "el"
    refine ite2 (fun h0 => ?_) (fun h0 => ?_)
    · obtain ⟨i, rfl⟩ : ∃ i, x = .int i := by cases x <;> first | exact ⟨_, rfl⟩ | cases h0
      walk_at "el"
      refine ite2 (fun h1 => ?_) (fun h1 => ?_)
      · walk_at "el"
        have e : belowB (.int i) n = decide (i < n) := by show (decide _ && decide _) = _; rw [h1]; rfl
        rw [e] at k
        exact k _ s1
      · walk_at "el"
        have e : belowB (.int i) n = false := by show (decide _ && decide _) = _; rw [Bool.not_eq_true _ |>.mp h1]; rfl
        rw [e] at k
        exact k _ s1
    · walk_at "el"
      have e : belowB x n = false := by cases x <;> first | rfl | exact absurd rfl h0
      rw [e] at k
      exact k _ s1
theorem ok_is_side (F : Fun K "is_side" "is_side" s_is_side f fd) (T : It4 K w mg aForms aParts) : FnOk P w K mg base CX0 1 f fd ["thing"] (spB sideB K) := by
  refine F.ok sc_is_side (fun vs H Q E h => ?_) (fun cdv A outer s H vs Q E hr h => ?_)
  · obtain ⟨x, rfl, _⟩ := h
    rfl
  · obtain ⟨x, rfl, hx, k⟩ := h
    refine ⟨_, (pss_one (ps_ret (pe_and (pe_callB u_isi rfl T.b.isinstance_ boot_isinstance (pa_cons (pv 0) (pa_cons (pe_bltn (v := V.ty "str") rfl T.b.str_ (by decide +kernel) rfl) pa_nil))) (pe_one (pe_cmpR u_in (pv 0) (pe_tup (pa_cons pe_str (pa_cons pe_str pa_nil))) rfl))))), ?_⟩
    obtain ⟨t, kt⟩ := hx.kit
    walk_at "el"
    refine ite2 (fun h0 => ?_) (fun h0 => ?_)
    · obtain ⟨i, rfl⟩ : ∃ i, x = .str i := by cases x <;> first | exact ⟨_, rfl⟩ | cases h0
      walk_at "el"
      refine ⟨by decide, fun p hp => n_inT upd_same rfl rfl ?_⟩
      walk_at "el"
      have e : sideB (.str i) = inV (.str i) [.str "least", .str "most"] := by
        show (decide _ || decide _) = (_ == _ || (_ == _ || false))
        rw [Bool.or_false]
        congr 1 <;> (rw [Bool.eq_iff_iff, decide_eq_true_iff, beq_iff_eq]; exact ⟨fun h => h.symm, fun h => h.symm⟩)
      rw [e] at k
      exact k _ (L2.Same.nw (Same.refl _) hp)
    · walk_at "el"
      have e : sideB x = false := by cases x <;> first | rfl | exact absurd rfl h0
      rw [e] at k
      exact k _ (Same.refl _)
/-- what may stand at a place -/
def standB (word : Str) (xs : List V) (i : Nat) (x : V) (ev wi : Int) : Bool :=
  if word = "witness" then belowB x wi else if word = "event" then belowB x ev else if word = "another event" then belowB x ev && !decide (some x = xs[i - 1]?)
  else if word = "side" then sideB x else if word = "kind" then kindB x else numB x
def spCan (K : Frag) : Sp := fun vs H Q _ => ∃ (word : Str) (a : Addr) (xs : List V) (i : Nat) (x : V) (ev wi : Int), vs = [.str word, .ref a, .int i, .int ev, .int wi] ∧ H a = some (.tup xs) ∧ xs[i]? = some x ∧ Th K H x ∧
  (word = "another event" → 1 ≤ i ∧ ∃ j, xs[i - 1]? = some (.int j)) ∧ ∀ H', Same H H' → Q (.bl (standB word xs i x ev wi)) H'
theorem ok_can_stand (F : Fun K "_can_stand" "_can_stand" s__can_stand f fd) (c_is_below : Cal P w K mg base CX0 2 "is_below" ["thing", "many"] (spBelow K)) (c_is_side : Cal P w K mg base CX0 1 "is_side" ["thing"] (spB sideB K))
    (c_is_kind : Cal P w K mg base CX0 1 "is_kind" ["thing"] (spB kindB K)) (c_is_number : Cal P w K mg base CX0 2 "is_number" ["thing"] (spB numB K)) :
    FnOk P w K mg base CX0 3 f fd ["word", "values", "place", "events", "witnesses"] (spCan K) := by
  refine F.ok sc__can_stand (fun vs H Q E h => ?_) (fun cdv A outer s H vs Q E hr h => ?_)
  · obtain ⟨_, _, _, _, _, _, _, rfl, _⟩ := h
    rfl
  · obtain ⟨word, a, xs, i, x, ev, wi, rfl, ha, hx, th, hp, k⟩ := h
    refine ⟨_, (pss_cons (ps_set (i := 5) sc__can_stand.nd rfl (Or.inl rfl) (pe_ix ix_seq (pv 1) (pv 2) (fun _ _ => rfl)))
  (pss_cons (ps_if (pt_cmpR (u_eq hr.units) (pv 0) pe_str (nomark _))
    (pss_one (ps_ret (pe_cal c_is_below (hr.mono (by decide)) pass0 (pa_cons (pv 5) (pa_cons (pv 4) pa_nil)))))
    pss_nil)
  (pss_cons (ps_if (pt_cmpR (u_eq hr.units) (pv 0) pe_str (nomark _))
    (pss_one (ps_ret (pe_cal c_is_below (hr.mono (by decide)) pass0 (pa_cons (pv 5) (pa_cons (pv 3) pa_nil)))))
    pss_nil)
  (pss_cons (ps_if (pt_cmpR (u_eq hr.units) (pv 0) pe_str (nomark _))
    (pss_one (ps_ret (pe_and (pe_cal c_is_below (hr.mono (by decide)) pass0 (pa_cons (pv 5) (pa_cons (pv 3) pa_nil))) (pe_one (pe_cmpR (u_ne hr.units) (pv 5) (pe_ix ix_seq (pv 1) (pe_op op_sub (pv 2) pe_int) (fun _ _ => rfl)) (nomark _))))))
    pss_nil)
  (pss_cons (ps_if (pt_cmpR (u_eq hr.units) (pv 0) pe_str (nomark _))
    (pss_one (ps_ret (pe_cal c_is_side (hr.mono (by decide)) pass0 (pa_cons (pv 5) pa_nil))))
    pss_nil)
  (pss_cons (ps_if (pt_cmpR (u_eq hr.units) (pv 0) pe_str (nomark _))
    (pss_one (ps_ret (pe_cal c_is_kind (hr.mono (by decide)) pass0 (pa_cons (pv 5) pa_nil))))
    pss_nil)
  (pss_one (ps_ret (pe_cal c_is_number (hr.mono (by decide)) pass0 (pa_cons (pv 5) pa_nil)))))))))), ?_⟩
    unfold standB at k
    walk_at "el"
    refine n_ixT (SqT.of ha) (atI_nat hx) ?_
    walk_at "el"
    refine ite2 (fun h0 => ?_) (fun h0 => ?_)
    · rw [if_pos (by simpa using h0)] at k
      walk_at "el"
      exact ⟨x, wi, rfl, th, fun H1 s1 => k _ s1⟩
    rw [if_neg (by simpa using h0)] at k
    walk_at "el"
    refine ite2 (fun h0 => ?_) (fun h0 => ?_)
    · rw [if_pos (by simpa using h0)] at k
      walk_at "el"
      exact ⟨x, ev, rfl, th, fun H1 s1 => k _ s1⟩
    rw [if_neg (by simpa using h0)] at k
    walk_at "el"
    refine ite2 (fun h0 => ?_) (fun h0 => ?_)
    · rw [if_pos (by simpa using h0)] at k
      obtain ⟨i1, j, hj⟩ := hp (by simpa using h0)
      walk_at "el"
      refine ⟨x, ev, rfl, th, fun H1 s1 => ?_⟩
      walk_at "el"
      refine ite2 (fun h1 => ?_) (fun h1 => ?_)
      · obtain ⟨z, rfl⟩ : ∃ z, x = .int z := by cases x <;> first | exact ⟨_, rfl⟩ | cases h1
        walk_at "el"
        have ei : (i : Int) - 1 = ((i - 1 : Nat) : Int) := by omega
        refine n_ixT (SqT.of (s1 _ _ ha)) (by rw [ei]; exact atI_nat hj) ?_
        walk_at "el"
        have e : (belowB (.int z) ev && !decide (some (.int z) = xs[i - 1]?)) = !decide (V.int z = V.int j) := by
          rw [h1, hj, Bool.true_and]
          congr 1
          rw [Bool.eq_iff_iff, decide_eq_true_iff, decide_eq_true_iff]
          exact ⟨fun h => Option.some.inj h, fun h => congrArg some h⟩
        rw [e] at k
        exact k _ s1
      · walk_at "el"
        rw [Bool.not_eq_true _ |>.mp h1, Bool.false_and] at k
        exact k _ s1
    rw [if_neg (by simpa using h0)] at k
    walk_at "el"
    refine ite2 (fun h0 => ?_) (fun h0 => ?_)
    · rw [if_pos (by simpa using h0)] at k
      walk_at "el"
      exact ⟨x, rfl, th, fun H1 s1 => k _ s1⟩
    rw [if_neg (by simpa using h0)] at k
    walk_at "el"
    refine ite2 (fun h0 => ?_) (fun h0 => ?_)
    · rw [if_pos (by simpa using h0)] at k
      walk_at "el"
      exact ⟨x, rfl, th, fun H1 s1 => k _ s1⟩
    rw [if_neg (by simpa using h0)] at k
    walk_at "el"
    exact ⟨x, rfl, th, fun H1 s1 => k _ s1⟩
/-- the values that may stand in an item -/
def StandsTo (p : Pt) (xs : List V) (ev wi : Int) (n : Nat) : Prop := ∀ j, j < n → ∀ wd x, p.form[j]? = some wd → xs[j]? = some x → standB wd xs j x ev wi = true
def spFw (K : Frag) : Sp := fun vs H Q _ => ∃ (p : Pt) (a : Addr) (xs : List V) (ev wi : Int), vs = [.str p.name, .ref a, .int ev, .int wi] ∧ H a = some (.tup xs) ∧ xs.length = p.form.length ∧ (∀ x ∈ xs, Th K H x) ∧
  (StandsTo p xs ev wi p.form.length → ∀ H', Same H H' → Q .non H') ∧
  (∀ i wd x, StandsTo p xs ev wi i → p.form[i]? = some wd → xs[i]? = some x → standB wd xs i x ev wi = false → ∀ H', Same H H' → Q (.int i) H')
theorem another_at {p : Pt} {i : Nat} (h : p.form[i]? = some ("another event" : Str)) : p = .gap ∧ i = 1 := by
  cases p <;> (rcases i with _ | _ | _ | _ | i) <;> first | exact ⟨rfl, rfl⟩ | (exfalso; revert h; decide) | cases h
theorem below_int {x : V} {n : Int} (h : belowB x n = true) : ∃ j, x = .int j ∧ 0 ≤ j ∧ j < n := by
  cases x with
  | int j =>
    have q : (decide (0 ≤ j) && decide (j < n)) = true := h
    rw [Bool.and_eq_true, decide_eq_true_iff, decide_eq_true_iff] at q
    exact ⟨j, rfl, q⟩
  | _ => cases h
theorem stands_prev {p : Pt} {xs : List V} {ev wi : Int} {i : Nat} (hl : xs.length = p.form.length) (h : StandsTo p xs ev wi i) (hw : p.form[i]? = some ("another event" : Str)) : 1 ≤ i ∧ ∃ j, xs[i - 1]? = some (.int j) := by
  obtain ⟨rfl, rfl⟩ := another_at hw
  have l0 : 0 < xs.length := by rw [hl]; decide
  have e0 : xs[0]? = some xs[0] := List.getElem?_eq_getElem l0
  have q := h 0 (by decide) "event" _ rfl e0
  obtain ⟨j, hj, _⟩ := below_int (x := xs[0]) (n := ev) (by
    unfold standB at q
    rw [if_neg (by decide), if_pos rfl] at q
    exact q)
  exact ⟨by decide, j, by rw [← hj]; exact e0⟩
theorem ok_first_wrong (F : Fun K "first_wrong" "first_wrong" s_first_wrong f fd) (T : It4 K w mg aForms aParts) (c__can_stand : Cal P w K mg base CX0 3 "_can_stand" ["word", "values", "place", "events", "witnesses"] (spCan K)) :
    FnOk P w K mg base CX0 4 f fd ["part", "values", "events", "witnesses"] (spFw K) := by
  refine F.ok sc_first_wrong (fun vs H Q E h => ?_) (fun cdv A outer s H vs Q E hr h => ?_)
  · obtain ⟨_, _, _, _, _, rfl, _⟩ := h
    rfl
  · obtain ⟨p, a, xs, ev, wi, rfl, ha, hl, th, kn, ki⟩ := h
    refine ⟨_, (pss_cons (ps_for PassesOwn.never rfl (pi_e1 rfl T.b.enumerate_ (pa_cons (pe_ix ix_kdict (pe_glob (v := .ref aForms) rfl T.gForms rfl) (pv 0) (fun _ _ => rfl)) pa_nil)) (pg_tup rfl (pgs_cons (pg_name (i := 4) sc_first_wrong.nd rfl (Or.inl rfl)) (pgs_cons (pg_name (i := 5) sc_first_wrong.nd rfl (Or.inl rfl)) pgs_nil)))
    (pss_one (ps_if (pt_not (pt_val (pe_cal c__can_stand (hr.mono (by decide)) pass0 (pa_cons (pv 5) (pa_cons (pv 1) (pa_cons (pv 4) (pa_cons (pv 2) (pa_cons (pv 3) pa_nil))))))))
    (pss_one (ps_ret (pv 4)))
    pss_nil)))
  (pss_one (ps_ret pe_non))), ?_⟩
    obtain ⟨aF, hF, sF⟩ := T.forms p
    walk_at "el"
    refine ⟨_, _, _, rfl, rfl, hF, ?_⟩
    walk_at "el"
    refine ⟨aF, _, rfl, sF _, ?_⟩
    refine lp_it (walk_es (xs := p.form.map V.str)) (fun i σ H1 => Same H H1 ∧ StandsTo p xs ev wi i ∧ ∃ v4 v5, σ = [some (.str p.name), some (.ref a), some (.int ev), some (.int wi), v4, v5]) ⟨Same.refl _, fun j h => absurd h (Nat.not_lt_zero j), _, _, rfl⟩ (fun i σ H1 hi h => sF _) ?_ ?_
    · rintro i x σ H1 H2 hi ⟨s1, hst, v4, v5, rfl⟩ ⟨t, _, rfl, ht, rfl, hwd⟩
      rw [List.length_map] at hi
      have hi2 : i < xs.length := by omega
      rw [List.getElem?_map, List.getElem?_eq_getElem hi] at hwd
      cases hwd
      have ew : p.form[i]? = some p.form[i] := List.getElem?_eq_getElem hi
      have ex : xs[i]? = some xs[i] := List.getElem?_eq_getElem hi2
      have s2 := L2.Same.nw (o := .tup [.int ((0 : Int) + i), .str p.form[i]]) s1 ht
      refine a_gtup (SqT.of upd_same) rfl ?_
      walk_at "el"
      refine ⟨p.form[i], a, xs, i, xs[i], ev, wi, by rw [Int.zero_add], s2 _ _ ha, ex, (th _ (List.getElem_mem hi2)).same s2, fun hn => stands_prev hl hst (by rw [ew, hn]), fun H3 s3 => ?_⟩
      walk_at "el"
      refine ite2 (fun h0 => ?_) (fun h0 => ?_)
      · walk_at "el"
        rw [Int.zero_add]
        exact ki i _ _ hst ew ex (by simpa using h0) _ (s2.trans s3)
      · walk_at "el"
        refine ⟨s2.trans s3, fun j hj wd x hw hx => ?_, _, _, rfl⟩
        by_cases e : j = i
        · subst e
          rw [ew] at hw; cases hw
          rw [ex] at hx; cases hx
          simpa using h0
        · exact hst j (by omega) wd x hw hx
    · rintro σ H1 ⟨s1, hst, v4, v5, rfl⟩
      rw [List.length_map] at hst
      walk_at "el"
      exact kn hst _ s1
/-- an item of a part -/
def ItemOk (p : Pt) (H : Hp) (x : V) (ev wi : Int) : Prop := ∃ a xs, x = .ref a ∧ H a = some (.tup xs) ∧ xs.length = p.form.length ∧ StandsTo p xs ev wi p.form.length
def spItem (K : Frag) : Sp := fun vs H Q _ => ∃ (p : Pt) (x : V) (ev wi : Int), vs = [.str p.name, x, .int ev, .int wi] ∧ Th K H x ∧ (∀ a xs, x = .ref a → H a = some (.tup xs) → ∀ y ∈ xs, Th K H y) ∧ ∀ H' b, Same H H' → (b = true ↔ ItemOk p H x ev wi) → Q (.bl b) H'
theorem ok_is_item (F : Fun K "is_item" "is_item" s_is_item f fd) (T : It4 K w mg aForms aParts) (c_is_tuple : Cal P w K mg base CX0 1 "is_tuple" ["thing", "many"] (spTu K)) (c_first_wrong : Cal P w K mg base CX0 4 "first_wrong" ["part", "values", "events", "witnesses"] (spFw K)) :
    FnOk P w K mg base CX0 5 f fd ["part", "thing", "events", "witnesses"] (spItem K) := by
  refine F.ok sc_is_item (fun vs H Q E h => ?_) (fun cdv A outer s H vs Q E hr h => ?_)
  · obtain ⟨_, _, _, _, rfl, _⟩ := h
    rfl
  · obtain ⟨p, x, ev, wi, rfl, th, te, k⟩ := h
    refine ⟨_, (pss_one (ps_ret (pe_and (pe_cal c_is_tuple (hr.mono (by decide)) pass0 (pa_cons (pv 1) (pa_cons (pe_callB u_len rfl T.b.len_ boot_len (pa_cons (pe_ix ix_kdict (pe_glob (v := .ref aForms) rfl T.gForms rfl) (pv 0) (fun _ _ => rfl)) pa_nil)) pa_nil))) (pe_one (pe_cmpR u_is (pe_cal c_first_wrong (hr.mono (by decide)) pass0 (pa_cons (pv 0) (pa_cons (pv 1) (pa_cons (pv 2) (pa_cons (pv 3) pa_nil))))) pe_non (nomark _)))))), ?_⟩
    obtain ⟨t, kt⟩ := th.kit
    obtain ⟨aF, hF, sF⟩ := T.forms p
    walk_at "el"
    refine ⟨_, _, _, rfl, rfl, hF, ?_⟩
    walk_at "el"
    refine n_len (.inr (sF _)) ?_
    walk_at "el"
    rw [List.length_map]
    refine ⟨x, _, rfl, th, fun b hb => ?_⟩
    rcases b with _ | _
    · walk_at "el"
      refine k _ false (Same.refl _) ⟨(fun h => nomatch h), ?_⟩
      rintro ⟨a, xs, rfl, ha, hl, _⟩
      exact absurd (hb.mpr ⟨a, xs, rfl, ha, by rw [hl]⟩) (by decide)
    · obtain ⟨a, xs, rfl, ha, hl'⟩ := hb.mp rfl
      have hl : xs.length = p.form.length := by omega
      walk_at "el"
      refine ⟨p, a, xs, ev, wi, rfl, ha, hl, te a xs rfl ha, fun hs H1 s1 => ?_, fun i wd x hs hw hx hb H1 s1 => ?_⟩
      · walk_at "el"
        exact k _ _ s1 ⟨fun _ => ⟨a, xs, rfl, ha, hl, hs⟩, fun _ => by decide⟩
      · walk_at "el"
        refine k _ _ s1 ⟨(fun h => by cases h), ?_⟩
        rintro ⟨a', xs', e, ha', hl', hs'⟩
        cases e
        rw [ha] at ha'
        cases ha'
        have hi : i < p.form.length := (List.getElem?_eq_some_iff.mp hw).1
        rw [hs' i hi wd x hw hx] at hb
        cases hb
end
end EL

/- part D -/
namespace EL
open PySem PySem.Spec PyProof.Rows L2
open PySem.W (Frag)
abbrev s__check_arguments : Stmt := top 33
abbrev N__check_arguments : List Str := ["events", "witnesses", "parts", "place", "items"]
theorem sc__check_arguments : FnScope N__check_arguments ["events", "witnesses", "parts"] (defScope s__check_arguments) := ⟨rfl, rfl, rfl, by decide +kernel, rfl, by decide +kernel, by decide +kernel⟩
abbrev s__check_items : Stmt := top 34
abbrev N__check_items : List Str := ["place", "part", "items", "events", "witnesses", "index", "item"]
theorem sc__check_items : FnScope N__check_items ["place", "part", "items", "events", "witnesses"] (defScope s__check_items) := ⟨rfl, rfl, rfl, by decide +kernel, rfl, by decide +kernel, by decide +kernel⟩
abbrev s_Book_init : Stmt := inClass (top 35) 0
abbrev N_Book_init : List Str := ["self", "events", "witnesses", "tellings", "gaps", "sure", "clauses", "parts", "place", "part", "items"]
theorem sc_Book_init : FnScope N_Book_init ["self", "events", "witnesses", "tellings", "gaps", "sure", "clauses"] (defScope s_Book_init) := ⟨rfl, rfl, rfl, by decide +kernel, rfl, by decide +kernel, by decide +kernel⟩
local macro_rules | `(tactic| walk_at "el1") => `(tactic| with_reducible first
  | refine a_sasg ?_ | refine a_sdrop ?_ | refine a_saugS ?_ | refine a_spar ?_ | refine a_seq ?_ | refine a_asg ?_ | refine a_drop ?_ | refine a_ret ?_ | refine a_if ?_ | refine a_next ?_
  | refine a_op ?_ | refine a_cons ?_ | refine a_nil ?_ | refine a_cb ?_ | refine a_call ?_ | refine a_c ?_ | refine a_gn ?_ | refine a_nx ?_ | refine a_rt ?_ | refine a_un ?_
  | refine a_test ?_ | refine a_B ?_ | refine a_bl ?_ | refine a_and ?_ | refine a_or ?_ | refine a_not ?_ | refine a_andV ?_ | refine a_orV ?_ | refine a_notV ?_ | refine a_ifx ?_ | refine a_chain ?_
  | refine a_nT ?_ | refine a_nF ?_ | refine a_fld ?_ | refine a_getF ?_ | refine a_T ?_ | refine a_F ?_ | refine a_tup ?_ | refine a_lst ?_ | refine a_sub ?_ | refine a_augS ?_ | refine a_two ?_ | refine a_I0 ?_ | refine a_U ?_ | refine n_add ?_ | refine n_int ?_ | refine n_ib ?_ | refine a_ip ?_ | refine a_rng1 ?_ | refine a_rng2 ?_ | refine a_bm ?_ | refine a_abs ?_ | refine a_pairs ?_ | refine a_pairs0 ?_ | refine a_bk ?_ | refine a_prp ?_ | refine a_lc ?_ | refine a_yes ?_ | refine a_sl ?_ | refine a_nop ?_ | refine a_prt ?_ | refine a_ex1 ?_ | refine a_for ?_ | refine a_sfor ?_ | refine a_iE1 ?_ | refine a_iEs ?_ | refine a_iEz ?_ | refine a_iEnum ?_ | refine a_iTup ?_ | refine a_iList ?_ | refine a_gcons ?_ | refine a_gnil ?_ | refine a_revT ?_ | refine a_spar3 ?_ | refine a_par3 ?_ | refine a_three ?_)
local macro_rules | `(tactic| walk_at "el2") => `(tactic| first
  | (refine a_var (by rfl) ?_)
  | (refine n_ixL (SqL.of (by assumption)) (by rfl) ?_) | (refine n_ixT (SqT.of (by assumption)) (by rfl) ?_) | (refine n_eq (by rfl) ?_) | (refine n_ne (by rfl) ?_)
  | (refine n_isN ?_) | (refine n_notN ?_) | (refine n_isB ?_) | (refine n_notB ?_) | (refine n_isBI ?_) | (refine n_notBI ?_) | (refine n_len (.inl (SqL.of (by assumption))) ?_) | (refine n_len (.inr (SqT.of (by assumption))) ?_)
  | (refine a_getL (SqL.of (by assumption)) (by rfl) ?_)
  | (refine n_isInt (by assumption) ?_) | (refine n_isBool (by assumption) ?_) | (refine n_isStr (by assumption) ?_) | (refine n_isTup (by assumption) ?_) | (refine n_isLst (by assumption) ?_))
local macro_rules | `(tactic| walk_at "el") => `(tactic| repeat (first | walk_at "el1" | walk_at "el2"))

/-! ### books -/
structure Bo (mg : Str → Option Value) : Prop where
  k_MOST_EVENTS : ∃ u, mg "MOST_EVENTS" = some u ∧ L2.RelV (.int 8) u
  k_MOST_WITNESSES : ∃ u, mg "MOST_WITNESSES" = some u ∧ L2.RelV (.int 8) u
  k_MOST_ITEMS : ∃ u, mg "MOST_ITEMS" = some u ∧ L2.RelV (.int 24) u
structure BoT (K : Frag) (w : World) (mg : Str → Option Value) (aForms aParts : Addr) : Prop extends It4 K w mg aForms aParts, Bo mg
theorem stand_th {K : Frag} {H : Hp} {wd : Str} {xs : List V} {j : Nat} {x : V} {ev wi : Int} (h : standB wd xs j x ev wi = true) : Th K H x := by
  cases x with
  | int i => exact .int i
  | str s => exact .str s
  | _ => (exfalso; simp [standB, belowB, sideB, kindB, numB] at h)
theorem ItemOk.th {K : Frag} {p : Pt} {H : Hp} {x : V} {ev wi : Int} (h : ItemOk p H x ev wi) : Th K H x ∧ ∀ a xs, x = .ref a → H a = some (.tup xs) → ∀ y ∈ xs, Th K H y := by
  obtain ⟨a, xs, rfl, ha, hl, hs⟩ := h
  refine ⟨.tup ha, fun a' xs' e ha' y hy => ?_⟩
  cases e
  rw [ha] at ha'
  cases ha'
  obtain ⟨j, hj, rfl⟩ := List.getElem_of_mem hy
  have h2 : j < p.form.length := by omega
  exact stand_th (hs j h2 _ _ (List.getElem?_eq_getElem h2) (List.getElem?_eq_getElem hj))
theorem ItemOk.same {p : Pt} {H H' : Hp} {x : V} {ev wi : Int} (h : ItemOk p H x ev wi) (s : Same H H') : ItemOk p H' x ev wi := by
  obtain ⟨a, xs, rfl, ha, hl, hs⟩ := h
  exact ⟨a, xs, rfl, s _ _ ha, hl, hs⟩
/-- a part that a book may have -/
structure PartOk (K : Frag) (p : Pt) (H : Hp) (a : Addr) (xs : List V) (ev wi : Int) : Prop where
  seq : SqA K H a xs
  len : xs.length ≤ 24
  items : ∀ x ∈ xs, ItemOk p H x ev wi
theorem PartOk.same {K : Frag} {p : Pt} {H H' : Hp} {a : Addr} {xs : List V} {ev wi : Int} (h : PartOk K p H a xs ev wi) (s : Same H H') : PartOk K p H' a xs ev wi := ⟨h.seq.same s, h.len, fun x hx => (h.items x hx).same s⟩
def spCa (K : Frag) : Sp := fun vs H Q _ => ∃ (ev wi : Int) (q t g s c : Addr) (ts gs ss cs : List V), vs = [.int ev, .int wi, .ref q] ∧ H q = some (.tup [.ref t, .ref g, .ref s, .ref c]) ∧ 0 ≤ ev ∧ ev ≤ 8 ∧ 0 ≤ wi ∧ wi ≤ 8 ∧ SqA K H t ts ∧ SqA K H g gs ∧ SqA K H s ss ∧ SqA K H c cs ∧ ∀ H', Same H H' → Q .non H'
def spCi (K : Frag) : Sp := fun vs H Q _ => ∃ (n : Int) (p : Pt) (a : Addr) (xs : List V) (ev wi : Int), vs = [.int n, .str p.name, .ref a, .int ev, .int wi] ∧ PartOk K p H a xs ev wi ∧ ∀ H', Same H H' → Q .non H'
section
variable {P : Program} {w : World} {K : Frag} {mg : Str → Option Value} {base : Heap} {f : Addr} {fd : FuncData} {aForms aParts : Addr}
theorem below_true {i n : Int} (h0 : 0 ≤ i) (h1 : i < n) : belowB (.int i) n = true := by show (decide _ && decide _) = true; rw [decide_eq_true h0, decide_eq_true h1]; rfl
theorem ok_check_arguments (F : Fun K "_check_arguments" "_check_arguments" s__check_arguments f fd) (T : BoT K w mg aForms aParts) (c_is_below : Cal P w K mg base CX0 2 "is_below" ["thing", "many"] (spBelow K)) :
    FnOk P w K mg base CX0 3 f fd ["events", "witnesses", "parts"] (spCa K) := by
  refine F.ok sc__check_arguments (fun vs H Q E h => ?_) (fun cdv A outer s H vs Q E hr h => ?_)
  · obtain ⟨_, _, _, _, _, _, _, _, _, _, _, rfl, _⟩ := h
    rfl
  · obtain ⟨ev, wi, q, t, g, s, c, ts, gs, ss, cs, rfl, hq, e0, e8, w0, w8, ht, hg, hs, hc, k⟩ := h
    refine ⟨_, (pss_cons (ps_if (pt_not (pt_val (pe_cal c_is_below (hr.mono (by decide)) pass0 (pa_cons (pv 0) (pa_cons (pe_op u_add (pe_gc (v := .int 8) rfl T.k_MOST_EVENTS) pe_int) pa_nil)))))
    (pss_one ps_never)
    pss_nil)
  (pss_cons (ps_if (pt_not (pt_val (pe_cal c_is_below (hr.mono (by decide)) pass0 (pa_cons (pv 1) (pa_cons (pe_op u_add (pe_gc (v := .int 8) rfl T.k_MOST_WITNESSES) pe_int) pa_nil)))))
    (pss_one ps_never)
    pss_nil)
  (pss_one (ps_for PassesOwn.never rfl (pi_es rfl T.b.enumerate_ (pa_cons (pv 2) pa_nil) (by decide) (by decide)) (pg_tup rfl (pgs_cons (pg_name (i := 3) sc__check_arguments.nd rfl (Or.inl rfl)) (pgs_cons (pg_name (i := 4) sc__check_arguments.nd rfl (Or.inl rfl)) pgs_nil)))
    (pss_one (ps_if (pt_not (pt_val (pe_callB u_isi rfl T.b.isinstance_ boot_isinstance (pa_cons (pv 4) (pa_cons (pe_tup (pa_cons (pe_bltn (v := V.ty "list") rfl T.b.list_ (by decide +kernel) rfl) (pa_cons (pe_bltn (v := V.ty "tuple") rfl T.b.tuple_ (by decide +kernel) rfl) pa_nil))) pa_nil)))))
    (pss_one ps_never)
    pss_nil)))))), ?_⟩
    walk_at "el"
    refine ⟨.int ev, 9, rfl, .int ev, fun H1 s1 => ?_⟩
    rw [below_true e0 (by omega)]
    walk_at "el"
    refine ⟨.int wi, 9, rfl, .int wi, fun H2 s2 => ?_⟩
    rw [below_true w0 (by omega)]
    walk_at "el"
    have s12 := s1.trans s2
    refine ⟨q, _, rfl, SqT.of (s12 _ _ hq), ?_⟩
    have all : ∀ (i : Nat) (x : V), [V.ref t, V.ref g, V.ref s, V.ref c][i]? = some x → ∃ a xs, x = .ref a ∧ SqA K H a xs := by
      intro i x hx
      rcases i with _ | _ | _ | _ | i <;> cases hx
      · exact ⟨_, _, rfl, ht⟩
      · exact ⟨_, _, rfl, hg⟩
      · exact ⟨_, _, rfl, hs⟩
      · exact ⟨_, _, rfl, hc⟩
    refine lp_it walk_es (fun i σ H3 => Same H H3 ∧ ∃ v3 v4, σ = [some (.int ev), some (.int wi), some (.ref q), v3, v4]) ⟨s12, _, _, rfl⟩ (fun i σ H3 hi h => SqT.of (h.1 _ _ hq)) ?_ ?_
    · rintro i x σ H3 H4 hi ⟨s3, v3, v4, rfl⟩ ⟨r, y, rfl, hr, rfl, hy⟩
      obtain ⟨a, xs, rfl, ha⟩ := all i y hy
      have s4 := L2.Same.nw (o := .tup [.int ((2 : Int) + i), .ref a]) s3 hr
      refine a_gtup (SqT.of upd_same) rfl ?_
      walk_at "el"
      refine ⟨by show 2 ≤ sizeLine; decide, fun r2 hr2 => ?_⟩
      have s5 := L2.Same.nw (o := .tup [.ty "list", .ty "tuple"]) s4 hr2
      walk_at "el"
      refine (ha.same s5).isLT upd_same ?_
      walk_at "el"
      exact ⟨s5, _, _, rfl⟩
    · rintro σ H3 ⟨s3, v3, v4, rfl⟩
      exact k _ s3
theorem ok_check_items (F : Fun K "_check_items" "_check_items" s__check_items f fd) (T : BoT K w mg aForms aParts) (c_is_item : Cal P w K mg base CX0 5 "is_item" ["part", "thing", "events", "witnesses"] (spItem K)) :
    FnOk P w K mg base CX0 6 f fd ["place", "part", "items", "events", "witnesses"] (spCi K) := by
  refine F.ok sc__check_items (fun vs H Q E h => ?_) (fun cdv A outer s H vs Q E hr h => ?_)
  · obtain ⟨_, _, _, _, _, _, rfl, _⟩ := h
    rfl
  · obtain ⟨n, p, a, xs, ev, wi, rfl, hp, k⟩ := h
    refine ⟨_, (pss_cons (ps_if (pt_cmpR op_gt (pe_callB u_len rfl T.b.len_ boot_len (pa_cons (pv 2) pa_nil)) (pe_gc (v := .int 24) rfl T.k_MOST_ITEMS) (nomark _))
    (pss_one ps_never)
    pss_nil)
  (pss_one (ps_for PassesOwn.never rfl (PI.alt (pi_enum rfl T.b.enumerate_ (pa_cons (pv 2) pa_nil)) (pi_e1 rfl T.b.enumerate_ (pa_cons (pv 2) pa_nil))) (pg_tup rfl (pgs_cons (pg_name (i := 5) sc__check_items.nd rfl (Or.inl rfl)) (pgs_cons (pg_name (i := 6) sc__check_items.nd rfl (Or.inl rfl)) pgs_nil)))
    (pss_one (ps_if (pt_not (pt_val (pe_cal c_is_item (hr.mono (by decide)) pass0 (pa_cons (pv 1) (pa_cons (pv 6) (pa_cons (pv 3) (pa_cons (pv 4) pa_nil)))))))
    (pss_one ps_never)
    pss_nil))))), ?_⟩
    walk_at "el"
    refine n_len hp.seq.len ?_
    walk_at "el"
    have hn : decide ((xs.length : Int) > 24) = false := decide_eq_false (by have q := hp.len; omega)
    rw [hn]
    walk_at "el"
    rcases hp.seq with ha | ha
    · refine Or.inl ?_
      walk_at "el"
      refine ⟨a, xs, rfl, SqL.of ha, ?_⟩
      refine lp_it walk_enum (fun i σ H3 => Same H H3 ∧ ∃ v3 v4, σ = [some (.int n), some (.str p.name), some (.ref a), some (.int ev), some (.int wi), v3, v4]) ⟨Same.refl _, _, _, rfl⟩ (fun i σ H3 hi h => SqL.of (h.1 _ _ ha)) ?_ ?_
      · rintro i x σ H3 H4 hi ⟨s3, v3, v4, rfl⟩ ⟨r, _, y, rfl, hr, rfl, ei, hy⟩
        cases ei
        have s4 := L2.Same.nw (o := .tup [.int i, y]) s3 hr
        have io := (hp.items y (List.mem_of_getElem? hy)).same s4
        refine a_gtup (SqT.of upd_same) rfl ?_
        walk_at "el"
        refine ⟨p, y, ev, wi, rfl, io.th.1, io.th.2, fun H5 b s5 hb => ?_⟩
        rw [hb.mpr io]
        walk_at "el"
        exact ⟨s4.trans s5, _, _, rfl⟩
      · rintro σ H3 ⟨s3, v3, v4, rfl⟩
        exact k _ s3
    · refine Or.inr ?_
      walk_at "el"
      refine ⟨a, xs, rfl, ha, ?_⟩
      refine lp_it walk_es (fun i σ H3 => Same H H3 ∧ ∃ v3 v4, σ = [some (.int n), some (.str p.name), some (.ref a), some (.int ev), some (.int wi), v3, v4]) ⟨Same.refl _, _, _, rfl⟩ (fun i σ H3 hi h => ha.same h.1) ?_ ?_
      · rintro i x σ H3 H4 hi ⟨s3, v3, v4, rfl⟩ ⟨r, y, rfl, hr, rfl, hy⟩
        have s4 := L2.Same.nw (o := .tup [.int ((0 : Int) + i), y]) s3 hr
        have io := (hp.items y (List.mem_of_getElem? hy)).same s4
        refine a_gtup (SqT.of upd_same) rfl ?_
        walk_at "el"
        refine ⟨p, y, ev, wi, rfl, io.th.1, io.th.2, fun H5 b s5 hb => ?_⟩
        rw [hb.mpr io]
        walk_at "el"
        exact ⟨s4.trans s5, _, _, rfl⟩
      · rintro σ H3 ⟨s3, v3, v4, rfl⟩
        exact k _ s3
/-- a book, its parts told by their addresses -/
def bookO (C dx : Addr) (ev wi : Int) (t g s c : Addr) : HO := .ins C dx [("_events", .int ev), ("_witnesses", .int wi), ("_tellings", .ref t), ("_gaps", .ref g), ("_sure", .ref s), ("_clauses", .ref c)]
structure BkC (K : Frag) (C : Addr) : Prop where
  own : OwnC K C
  n0 : NoAttr K C "_events"
  n1 : NoAttr K C "_witnesses"
  n2 : NoAttr K C "_tellings"
  n3 : NoAttr K C "_gaps"
  n4 : NoAttr K C "_sure"
  n5 : NoAttr K C "_clauses"
def spInit (K : Frag) (C : Addr) : Sp := fun vs H Q _ => ∃ (o dx : Addr) (ev wi : Int) (t g s c : Addr) (ts gs ss cs : List V), vs = [.ref o, .int ev, .int wi, .ref t, .ref g, .ref s, .ref c] ∧ H o = some (.ins C dx []) ∧ 0 ≤ ev ∧ ev ≤ 8 ∧ 0 ≤ wi ∧ wi ≤ 8 ∧
  PartOk K .tel H t ts ev wi ∧ PartOk K .gap H g gs ev wi ∧ PartOk K .sur H s ss ev wi ∧ PartOk K .cla H c cs ev wi ∧
  ∀ H' t' g' s' c', Kp o H H' → H' o = some (bookO C dx ev wi t' g' s' c') → SqT K H' t' ts → SqT K H' g' gs → SqT K H' s' ss → SqT K H' c' cs → Q .non H'
theorem ok_init {dvs : List V} {C : Addr} (F : FunD K "__init__" "Book.__init__" (defArgs s_Book_init) (defBody s_Book_init) (defScope s_Book_init) dvs [] f fd) (T : BoT K w mg aForms aParts) (B : BkC K C)
    (c__check_arguments : Cal P w K mg base CX0 3 "_check_arguments" ["events", "witnesses", "parts"] (spCa K)) (c__check_items : Cal P w K mg base CX0 6 "_check_items" ["place", "part", "items", "events", "witnesses"] (spCi K)) :
    FnOk P w K mg base CX0 7 f fd ["self", "events", "witnesses", "tellings", "gaps", "sure", "clauses"] (spInit K C) := by
  refine F.ok sc_Book_init (fun vs H Q E h => ?_) (fun cdv A outer s H vs Q E hr h => ?_)
  · obtain ⟨_, _, _, _, _, _, _, _, _, _, _, _, rfl, _⟩ := h
    rfl
  · obtain ⟨o, dx, ev, wi, t, g, s, c, ts, gs, ss, cs, rfl, ho, e0, e8, w0, w8, ht, hg, hs, hc, k⟩ := h
    refine ⟨_, PSs.nox (pss_cons (ps_set (i := 7) sc_Book_init.nd rfl (Or.inl rfl) (pe_tup (pa_cons (pv 3) (pa_cons (pv 4) (pa_cons (pv 5) (pa_cons (pv 6) pa_nil))))))
  (pss_cons (ps_expr (pe_cal c__check_arguments (hr.mono (by decide)) pass0 (pa_cons (pv 1) (pa_cons (pv 2) (pa_cons (pv 7) pa_nil)))))
  (pss_cons (ps_for PassesOwn.never rfl (pi_ez rfl T.b.enumerate_ rfl T.b.zip_ (pa_cons (pe_glob (v := .ref aParts) rfl T.gParts rfl) (pa_cons (pv 7) pa_nil)) (by decide) (by decide)) (pg_tup rfl (pgs_cons (pg_name (i := 8) sc_Book_init.nd rfl (Or.inl rfl)) (pgs_cons (pg_tup rfl (pgs_cons (pg_name (i := 9) sc_Book_init.nd rfl (Or.inl rfl)) (pgs_cons (pg_name (i := 10) sc_Book_init.nd rfl (Or.inl rfl)) pgs_nil))) pgs_nil)))
    (pss_one (ps_expr (pe_cal c__check_items (hr.mono (by decide)) pass0 (pa_cons (pv 8) (pa_cons (pv 9) (pa_cons (pv 10) (pa_cons (pv 1) (pa_cons (pv 2) pa_nil)))))))))
  (pss_cons (ps_fld (pv 0) (pv 1) rfl)
  (pss_cons (ps_fld (pv 0) (pv 2) rfl)
  (pss_cons (ps_fld (pv 0) (pe_callTy u_tuple rfl T.b.tuple_ (by decide +kernel) (pa_cons (pv 3) pa_nil)) rfl)
  (pss_cons (ps_fld (pv 0) (pe_callTy u_tuple rfl T.b.tuple_ (by decide +kernel) (pa_cons (pv 4) pa_nil)) rfl)
  (pss_cons (ps_fld (pv 0) (pe_callTy u_tuple rfl T.b.tuple_ (by decide +kernel) (pa_cons (pv 5) pa_nil)) rfl)
  (pss_one (ps_fld (pv 0) (pe_callTy u_tuple rfl T.b.tuple_ (by decide +kernel) (pa_cons (pv 6) pa_nil)) rfl)))))))))), ?_⟩
    walk_at "el"
    refine ⟨by show 4 ≤ sizeLine; decide, fun q hq => ?_⟩
    have s1 := L2.Same.nw (o := .tup [.ref t, .ref g, .ref s, .ref c]) (Same.refl H) hq
    walk_at "el"
    refine ⟨ev, wi, q, t, g, s, c, ts, gs, ss, cs, rfl, upd_same, e0, e8, w0, w8, ht.seq.same s1, hg.seq.same s1, hs.seq.same s1, hc.seq.same s1, fun H2 s2 => ?_⟩
    have hq2 : H2 q = some (.tup [.ref t, .ref g, .ref s, .ref c]) := s2 _ _ upd_same
    have s12 := s1.trans s2
    clear s1 s2
    walk_at "el"
    refine ⟨aParts, q, _, _, rfl, T.parts _, SqT.of hq2, ?_⟩
    have all : ∀ (i : Nat) (x y : V), [V.str "tellings", V.str "gaps", V.str "sure", V.str "clauses"][i]? = some x → [V.ref t, V.ref g, V.ref s, V.ref c][i]? = some y → ∃ p a xs, x = .str (Pt.name p) ∧ y = .ref a ∧ PartOk K p H a xs ev wi := by
      intro i x y hx hy
      rcases i with _ | _ | _ | _ | i <;> cases hx <;> cases hy
      · exact ⟨.tel, _, _, rfl, rfl, ht⟩
      · exact ⟨.gap, _, _, rfl, rfl, hg⟩
      · exact ⟨.sur, _, _, rfl, rfl, hs⟩
      · exact ⟨.cla, _, _, rfl, rfl, hc⟩
    refine lp_it (walk_ez (xs := [.str "tellings", .str "gaps", .str "sure", .str "clauses"]) (ys := [.ref t, .ref g, .ref s, .ref c]) rfl) (fun i σ H3 => Same H H3 ∧ H3 q = some (.tup [.ref t, .ref g, .ref s, .ref c]) ∧ ∃ v3 v4 v5, σ = [some (.ref o), some (.int ev), some (.int wi), some (.ref t), some (.ref g), some (.ref s), some (.ref c), some (.ref q), v3, v4, v5]) ⟨s12, hq2, _, _, _, rfl⟩ (fun i σ H3 hi h => ⟨T.parts _, SqT.of h.2.1⟩) ?_ ?_
    · rintro i x σ H3 H4 hi ⟨s3, hq3, v3, v4, v5, rfl⟩ ⟨r0, r1, x0, y0, rfl, hr0, hr1, ne, rfl, hx, hy⟩
      obtain ⟨p, a, xs, rfl, rfl, hp⟩ := all i _ _ hx hy
      have s4 := L2.Same.nw (o := .tup [.str p.name, .ref a]) (Same.refl H3) hr0
      have s5 := L2.Same.nw (H1 := upd H3 r0 (.tup [.str p.name, .ref a])) (o := .tup [.int ((2 : Int) + i), .ref r0]) s4 (by rw [upd_ne (Ne.symm ne)]; exact hr1)
      have s35 := s3.trans s5
      refine a_gtup (SqT.of upd_same) rfl ?_
      walk_at "el"
      refine a_gtup (SqT.of (by rw [upd_ne ne]; exact upd_same)) rfl ?_
      walk_at "el"
      refine ⟨_, p, a, xs, ev, wi, rfl, hp.same s35, fun H6 s6 => ?_⟩
      walk_at "el"
      exact ⟨s35.trans s6, s6 _ _ (s5 _ _ hq3), _, _, _, rfl⟩
    · rintro σ H3 ⟨s3, _, v3, v4, v5, rfl⟩
      have o3 := s3 _ _ ho
      have k0 : Kp o H H3 := same_kp s3
      clear all hq2 s12
      walk_at "el"
      refine ⟨o, C, dx, _, rfl, o3, B.own.cl, B.n0, by decide, ?_⟩
      walk_at "el"
      refine ⟨o, C, dx, _, rfl, upd_same, B.own.cl, B.n1, by show 1 < 1000; decide, ?_⟩
      walk_at "el"
      have k1 : Kp o H (upd (upd H3 o (.ins C dx (putF "_events" (.int ev) []))) o (.ins C dx (putF "_witnesses" (.int wi) (putF "_events" (.int ev) [])))) := k0.bag.bag
      refine n_tuple (ht.seq.kp ho k1) fun t' H4 s4 ht' => ?_
      have o4 := s4 _ _ upd_same
      have k2 := k1.trans (same_kp s4)
      clear k1 s4 o3 k0
      walk_at "el"
      refine ⟨o, C, dx, _, rfl, o4, B.own.cl, B.n2, by show 2 < 1000; decide, ?_⟩
      walk_at "el"
      have k3 := k2.bag (o := .ins C dx (putF "_tellings" (.ref t') (putF "_witnesses" (.int wi) (putF "_events" (.int ev) []))))
      have ht1 := SqT.kp ht' o4 (Kp.bag (Kp.refl o H4) (o := .ins C dx (putF "_tellings" (.ref t') (putF "_witnesses" (.int wi) (putF "_events" (.int ev) [])))))
      refine n_tuple (hg.seq.kp ho k3) fun g' H5 s5 hg' => ?_
      have o5 := s5 _ _ upd_same
      have k4 := k3.trans (same_kp s5)
      have ht2 := ht1.same s5
      clear k3 s5 o4 k2 ht1 ht'
      walk_at "el"
      refine ⟨o, C, dx, _, rfl, o5, B.own.cl, B.n3, by show 3 < 1000; decide, ?_⟩
      walk_at "el"
      generalize hfs : putF "_gaps" (.ref g') (putF "_tellings" (.ref t') (putF "_witnesses" (.int wi) (putF "_events" (.int ev) []))) = fs4
      have k5 := k4.bag (o := .ins C dx fs4)
      have kk := Kp.bag (Kp.refl o H5) (o := .ins C dx fs4)
      refine n_tuple (hs.seq.kp ho k5) fun s' H6 s6 hs' => ?_
      have o6 := s6 _ _ upd_same
      have k6 := k5.trans (same_kp s6)
      have ht3 := (SqT.kp ht2 o5 kk).same s6
      have hg3 := (SqT.kp hg' o5 kk).same s6
      clear k5 s6 o5 k4 ht2 hg' kk
      walk_at "el"
      refine ⟨o, C, dx, _, rfl, o6, B.own.cl, B.n4, by subst hfs; show 4 < 1000; decide, ?_⟩
      walk_at "el"
      generalize hfs5 : putF "_sure" (.ref s') fs4 = fs5
      have k7 := k6.bag (o := .ins C dx fs5)
      have kk := Kp.bag (Kp.refl o H6) (o := .ins C dx fs5)
      refine n_tuple (hc.seq.kp ho k7) fun c' H7 s7 hc' => ?_
      have o7 := s7 _ _ upd_same
      have k8 := k7.trans (same_kp s7)
      have ht4 := (SqT.kp ht3 o6 kk).same s7
      have hg4 := (SqT.kp hg3 o6 kk).same s7
      have hs4 := (SqT.kp hs' o6 kk).same s7
      clear k7 s7 o6 k6 ht3 hg3 hs' kk
      walk_at "el"
      refine ⟨o, C, dx, _, rfl, o7, B.own.cl, B.n5, by subst hfs5; subst hfs; show 5 < 1000; decide, ?_⟩
      walk_at "el"
      have kk := Kp.bag (Kp.refl o H7) (o := .ins C dx (putF "_clauses" (.ref c') fs5))
      refine k _ t' g' s' c' (k8.trans kk) ?_ (SqT.kp ht4 o7 kk) (SqT.kp hg4 o7 kk) (SqT.kp hs4 o7 kk) (SqT.kp hc' o7 kk)
      rw [upd_same]
      subst hfs5
      subst hfs
      rfl
end
end EL

/- part L -/
namespace EL
open PySem PySem.Spec PyProof.Rows L2
open PySem.W (Frag)
abbrev s_bag : Stmt := top 37
abbrev N_bag : List Str := ["_law_script", "_law_cell"]
theorem sc_bag : FnScope N_bag ["_law_script"] (defScope s_bag) := ⟨rfl, rfl, rfl, by decide +kernel, rfl, by decide +kernel, by decide +kernel⟩
abbrev s_one : Stmt := top 39
abbrev N_one : List Str := ["_law_bag_here", "_law_menu"]
theorem sc_one : FnScope N_one ["_law_bag_here", "_law_menu"] (defScope s_one) := ⟨rfl, rfl, rfl, by decide +kernel, rfl, by decide +kernel, by decide +kernel⟩
local macro_rules | `(tactic| walk_at "el1") => `(tactic| with_reducible first
  | refine a_sasg ?_ | refine a_sdrop ?_ | refine a_saugS ?_ | refine a_spar ?_ | refine a_seq ?_ | refine a_asg ?_ | refine a_drop ?_ | refine a_ret ?_ | refine a_if ?_ | refine a_next ?_
  | refine a_op ?_ | refine a_cons ?_ | refine a_nil ?_ | refine a_cb ?_ | refine a_call ?_ | refine a_c ?_ | refine a_gn ?_ | refine a_nx ?_ | refine a_rt ?_ | refine a_un ?_
  | refine a_test ?_ | refine a_B ?_ | refine a_bl ?_ | refine a_and ?_ | refine a_or ?_ | refine a_not ?_ | refine a_andV ?_ | refine a_orV ?_ | refine a_notV ?_ | refine a_ifx ?_ | refine a_chain ?_
  | refine a_nT ?_ | refine a_nF ?_ | refine a_fld ?_ | refine a_getF ?_ | refine a_T ?_ | refine a_F ?_ | refine a_tup ?_ | refine a_lst ?_ | refine a_sub ?_ | refine a_augS ?_ | refine a_two ?_ | refine a_I0 ?_ | refine a_U ?_ | refine n_add ?_ | refine n_int ?_ | refine n_ib ?_ | refine a_ip ?_ | refine a_rng1 ?_ | refine a_rng2 ?_ | refine a_bm ?_ | refine a_abs ?_ | refine a_pairs ?_ | refine a_pairs0 ?_ | refine a_bk ?_ | refine a_prp ?_ | refine a_lc ?_ | refine a_yes ?_ | refine a_sl ?_ | refine a_nop ?_ | refine a_prt ?_ | refine a_ex1 ?_ | refine a_for ?_ | refine a_sfor ?_ | refine a_iE1 ?_ | refine a_iEs ?_ | refine a_iEz ?_ | refine a_iEnum ?_ | refine a_iTup ?_ | refine a_iList ?_ | refine a_gcons ?_ | refine a_gnil ?_ | refine a_revT ?_ | refine a_spar3 ?_ | refine a_par3 ?_ | refine a_three ?_)
local macro_rules | `(tactic| walk_at "el2") => `(tactic| first
  | (refine a_var (by rfl) ?_)
  | (refine n_ixL (SqL.of (by assumption)) (by rfl) ?_) | (refine n_ixT (SqT.of (by assumption)) (by rfl) ?_) | (refine n_eq (by rfl) ?_) | (refine n_ne (by rfl) ?_)
  | (refine n_isN ?_) | (refine n_notN ?_) | (refine n_isB ?_) | (refine n_notB ?_) | (refine n_isBI ?_) | (refine n_notBI ?_) | (refine n_len (.inl (SqL.of (by assumption))) ?_) | (refine n_len (.inr (SqT.of (by assumption))) ?_)
  | (refine a_getL (SqL.of (by assumption)) (by rfl) ?_)
  | (refine n_isInt (by assumption) ?_) | (refine n_isBool (by assumption) ?_) | (refine n_isStr (by assumption) ?_) | (refine n_isTup (by assumption) ?_) | (refine n_isLst (by assumption) ?_))
local macro_rules | `(tactic| walk_at "el") => `(tactic| repeat (first | walk_at "el1" | walk_at "el2"))

/-! ### the bag is made; one of a menu -/
def spBag (K : Frag) : Sp := fun vs H Q _ => ∃ (a : Addr) (ns : List Int), vs = [.ref a] ∧ SqL K H a (ns.map V.int) ∧ ∀ b c H', H b = none → H c = none → Bag H' b c → Same H H' → Q (.ref b) H'
def spOne (K : Frag) : Sp := fun vs H Q _ => ∃ (b c m : Addr) (xs : List V), vs = [.ref b, .ref m] ∧ Bag H b c ∧ m ≠ b ∧ SqA K H m xs ∧ 0 < xs.length ∧ xs.length ≤ 1000000000 ∧ ∀ x H', x ∈ xs → Bag H' b c → Kp b H H' → Q x H'
theorem cut_map {α : Type} (f : α → V) (ns : List α) (lo hi : Option Int) : ∃ ms : List α, cutV (ns.map f) lo hi = ms.map f ∧ ms.length ≤ ns.length := by
  unfold cutV
  refine ⟨(ns.drop (HT.sIx (ns.map f).length 0 lo)).take (HT.sIx (ns.map f).length (ns.map f).length hi - HT.sIx (ns.map f).length 0 lo), by rw [List.map_take, List.map_drop], ?_⟩
  rw [List.length_take, List.length_drop]
  omega
theorem atI_mem {xs : List V} {k : Int} {x : V} (h : atI xs k = some x) : x ∈ xs := by
  obtain ⟨j, h1, h2, _⟩ := atI_get h
  exact List.mem_of_getElem? h2
theorem cut_len63 (xs : List V) : (cutV xs none (some 63)).length ≤ 63 := by
  unfold cutV
  rw [List.length_take]
  refine Nat.le_trans (Nat.min_le_left _ _) ?_
  show min (63 : Int).toNat xs.length - 0 ≤ 63
  have q : (63 : Int).toNat = 63 := rfl
  omega
section
variable {P : Program} {w : World} {K : Frag} {mg : Str → Option Value} {base : Heap} {f : Addr} {fd : FuncData}
theorem ok_bag (F : Fun K "_law_bag" "_law_bag" s_bag f fd) (T : Tb mg) : FnOk P w K mg base CX0 1 f fd ["_law_script"] (spBag K) := by
  refine F.ok sc_bag (fun vs H Q E h => ?_) (fun cdv A outer s H vs Q E hr h => ?_)
  · obtain ⟨_, _, rfl, _⟩ := h
    rfl
  · obtain ⟨a, ns, rfl, ha, k⟩ := h
    refine ⟨_, (pss_one (ps_ret (pe_lst (pa_cons pe_int (pa_cons pe_int (pa_cons pe_int (pa_cons (pe_lc (own := [("_law_cell", 1)]) rfl sc_bag.nd (u_iter (pe_slice u_slice (pv 0) po_none (po_some pe_int))) (blkOk_by (own := [("_law_cell", 1)]) (N := N_bag) (sc := defScope s_bag) (by decide +kernel)) (fun _ _ _ _ _ => (pg_name (i := 1) sc_bag.nd rfl (Or.inl rfl))) (fun _ _ _ _ _ => pts_nil) (fun _ _ _ _ _ => (pe_callB call_abs rfl T.b.abs_ (by decide +kernel) (pa_cons (pv 1) pa_nil)))) pa_nil))))))), ?_⟩
    walk_at "el"
    refine a_iSeq (.inl ?_)
    walk_at "el"
    refine .inl ⟨a, _, rfl, ha, fun p hp => ?_⟩
    obtain ⟨ms, em, lm⟩ := cut_map V.int ns none (some 63)
    have l63 := cut_len63 (ns.map V.int)
    rw [em] at l63 ⊢
    rw [List.length_map] at l63
    have s1 := L2.Same.nw (o := .lst (ms.map V.int)) (Same.refl H) hp
    refine ⟨p, rfl, ⟨_, SqL.of upd_same⟩, fun D hD => ?_⟩
    have hDp : D ≠ p := fun z => by subst z; rw [upd_same] at hD; cases hD
    have hD0 : H D = none := s1.free hD
    refine lc_of (walk_list (xs := ms.map V.int)) (fun i H3 => Same H H3 ∧ H3 p = some (.lst (ms.map V.int)) ∧ ∃ cs : List Int, H3 D = some (.lst (cs.map V.int)) ∧ cs.length = i ∧ ∀ x ∈ cs, 0 ≤ x) ⟨s1.nw hD, by rw [upd_ne hDp.symm]; exact upd_same, [], upd_same, rfl, fun _ h => nomatch h⟩ (fun i H3 hi h => SqL.of h.2.1) ?_ ?_
    · rintro i x H3 H4 hi ⟨s3, hp3, cs, hD3, hl, hc⟩ ⟨rfl, hx⟩
      rw [List.length_map] at hi
      rw [List.getElem?_map, List.getElem?_eq_getElem hi] at hx
      cases hx
      walk_at "el"
      refine ⟨rfl, ?_⟩
      walk_at "el"
      refine ⟨_, hD3, by rw [List.length_map, hl]; exact Nat.lt_of_lt_of_le (m := 63) (by omega) (by decide), ?_⟩
      refine ⟨s3.mu hD0, by rw [upd_ne hDp.symm]; exact hp3, cs ++ [if ms[i] < 0 then -ms[i] else ms[i]], by rw [upd_same, List.map_append]; rfl, by rw [List.length_append, hl]; rfl, ?_⟩
      intro x hx
      rcases List.mem_append.mp hx with h | h
      · exact hc x h
      · cases List.mem_singleton.mp h
        split <;> omega
    · rintro H3 ⟨s3, hp3, cs, hD3, hl, hc⟩
      walk_at "el"
      refine ⟨by show 4 ≤ sizeLine; decide, fun b hb => ?_⟩
      have hbD : D ≠ b := fun z => by subst z; rw [hD3] at hb; cases hb
      exact k b D _ (s3.free hb) hD0 ⟨0, 1234567891, 0, cs, upd_same, by rw [upd_ne hbD]; exact hD3, hbD, by decide, by decide, by decide, by decide, hc⟩ (s3.nw hb)
theorem ok_one (F : Fun K "_law_one" "_law_one" s_one f fd) (T : Tb mg) (c_take : Cal P w K mg base CX0 1 "_law_take" ["_law_bag_here", "_law_many"] spTake) : FnOk P w K mg base CX0 2 f fd ["_law_bag_here", "_law_menu"] (spOne K) := by
  refine F.ok sc_one (fun vs H Q E h => ?_) (fun cdv A outer s H vs Q E hr h => ?_)
  · obtain ⟨_, _, _, _, rfl, _⟩ := h
    rfl
  · obtain ⟨b, c, m, xs, rfl, hb, hm, hs, h0, h1, k⟩ := h
    refine ⟨_, (pss_one (ps_ret (pe_ix ix_seq (pv 1) (pe_cal c_take (hr.mono (by decide)) pass0 (pa_cons (pv 0) (pa_cons (pe_callB u_len rfl T.b.len_ boot_len (pa_cons (pv 1) pa_nil)) pa_nil))) (fun _ _ => rfl)))), ?_⟩
    walk_at "el"
    refine n_len hs.len ?_
    walk_at "el"
    refine ⟨b, c, xs.length, rfl, hb, by omega, by omega, fun r H1 r0 r1 hb1 k1 => ?_⟩
    obtain ⟨x, hx⟩ : ∃ x, atI xs r = some x := by
      obtain ⟨n, rfl⟩ : ∃ n : Nat, r = n := ⟨r.toNat, by omega⟩
      have hn : n < xs.length := by omega
      exact ⟨xs[n], atI_nat (List.getElem?_eq_getElem hn)⟩
    have hm1 : SqA K H1 m xs := by
      rcases hs with h | (h | ⟨o, h⟩) | h
      · exact .inl (k1 _ _ hm h)
      · exact .inr (.inl (.inl (k1 _ _ hm h)))
      · exact .inr (.inl (.inr ⟨o, k1 _ _ hm h⟩))
      · exact .inr (.inr h)
    walk_at "el"
    rcases hm1 with h | h
    · refine n_ixL (SqL.of h) hx ?_
      exact k x _ (atI_mem hx) hb1 k1
    · refine n_ixT h hx ?_
      exact k x _ (atI_mem hx) hb1 k1
end
end EL

/- part G -/
namespace EL
open PySem PySem.Spec PyProof.Rows L2
open PySem.W (Frag)
/-! ### Book(..) as a call -/
abbrev psBook : List Str := ["self", "events", "witnesses", "tellings", "gaps", "sure", "clauses"]
structure BookD where
  f : Addr
  fd : FuncData
  d1 : Addr
  d2 : Addr
  d3 : Addr
  d4 : Addr
  ds : List Value
  ds4 : List Value
  ds3 : List Value
structure BookG (P : Program) (w : World) (K : Frag) (mg : Str → Option Value) (base : Heap) (C : Addr) (D : BookD) : Prop where
  made : Mk K C D.f
  fn : FnOk P w K mg base CX0 7 D.f D.fd psBook (spInit K C)
  b6 : L2.Binds K D.fd psBook []
  v2 : Vals [.ref D.d1, .ref D.d2, .ref D.d3, .ref D.d4] D.ds
  b2 : L2.Binds K D.fd psBook D.ds
  v4 : Vals [.ref D.d3, .ref D.d4] D.ds4
  b4 : L2.Binds K D.fd psBook D.ds4
  v3 : Vals [.ref D.d2, .ref D.d3, .ref D.d4] D.ds3
  b3 : L2.Binds K D.fd psBook D.ds3
  dflt : ∀ H, SqT K H D.d1 [] ∧ SqT K H D.d2 [] ∧ SqT K H D.d3 [] ∧ SqT K H D.d4 []
  g : mg "Book" = some (.ref C)
  c : BkC K C
/-- a new book, its parts tuples -/
def NewBook (K : Frag) (C : Addr) (ev wi : Int) (ts gs ss cs : List V) (H1 : Hp) (Q : VK) : Prop :=
  ∀ o dx t g s c H', Same H1 H' → H1 o = none → H' o = some (bookO C dx ev wi t g s c) → SqT K H' t ts → SqT K H' g gs → SqT K H' s ss → SqT K H' c cs → Q (.ref o) H'
theorem made_same {H1 H' : Hp} {x dx C : Addr} (nx : H1 x = none) (nd : H1 dx = none) (k : Kp x (upd (upd H1 dx (.own x)) x (.ins C dx [])) H') : Same H1 H' := fun a o e =>
  k a o (ne_of_none e nx) (by rw [upd_ne (ne_of_none e nx), upd_ne (ne_of_none e nd)]; exact e)
/-- what a making asks -/
def MkB (K : Frag) (C : Addr) (dvs vs : List V) (H1 : Hp) (Q : VK) : Prop := ∀ x dx, H1 x = none → H1 dx = none → dx ≠ x → spInit K C (.ref x :: (vs ++ dvs)) (upd (upd H1 dx (.own x)) x (.ins C dx [])) (fun v H2 => v = .non ∧ Q (.ref x) H2) E0
def tBk (K : Frag) (C : Addr) (dvs : List V) (t : TA) : TE := fun σ H Q => t σ H fun vs H1 => MkB K C dvs vs H1 Q
section
variable {X : Cx} {C : Addr} {D : BookD} {pos p : Pos} {e : Expr} {es : List Expr} {t : TA}
theorem pe_bk2 (B : BookG X.prog X.w X.K X.mg X.base C D) (hr : Room 8 X.A) (hg : Gl X "Book") (ha : PA X (e :: es) t) (he : starEach (e :: es) X.env = (false, eval e X.env) :: starEach es X.env := by rfl) (hpl : (backTo pos (starEach es X.env)).any (·.1) = false := by rfl) :
    PE X (.Call (.Name "Book" p) (e :: es) [] pos) (tBk X.K C [.ref D.d1, .ref D.d2, .ref D.d3, .ref D.d4] t) := pe_make (p := p) (pos := pos) B.made B.fn hr hg B.g B.b2 B.v2 pass0 ha (by decide) he hpl
theorem pe_bk6 (B : BookG X.prog X.w X.K X.mg X.base C D) (hr : Room 8 X.A) (hg : Gl X "Book") (ha : PA X (e :: es) t) (he : starEach (e :: es) X.env = (false, eval e X.env) :: starEach es X.env := by rfl) (hpl : (backTo pos (starEach es X.env)).any (·.1) = false := by rfl) :
    PE X (.Call (.Name "Book" p) (e :: es) [] pos) (tBk X.K C [] t) := pe_make (p := p) (pos := pos) B.made B.fn hr hg B.g B.b6 .nil pass0 ha (by decide) he hpl
theorem pe_bk4 (B : BookG X.prog X.w X.K X.mg X.base C D) (hr : Room 8 X.A) (hg : Gl X "Book") (ha : PA X (e :: es) t) (he : starEach (e :: es) X.env = (false, eval e X.env) :: starEach es X.env := by rfl) (hpl : (backTo pos (starEach es X.env)).any (·.1) = false := by rfl) :
    PE X (.Call (.Name "Book" p) (e :: es) [] pos) (tBk X.K C [.ref D.d3, .ref D.d4] t) := pe_make (p := p) (pos := pos) B.made B.fn hr hg B.g B.b4 B.v4 pass0 ha (by decide) he hpl
theorem pe_bk3 (B : BookG X.prog X.w X.K X.mg X.base C D) (hr : Room 8 X.A) (hg : Gl X "Book") (ha : PA X (e :: es) t) (he : starEach (e :: es) X.env = (false, eval e X.env) :: starEach es X.env := by rfl) (hpl : (backTo pos (starEach es X.env)).any (·.1) = false := by rfl) :
    PE X (.Call (.Name "Book" p) (e :: es) [] pos) (tBk X.K C [.ref D.d2, .ref D.d3, .ref D.d4] t) := pe_make (p := p) (pos := pos) B.made B.fn hr hg B.g B.b3 B.v3 pass0 ha (by decide) he hpl
end
section
variable {K : Frag} {C : Addr} {σ : L2.St} {H : Hp} {Q : VK} {dvs : List V} {t : TA}
theorem a_bk (q : t σ H fun vs H1 => MkB K C dvs vs H1 Q) : tBk K C dvs t σ H Q := q
theorem PartOk.nil {p : Pt} {a : Addr} {ev wi : Int} (h : SqT K H a []) : PartOk K p H a [] ev wi := ⟨.inr h, by decide, fun _ h => nomatch h⟩
theorem new_same {x dx : Addr} (nx : H x = none) (nd : H dx = none) (ne : dx ≠ x) : Same H (upd (upd H dx (.own x)) x (.ins C dx [])) := L2.Same.nw (L2.Same.nw (Same.refl H) nd) (by rw [upd_ne ne.symm]; exact nx)
theorem n_bk6 {ev wi : Int} {t g s c : Addr} {ts gs ss cs : List V} (e0 : 0 ≤ ev) (e8 : ev ≤ 8) (w0 : 0 ≤ wi) (w8 : wi ≤ 8) (ht : PartOk K .tel H t ts ev wi) (hg : PartOk K .gap H g gs ev wi) (hs : PartOk K .sur H s ss ev wi) (hc : PartOk K .cla H c cs ev wi)
    (q : NewBook K C ev wi ts gs ss cs H Q) : MkB K C [] [.int ev, .int wi, .ref t, .ref g, .ref s, .ref c] H Q := fun x dx nx nd ne => by
  have s0 := new_same (C := C) nx nd ne
  exact ⟨x, dx, ev, wi, t, g, s, c, ts, gs, ss, cs, rfl, upd_same, e0, e8, w0, w8, ht.same s0, hg.same s0, hs.same s0, hc.same s0, fun H' t' g' s' c' k ho h1 h2 h3 h4 => ⟨rfl, q x dx t' g' s' c' H' (made_same nx nd k) nx ho h1 h2 h3 h4⟩⟩
theorem n_bk4 {D : BookD} {ev wi : Int} {t g : Addr} {ts gs : List V} (hd : ∀ H, SqT K H D.d1 [] ∧ SqT K H D.d2 [] ∧ SqT K H D.d3 [] ∧ SqT K H D.d4 []) (e0 : 0 ≤ ev) (e8 : ev ≤ 8) (w0 : 0 ≤ wi) (w8 : wi ≤ 8) (ht : PartOk K .tel H t ts ev wi) (hg : PartOk K .gap H g gs ev wi)
    (q : NewBook K C ev wi ts gs [] [] H Q) : MkB K C [.ref D.d3, .ref D.d4] [.int ev, .int wi, .ref t, .ref g] H Q := fun x dx nx nd ne => by
  have s0 := new_same (C := C) nx nd ne
  exact ⟨x, dx, ev, wi, t, g, D.d3, D.d4, ts, gs, [], [], rfl, upd_same, e0, e8, w0, w8, ht.same s0, hg.same s0, .nil (hd _).2.2.1, .nil (hd _).2.2.2,
    fun H' t' g' s' c' k ho h1 h2 h3 h4 => ⟨rfl, q x dx t' g' s' c' H' (made_same nx nd k) nx ho h1 h2 h3 h4⟩⟩
theorem n_bk3 {D : BookD} {ev wi : Int} {t : Addr} {ts : List V} (hd : ∀ H, SqT K H D.d1 [] ∧ SqT K H D.d2 [] ∧ SqT K H D.d3 [] ∧ SqT K H D.d4 []) (e0 : 0 ≤ ev) (e8 : ev ≤ 8) (w0 : 0 ≤ wi) (w8 : wi ≤ 8) (ht : PartOk K .tel H t ts ev wi)
    (q : NewBook K C ev wi ts [] [] [] H Q) : MkB K C [.ref D.d2, .ref D.d3, .ref D.d4] [.int ev, .int wi, .ref t] H Q := fun x dx nx nd ne => by
  have s0 := new_same (C := C) nx nd ne
  exact ⟨x, dx, ev, wi, t, D.d2, D.d3, D.d4, ts, [], [], [], rfl, upd_same, e0, e8, w0, w8, ht.same s0, .nil (hd _).2.1, .nil (hd _).2.2.1, .nil (hd _).2.2.2,
    fun H' t' g' s' c' k ho h1 h2 h3 h4 => ⟨rfl, q x dx t' g' s' c' H' (made_same nx nd k) nx ho h1 h2 h3 h4⟩⟩
theorem n_bk2 {D : BookD} {ev wi : Int} (hd : ∀ H, SqT K H D.d1 [] ∧ SqT K H D.d2 [] ∧ SqT K H D.d3 [] ∧ SqT K H D.d4 []) (e0 : 0 ≤ ev) (e8 : ev ≤ 8) (w0 : 0 ≤ wi) (w8 : wi ≤ 8)
    (q : NewBook K C ev wi [] [] [] [] H Q) : MkB K C [.ref D.d1, .ref D.d2, .ref D.d3, .ref D.d4] [.int ev, .int wi] H Q := fun x dx nx nd ne => by
  exact ⟨x, dx, ev, wi, D.d1, D.d2, D.d3, D.d4, [], [], [], [], rfl, upd_same, e0, e8, w0, w8, .nil (hd _).1, .nil (hd _).2.1, .nil (hd _).2.2.1, .nil (hd _).2.2.2,
    fun H' t' g' s' c' k ho h1 h2 h3 h4 => ⟨rfl, q x dx t' g' s' c' H' (made_same nx nd k) nx ho h1 h2 h3 h4⟩⟩
end
theorem Bag.same {H H' : Hp} {b c : Addr} (h : Bag H b c) (s : Same H H') : Bag H' b c := by
  obtain ⟨i, j, k, cs, h1, h2, r⟩ := h
  exact ⟨i, j, k, cs, s _ _ h1, s _ _ h2, r⟩
theorem Bag.ne {H : Hp} {b c p : Addr} (h : Bag H b c) (hp : H p = none) : p ≠ b := fun z => by
  obtain ⟨i, j, k, cs, h1, _⟩ := h
  subst z
  rw [h1] at hp
  cases hp
theorem Th.kp {K : Frag} {b c : Addr} {H H' : Hp} {x : V} (h : Th K H x) (hb : Bag H b c) (hb' : Bag H' b c) (k : Kp b H H') : Th K H' x := by
  obtain ⟨_, _, _, _, h1, _⟩ := hb
  obtain ⟨_, _, _, _, h2, _⟩ := hb'
  exact h.stay h1 h2 k
theorem all_nil {α : Type} {p : α → Prop} : ∀ x ∈ ([] : List α), p x := fun _ h => nomatch h
theorem all_cons {α : Type} {p : α → Prop} {a : α} {l : List α} (h : p a) (t : ∀ x ∈ l, p x) : ∀ x ∈ a :: l, p x := fun x hx => (List.mem_cons.mp hx).elim (fun e => e ▸ h) (t x)
theorem all_app {α : Type} {p : α → Prop} {l m : List α} (h : ∀ x ∈ l, p x) (t : ∀ x ∈ m, p x) : ∀ x ∈ l ++ m, p x := fun x hx => (List.mem_append.mp hx).elim (h x) (t x)
/-- what is new -/
def Nw (H : Hp) (p : Addr) : Prop := ∀ o, Same H (upd H p o)
theorem nw_of {H : Hp} {p : Addr} (h : H p = none) : Nw H p := fun o => L2.Same.nw (Same.refl H) h
theorem Nw.to {H : Hp} {p a : Addr} {o u : HO} (n : Nw H p) (h : H a = some u) : upd H p o a = some u := n o a u h
theorem Th.kpK {K : Frag} {b c : Addr} {H H' : Hp} {x : V} (k : Kp b H H') (hb' : Bag H' b c) (hb : Bag H b c) (h : Th K H x) : Th K H' x := h.kp hb hb' k
theorem Kp.into {b : Addr} {H H1 H2 : Hp} (q : Kp b H1 H2) (p : Same H H1) : Kp b H H2 := (same_kp p).trans q
theorem eqv_is (r : Int) (s : Str) : PyData.eqv (.tuple [.int r, .str s]) (.tuple [.int r, .str s]) = true := by simp [PyData.eqv, PyData.eqvAll]
theorem shp_is {r : Int} {s : Str} (h : PyData.strOk s = true) : SeqAt.shaped (.tuple [.int r, .str s]) = true := by
  simp [SeqAt.shaped, PyData.canLay0, PyData.canLayAll0, PyData.depth, PyData.depthAll]
  exact h
/-- what a law promises: True for each script -/
def spLaw (K : Frag) : Sp := fun vs H Q _ => ∃ (a : Addr) (ns : List Int), vs = [.ref a] ∧ SqL K H a (ns.map V.int) ∧ ∀ H', Q (.bl true) H'
theorem walk_all {l : PySem.W.OpenLaw} {k : Nat} {q : Program} {loose : List Str} {XP : (Str → Option Value) → Heap → Prop} {YP : World → Heap → Prop} {d : DefRec} {K : Params → Frag} (hn : l.most = some 63) (hdf : d.params.defaults = []) (hr : Room k PySem.callerA)
    (hY : ∀ (w : World) (h : Heap), YP w h → (K w.params).In h)
    (F : ∀ (w : World) (mg : Str → Option Value) (fa : Addr) (h : Heap), (K w.params).In h → h.Ns mainGlobals mg → mg d.name = some (.ref fa) →
      ∃ fd : FuncData, (∀ (s : Shared) (u : Value), BindsTo s fd ⟨[u], []⟩ [("_law_script", u)]) ∧ ∀ base : Heap, (K w.params).In base → base.Ns mainGlobals mg → FnG l.prog w (K w.params) mg base CX0 k fa fd ["_law_script"] (spLaw (K w.params))) :
    PySem.W.WalkO q loose XP YP l.row.toRowW d [] (fun f vs => PySem.call f vs) :=
  walk_law (n := 63) (x := "_law_script") (CX := fun _ => CX0) (sp := fun w => spLaw (K w.params)) hn (by decide) hdf hr hY F (fun _ _ a ns hl _ hS => ⟨a, ns, rfl, hS, fun _ => rfl⟩) fun _ _ _ _ _ z => z
theorem own_kit {K : PySem.W.Frag} {C : Addr} {T : String} (hm : PySem.W.kitMeta T = true) (h : PySem.W.mroIn K C (.type T) = some false) : PySem.W.kitOne K (.ref C) (.type T) = some false := by
  unfold PySem.W.kitOne
  rw [if_neg (by simp)]
  show (if PySem.W.kitMeta T = true then PySem.W.subIn K (.ref C) (.type T) else none) = _
  rw [if_pos hm]
  exact h
/-! ### the properties of a book -/
def spGet (C : Addr) (fld : Str) : Sp := fun vs H Q _ => ∃ (a dx : Addr) (fs : List (Str × V)) (v : V), vs = [.ref a] ∧ H a = some (.ins C dx fs) ∧ fs.lookup fld = some v ∧ Q v H
structure PrpG (P : Program) (w : World) (K : Frag) (mg : Str → Option Value) (base : Heap) (C : Addr) (f fld : Str) : Prop where
  ex : ∃ p g fd, PropOf K C f p g ∧ FnOk P w K mg base CX0 1 g fd ["self"] (spGet C fld) ∧ L2.Binds K fd ["self"] []
  cl : Cls K C
theorem pe_prp {X : Cx} {C : Addr} {f fld : Str} {e : Expr} {ta : TE} {pos : Pos} (G : PrpG X.prog X.w X.K X.mg X.base C f fld) (hr : Room 2 X.A) (ha : PE X e ta) (hab : attributeBase e f X.env (eval e X.env) = eval e X.env := by rfl) :
    PE X (.Attribute e f pos) (tProp C (spGet C fld) [] E0 ta) := by
  obtain ⟨p, g, fd, hp, F, hb⟩ := G.ex
  exact pe_prop ha G.cl hp F hr hb .nil pass0 hab
def PrpR (C : Addr) (fld : Str) (x : V) (H : Hp) (Q : VK) : Prop := ∃ a dx fs, x = V.ref a ∧ H a = some (.ins C dx fs) ∧ spGet C fld (V.ref a :: []) H Q E0
theorem a_prp {C : Addr} {fld : Str} {ta : TE} {σ : L2.St} {H : Hp} {Q : VK} (q : ta σ H fun x H1 => PrpR C fld x H1 Q) : tProp C (spGet C fld) [] E0 ta σ H Q := q
theorem n_prp {C a dx : Addr} {fld : Str} {fs : List (Str × V)} {v : V} {H : Hp} {Q : VK} (h : H a = some (.ins C dx fs)) (hv : fs.lookup fld = some v) (q : Q v H) : PrpR C fld (.ref a) H Q := ⟨a, dx, fs, rfl, h, a, dx, fs, v, rfl, h, hv, q⟩
theorem nn {H : Hp} {a q : Addr} {o : HO} (h : upd H a o q = none) : q ≠ a ∧ H q = none := by
  by_cases e : q = a
  · subst e
    rw [upd_same] at h
    cases h
  · rw [upd_ne e] at h
    exact ⟨e, h⟩
theorem isI_cases {x : V} (h : isI x = true) : (∃ z, x = .int z) ∨ ∃ z, x = .bl z := by
  cases x with
  | int z => exact .inl ⟨z, rfl⟩
  | bl z => exact .inr ⟨z, rfl⟩
  | _ => cases h
theorem shp_ints : ∀ (js : List Int), SeqAt.shaped (.list (js.map PyData.int)) = true := by
  intro js
  simp only [SeqAt.shaped, Bool.and_eq_true, decide_eq_true_iff]
  refine ⟨?_, ?_⟩
  · show PyData.canLayAll0 (js.map PyData.int) = true
    induction js with
    | nil => rfl
    | cons j r ih => simp only [List.map_cons, PyData.canLayAll0, PyData.canLay0, ih, Bool.and_true]
  · have q : PyData.depthAll (js.map PyData.int) ≤ 1 := by
      induction js with
      | nil => decide
      | cons j r ih => simp [PyData.depthAll, PyData.depth]; omega
    simp [PyData.depth]; omega
theorem eqv_nil (ds : List PyData) : PyData.eqv (.list ds) (.list []) = decide (ds = []) := by
  cases ds with
  | nil => simp [PyData.eqv, PyData.eqvAll]
  | cons d r => simp [PyData.eqv, PyData.eqvAll]
theorem dp_ints {K : Frag} {H : Hp} : ∀ (js : List Int), DpAll K H (js.map V.int) (js.map PyData.int)
  | [] => .nil
  | j :: r => .cons (.int j) (dp_ints r)
/-! ### data stays -/
mutual
theorem dp_same {K : Frag} {H H' : Hp} (s : Same H H') : ∀ (d : PyData) (v : V), Dp K H v d → Dp K H' v d
  | .none, _, h => by cases h; exact .non
  | .bool _, _, h => by cases h; exact .bl _
  | .int _, _, h => by cases h; exact .int _
  | .str _, _, h => by cases h; exact .str _
  | .list ds, _, h => by
    cases h with
    | lst a ha => exact .lst (Same.seq s a) (dp_sameAll s ds _ ha)
  | .tuple ds, _, h => by
    cases h with
    | tup a ha => exact .tup (a.same s) (dp_sameAll s ds _ ha)
  | .dict _, _, h => by cases h
theorem dp_sameAll {K : Frag} {H H' : Hp} (s : Same H H') : ∀ (ds : List PyData) (vs : List V), DpAll K H vs ds → DpAll K H' vs ds
  | [], _, h => by cases h; exact .nil
  | d :: ds, _, h => by
    cases h with
    | cons h1 h2 => exact .cons (dp_same s d _ h1) (dp_sameAll s ds _ h2)
end
end EL

/- part WM -/
/-! walks along gaps; the greatest sums: by one gap more, again and again, and by middle events. Own work. -/
namespace EL.WM
abbrev Gp := Int × Int × Int
/-- where a walk ends -/
def wk (G : List Gp) : Int → List Nat → Option Int
  | a, [] => some a
  | a, i :: r => match G[i]? with
    | some x => if x.1 = a then wk G x.2.1 r else none
    | none => none
/-- its sum -/
def gw (G : List Gp) (i : Nat) : Int := match G[i]? with | some x => x.2.2 | none => 0
def sm (G : List Gp) : List Nat → Int
  | [] => 0
  | i :: r => gw G i + sm G r
/-- the events where its gaps begin -/
def tr (G : List Gp) : Int → List Nat → List Int
  | _, [] => []
  | a, i :: r => a :: match G[i]? with
    | some x => tr G x.2.1 r
    | none => []
theorem wk_cons {G : List Gp} {a b : Int} {i : Nat} {r : List Nat} (h : wk G a (i :: r) = some b) : ∃ x, G[i]? = some x ∧ x.1 = a ∧ wk G x.2.1 r = some b := by
  unfold wk at h
  cases e : G[i]? with
  | none => rw [e] at h; cases h
  | some x =>
    rw [e] at h
    simp only at h
    split at h
    · exact ⟨x, rfl, by assumption, h⟩
    · cases h
theorem wk_mk {G : List Gp} {i : Nat} {r : List Nat} {x : Gp} (e : G[i]? = some x) : wk G x.1 (i :: r) = wk G x.2.1 r := by
  conv => lhs; unfold wk
  rw [e]
  simp only [if_true]
theorem wk_app {G : List Gp} : ∀ (p q : List Nat) (a : Int), wk G a (p ++ q) = (wk G a p).bind fun b => wk G b q
  | [], q, a => rfl
  | i :: p, q, a => by
    cases e : G[i]? with
    | none =>
      have h : ∀ r, wk G a (i :: r) = none := fun r => by simp only [wk, e]
      show wk G a (i :: (p ++ q)) = _
      rw [h, h]
      rfl
    | some x =>
      by_cases z : x.1 = a
      · subst z
        show wk G x.1 (i :: (p ++ q)) = _
        rw [wk_mk e, wk_mk e]
        exact wk_app p q x.2.1
      · have h : ∀ r, wk G a (i :: r) = none := fun r => by simp only [wk, e, if_neg z]
        show wk G a (i :: (p ++ q)) = _
        rw [h, h]
        rfl
theorem wk_join {G : List Gp} {p q : List Nat} {a b c : Int} (h1 : wk G a p = some b) (h2 : wk G b q = some c) : wk G a (p ++ q) = some c := by
  rw [wk_app, h1]
  exact h2
theorem sm_app {G : List Gp} : ∀ (p q : List Nat), sm G (p ++ q) = sm G p + sm G q
  | [], q => by show sm G q = 0 + sm G q; omega
  | i :: p, q => by
    show gw G i + sm G (p ++ q) = gw G i + sm G p + sm G q
    rw [sm_app p q]
    omega
theorem tr_len {G : List Gp} : ∀ (is : List Nat) (a b : Int), wk G a is = some b → (tr G a is).length = is.length
  | [], _, _, _ => rfl
  | i :: r, a, b, h => by
    obtain ⟨x, e, _, h2⟩ := wk_cons h
    unfold tr
    rw [e]
    simp only [List.length_cons]
    rw [tr_len r _ _ h2]
theorem tr_split {G : List Gp} : ∀ (is : List Nat) (a b : Int) (j : Nat) (x : Int), wk G a is = some b → (tr G a is)[j]? = some x → wk G a (is.take j) = some x ∧ wk G x (is.drop j) = some b
  | [], _, _, j, x, _, h => by cases j <;> cases h
  | i :: r, a, b, j, x, h, hx => by
    obtain ⟨y, e, ya, h2⟩ := wk_cons h
    have t : tr G a (i :: r) = a :: tr G y.2.1 r := by
      conv => lhs; unfold tr
      rw [e]
    rw [t] at hx
    cases j with
    | zero =>
      cases hx
      exact ⟨rfl, h⟩
    | succ j =>
      obtain ⟨p, q⟩ := tr_split r _ b j x h2 hx
      refine ⟨?_, q⟩
      show wk G a (i :: r.take j) = some x
      rw [← ya, wk_mk e]
      exact p
theorem tr_all {G : List Gp} {P : Int → Prop} (hG : ∀ x ∈ G, P x.2.1) : ∀ (is : List Nat) (a b : Int), wk G a is = some b → P a → (∀ v ∈ tr G a is, P v) ∧ P b
  | [], a, b, h, pa => by
    cases h
    exact ⟨(fun _ h => nomatch h), pa⟩
  | i :: r, a, b, h, pa => by
    obtain ⟨x, e, _, h2⟩ := wk_cons h
    obtain ⟨q1, q2⟩ := tr_all hG r x.2.1 b h2 (hG x (List.mem_of_getElem? e))
    refine ⟨fun v hv => ?_, q2⟩
    unfold tr at hv
    rw [e] at hv
    simp only at hv
    rcases List.mem_cons.mp hv with rfl | hv
    · exact pa
    · exact q1 v hv
/-! ### as many events as there are -/
theorem nodup_le : ∀ (n : Nat) (l : List Int), l.Nodup → (∀ x ∈ l, 0 ≤ x ∧ x < n) → l.length ≤ n
  | 0, l, _, h => by
    cases l with
    | nil => exact Nat.le_refl _
    | cons x r => have := h x (List.mem_cons_self ..); omega
  | n + 1, l, nd, h => by
    by_cases m : (n : Int) ∈ l
    · obtain ⟨s, t, rfl⟩ := List.append_of_mem m
      have p := List.perm_middle (a := (n : Int)) (l₁ := s) (l₂ := t)
      have nd2 := p.nodup nd
      rw [List.nodup_cons] at nd2
      have q := nodup_le n (s ++ t) nd2.2 fun x hx => by
        have hx2 : x ∈ s ++ (n : Int) :: t := by
          rcases List.mem_append.mp hx with hx | hx
          · exact List.mem_append.mpr (.inl hx)
          · exact List.mem_append.mpr (.inr (List.mem_cons_of_mem _ hx))
        have := h x hx2
        have ne : x ≠ (n : Int) := fun z => nd2.1 (z ▸ hx)
        omega
      rw [List.length_append] at q
      rw [List.length_append, List.length_cons]
      omega
    · have q := nodup_le n l nd fun x hx => by
        have := h x hx
        have ne : x ≠ (n : Int) := fun z => m (z ▸ hx)
        omega
      omega
theorem dup_at : ∀ (l : List Int), ¬ l.Nodup → ∃ (i j : Nat) (x : Int), i < j ∧ l[i]? = some x ∧ l[j]? = some x
  | [], h => absurd List.nodup_nil h
  | a :: r, h => by
    by_cases m : a ∈ r
    · obtain ⟨j, hj, e⟩ := List.getElem_of_mem m
      exact ⟨0, j + 1, a, by omega, rfl, by show r[j]? = some a; rw [List.getElem?_eq_getElem hj, e]⟩
    · have n : ¬ r.Nodup := fun z => h (List.nodup_cons.mpr ⟨m, z⟩)
      obtain ⟨i, j, x, lt, hi, hj⟩ := dup_at r n
      exact ⟨i + 1, j + 1, x, by omega, hi, hj⟩
/-- a walk through an event twice: the way round, and the rest -/
theorem cut_out {G : List Gp} {is : List Nat} {a b x : Int} {i j : Nat} (h : wk G a is = some b) (lt : i < j) (hj : j ≤ is.length) (h1 : wk G a (is.take i) = some x ∧ wk G x (is.drop i) = some b) (h2 : wk G a (is.take j) = some x ∧ wk G x (is.drop j) = some b) :
    ∃ q r : List Nat, wk G x q = some x ∧ wk G a r = some b ∧ sm G is = sm G q + sm G r ∧ q.length = j - i ∧ r.length = is.length - (j - i) := by
  refine ⟨(is.drop i).take (j - i), is.take i ++ is.drop j, ?_, wk_join h1.1 h2.2, ?_, ?_, ?_⟩
  · have e : is.take j = is.take i ++ (is.drop i).take (j - i) := by
      have : j = i + (j - i) := by omega
      conv => lhs; rw [this, List.take_add]
    have q := h2.1
    rw [e, wk_app, h1.1] at q
    exact q
  · have e : is = is.take i ++ ((is.drop i).take (j - i) ++ is.drop j) := by
      have e2 : is.drop j = (is.drop i).drop (j - i) := by rw [List.drop_drop]; congr 1; omega
      rw [e2, List.take_append_drop, List.take_append_drop]
    conv => lhs; rw [e]
    rw [sm_app, sm_app, sm_app]
    omega
  · rw [List.length_take, List.length_drop]; omega
  · rw [List.length_append, List.length_take, List.length_drop]; omega
/-- a way round above 0 -/
def Pos (G : List Gp) : Prop := ∃ a is, wk G a is = some a ∧ 0 < sm G is
theorem pos_simple {G : List Gp} {P : Int → Prop} (hG : ∀ x ∈ G, P x.2.1) : ∀ (m : Nat) (a : Int) (is : List Nat), is.length ≤ m → P a → wk G a is = some a → 0 < sm G is → ∃ (b : Int) (js : List Nat), P b ∧ wk G b js = some b ∧ 0 < sm G js ∧ (tr G b js).Nodup
  | 0, a, is, hl, _, h, hp => by
    cases is with
    | nil => exact absurd hp (by show ¬ (0 : Int) < 0; omega)
    | cons i r => simp at hl
  | m + 1, a, is, hl, pa, h, hp => by
    by_cases nd : (tr G a is).Nodup
    · exact ⟨a, is, pa, h, hp, nd⟩
    · obtain ⟨i, j, x, lt, hi, hj⟩ := dup_at _ nd
      have jl : j < is.length := by
        have := (List.getElem?_eq_some_iff.mp hj).1
        rw [tr_len _ _ _ h] at this
        exact this
      have px : P x := (tr_all hG is a a h pa).1 x (List.mem_of_getElem? hi)
      obtain ⟨q, r, hq, hr, es, lq, lr⟩ := cut_out h lt (by omega) (tr_split _ _ _ _ _ h hi) (tr_split _ _ _ _ _ h hj)
      by_cases z : 0 < sm G q
      · exact pos_simple hG m x q (by omega) px hq z
      · exact pos_simple hG m a r (by omega) pa hr (by omega)
/-- without a way round above 0 each walk has one through no event twice whose sum is no less -/
theorem simple {G : List Gp} (np : ¬ Pos G) : ∀ (m : Nat) (a b : Int) (is : List Nat), is.length ≤ m → wk G a is = some b → ∃ js, wk G a js = some b ∧ sm G is ≤ sm G js ∧ (tr G a js ++ [b]).Nodup
  | m, a, b, is, hl, h => by
    by_cases nd : (tr G a is ++ [b]).Nodup
    · exact ⟨is, h, Int.le_refl _, nd⟩
    · obtain ⟨i, j, x, lt, hi, hj⟩ := dup_at _ nd
      have tl := tr_len _ _ _ h
      have jl : j ≤ is.length := by
        have := (List.getElem?_eq_some_iff.mp hj).1
        rw [List.length_append, tl] at this
        simp at this
        omega
      have sp : ∀ (k : Nat), k ≤ is.length → (tr G a is ++ [b])[k]? = some x → wk G a (is.take k) = some x ∧ wk G x (is.drop k) = some b := fun k hk hx => by
        rcases Nat.lt_or_ge k is.length with g | g
        · rw [List.getElem?_append_left (by omega)] at hx
          exact tr_split _ _ _ _ _ h hx
        · have ek : k = is.length := by omega
          subst ek
          rw [List.getElem?_append_right (by omega), tl, Nat.sub_self] at hx
          cases hx
          rw [List.take_length, List.drop_length]
          exact ⟨h, rfl⟩
      obtain ⟨q, r, hq, hr, es, lq, lr⟩ := cut_out h lt jl (sp i (by omega) hi) (sp j jl hj)
      have z : sm G q ≤ 0 := Int.not_lt.mp fun z => np ⟨x, q, hq, z⟩
      match m, hl with
      | m + 1, hl =>
        obtain ⟨js, h1, h2, h3⟩ := simple np m a b r (by omega) hr
        exact ⟨js, h1, by omega, h3⟩
      | 0, hl => omega
theorem simple_len {G : List Gp} {n : Nat} {a b : Int} {js : List Nat} (hG : ∀ x ∈ G, 0 ≤ x.2.1 ∧ x.2.1 < n) (ha : 0 ≤ a ∧ a < n) (h : wk G a js = some b) (nd : (tr G a js ++ [b]).Nodup) : js.length + 1 ≤ n := by
  obtain ⟨p, q⟩ := tr_all (P := fun v => 0 ≤ v ∧ v < n) hG js a b h ha
  have z := nodup_le n _ nd fun x hx => by
    rcases List.mem_append.mp hx with hx | hx
    · exact p x hx
    · rw [List.mem_singleton] at hx
      subst hx
      exact q
  rw [List.length_append, tr_len _ _ _ h] at z
  exact z
theorem tr_len_le {G : List Gp} {n : Nat} {a b : Int} {js : List Nat} (hG : ∀ x ∈ G, 0 ≤ x.2.1 ∧ x.2.1 < n) (ha : 0 ≤ a ∧ a < n) (h : wk G a js = some b) (nd : (tr G a js).Nodup) : js.length ≤ n := by
  obtain ⟨p, q⟩ := tr_all (P := fun v => 0 ≤ v ∧ v < n) hG js a b h ha
  have z := nodup_le n _ nd p
  rw [tr_len _ _ _ h] at z
  exact z
/-! ### by one gap more, again and again -/
abbrev Best := Int → Option (Int × List Nat)
def putB (f : Best) (v : Int) (y : Int × List Nat) : Best := fun w => if w = v then some y else f w
def up1 (best longer : Best) (i : Nat) (x : Gp) : Best := match best x.1 with
  | none => longer
  | some z => match longer x.2.1 with
    | none => putB longer x.2.1 (z.1 + x.2.2, z.2 ++ [i])
    | some y => if y.1 < z.1 + x.2.2 then putB longer x.2.1 (z.1 + x.2.2, z.2 ++ [i]) else longer
def goN (G : List Gp) (best : Best) : Nat → Best
  | 0 => best
  | i + 1 => match G[i]? with
    | some x => up1 best (goN G best i) i x
    | none => goN G best i
def more (G : List Gp) (best : Best) : Best := goN G best G.length
def bf (G : List Gp) (s : Int) : Nat → Best
  | 0 => putB (fun _ => none) s (0, [])
  | k + 1 => more G (bf G s k)
def LeB (o : Option (Int × List Nat)) (m : Int) : Prop := ∃ y, o = some y ∧ m ≤ y.1
theorem putB_at {f : Best} {v : Int} {y : Int × List Nat} : putB f v y v = some y := if_pos rfl
theorem putB_ne {f : Best} {v w : Int} {y : Int × List Nat} (h : w ≠ v) : putB f v y w = f w := if_neg h
theorem up1_none {best longer : Best} {i : Nat} {x : Gp} (h : best x.1 = none) : up1 best longer i x = longer := by unfold up1; rw [h]
theorem up1_new {best longer : Best} {i : Nat} {x : Gp} {z : Int × List Nat} (h : best x.1 = some z) (e : longer x.2.1 = none) : up1 best longer i x = putB longer x.2.1 (z.1 + x.2.2, z.2 ++ [i]) := by unfold up1; rw [h]; simp only; rw [e]
theorem up1_gt {best longer : Best} {i : Nat} {x : Gp} {z y : Int × List Nat} (h : best x.1 = some z) (e : longer x.2.1 = some y) (lt : y.1 < z.1 + x.2.2) : up1 best longer i x = putB longer x.2.1 (z.1 + x.2.2, z.2 ++ [i]) := by unfold up1; rw [h]; simp only; rw [e]; simp only; rw [if_pos lt]
theorem up1_le {best longer : Best} {i : Nat} {x : Gp} {z y : Int × List Nat} (h : best x.1 = some z) (e : longer x.2.1 = some y) (lt : ¬ y.1 < z.1 + x.2.2) : up1 best longer i x = longer := by unfold up1; rw [h]; simp only; rw [e]; simp only; rw [if_neg lt]
theorem up1_cases (best longer : Best) (i : Nat) (x : Gp) : (up1 best longer i x = longer ∧ (∀ z, best x.1 = some z → LeB (longer x.2.1) (z.1 + x.2.2))) ∨ ∃ z, best x.1 = some z ∧ up1 best longer i x = putB longer x.2.1 (z.1 + x.2.2, z.2 ++ [i]) ∧ ∀ y, longer x.2.1 = some y → y.1 < z.1 + x.2.2 := by
  cases h : best x.1 with
  | none => exact .inl ⟨up1_none h, fun z hz => by cases hz⟩
  | some z =>
    cases e : longer x.2.1 with
    | none => exact .inr ⟨z, rfl, up1_new h e, fun y hy => by cases hy⟩
    | some y =>
      by_cases lt : y.1 < z.1 + x.2.2
      · exact .inr ⟨z, rfl, up1_gt h e lt, fun y' hy => by cases hy; exact lt⟩
      · refine .inl ⟨up1_le h e lt, fun z' hz => ?_⟩
        cases hz
        exact ⟨y, rfl, by omega⟩
theorem up1_mono {best longer : Best} {i : Nat} {x : Gp} {v m : Int} (h : LeB (longer v) m) : LeB (up1 best longer i x v) m := by
  rcases up1_cases best longer i x with ⟨e, _⟩ | ⟨z, hz, e, lt⟩
  · rw [e]; exact h
  · rw [e]
    by_cases q : v = x.2.1
    · subst q
      rw [putB_at]
      obtain ⟨y2, e2, le⟩ := h
      have := lt y2 e2
      exact ⟨_, rfl, by show m ≤ z.1 + x.2.2; omega⟩
    · rw [putB_ne q]; exact h
theorem up1_get {best longer : Best} {i : Nat} {x : Gp} {z : Int × List Nat} (h : best x.1 = some z) : LeB (up1 best longer i x x.2.1) (z.1 + x.2.2) := by
  rcases up1_cases best longer i x with ⟨e, q⟩ | ⟨z', hz, e, lt⟩
  · rw [e]; exact q z h
  · rw [h] at hz
    cases hz
    rw [e, putB_at]
    exact ⟨_, rfl, Int.le_refl _⟩
theorem goN_succ {G : List Gp} {best : Best} {i : Nat} {x : Gp} (e : G[i]? = some x) : goN G best (i + 1) = up1 best (goN G best i) i x := by
  conv => lhs; unfold goN
  rw [e]
theorem goN_stop {G : List Gp} {best : Best} {i : Nat} (e : G[i]? = none) : goN G best (i + 1) = goN G best i := by
  conv => lhs; unfold goN
  rw [e]
theorem goN_mono {G : List Gp} {best : Best} {v m : Int} {i : Nat} : ∀ {j : Nat}, i ≤ j → LeB (goN G best i v) m → LeB (goN G best j v) m
  | 0, h, q => by
    have : i = 0 := by omega
    subst this
    exact q
  | j + 1, h, q => by
    rcases Nat.lt_or_ge i (j + 1) with g | g
    · have r := goN_mono (j := j) (by omega) q
      cases e : G[j]? with
      | some x => rw [goN_succ e]; exact up1_mono r
      | none => rw [goN_stop e]; exact r
    · have : i = j + 1 := by omega
      subst this
      exact q
theorem gw_at {G : List Gp} {i : Nat} {x : Gp} (e : G[i]? = some x) : gw G i = x.2.2 := by unfold gw; rw [e]
theorem more_get {G : List Gp} {best : Best} {i : Nat} {x : Gp} {z : Int × List Nat} (e : G[i]? = some x) (h : best x.1 = some z) : LeB (more G best x.2.1) (z.1 + x.2.2) := by
  have l := (List.getElem?_eq_some_iff.mp e).1
  refine goN_mono (i := i + 1) (by omega) ?_
  rw [goN_succ e]
  exact up1_get h
def SoundB (G : List Gp) (s : Int) (k : Nat) (f : Best) : Prop := ∀ v y, f v = some y → wk G s y.2 = some v ∧ sm G y.2 = y.1 ∧ y.2.length ≤ k
theorem up1_sound {G : List Gp} {s : Int} {k : Nat} {best longer : Best} {i : Nat} {x : Gp} (e : G[i]? = some x) (hb : SoundB G s k best) (hl : SoundB G s (k + 1) longer) : SoundB G s (k + 1) (up1 best longer i x) := by
  have new : ∀ z, best x.1 = some z → SoundB G s (k + 1) (putB longer x.2.1 (z.1 + x.2.2, z.2 ++ [i])) := fun z hz v y hv => by
    by_cases q : v = x.2.1
    · subst q
      rw [putB_at] at hv
      cases hv
      obtain ⟨a, b, c⟩ := hb _ _ hz
      refine ⟨wk_join a (by rw [wk_mk e]; rfl), ?_, by rw [List.length_append]; show z.2.length + 1 ≤ k + 1; omega⟩
      rw [sm_app, b]
      show z.1 + (gw G i + 0) = z.1 + x.2.2
      rw [gw_at e]
      omega
    · rw [putB_ne q] at hv
      exact hl v y hv
  rcases up1_cases best longer i x with ⟨e, _⟩ | ⟨z, hz, e, _⟩
  · rw [e]; exact hl
  · rw [e]; exact new z hz
theorem goN_sound {G : List Gp} {s : Int} {k : Nat} {best : Best} (hb : SoundB G s k best) : ∀ (j : Nat), SoundB G s (k + 1) (goN G best j)
  | 0 => fun v y h => by
    obtain ⟨a, b, c⟩ := hb v y h
    exact ⟨a, b, by omega⟩
  | j + 1 => by
    cases e : G[j]? with
    | some x => rw [goN_succ e]; exact up1_sound e hb (goN_sound hb j)
    | none => rw [goN_stop e]; exact goN_sound hb j
theorem bf_sound {G : List Gp} {s : Int} : ∀ (k : Nat), SoundB G s k (bf G s k)
  | 0 => fun v y h => by
    by_cases q : v = s
    · subst q
      have : putB (fun _ => none) v (0, []) v = some y := h
      rw [putB_at] at this
      cases this
      exact ⟨rfl, rfl, Nat.le_refl _⟩
    · have : putB (fun _ => none) s (0, []) v = some y := h
      rw [putB_ne q] at this
      cases this
  | k + 1 => goN_sound (bf_sound k) _
theorem bf_all {G : List Gp} {s : Int} : ∀ (k : Nat) (is : List Nat) (v : Int), wk G s is = some v → is.length ≤ k → LeB (bf G s k v) (sm G is)
  | 0, is, v, h, hl => by
    cases is with
    | nil =>
      cases h
      exact ⟨_, putB_at, Int.le_refl _⟩
    | cons i r => simp at hl
  | k + 1, is, v, h, hl => by
    rcases Nat.lt_or_ge is.length (k + 1) with g | g
    · exact goN_mono (Nat.zero_le _) (bf_all k is v h (by omega))
    · rcases List.eq_nil_or_concat is with e | ⟨p, i, e⟩
      · subst e; simp at g
      · rw [List.concat_eq_append] at e
        subst e
        rw [wk_app] at h
        cases hp : wk G s p with
        | none => rw [hp] at h; cases h
        | some u =>
          rw [hp] at h
          obtain ⟨x, ex, xu, hx⟩ := wk_cons (show wk G u [i] = some v from h)
          cases hx
          subst xu
          obtain ⟨z, hz, lz⟩ := bf_all k p x.1 hp (by rw [List.length_append] at hl; simp at hl; omega)
          obtain ⟨y, hy, ly⟩ := more_get ex hz
          refine ⟨y, hy, ?_⟩
          rw [sm_app]
          have gi : sm G [i] = x.2.2 := by
            show gw G i + 0 = x.2.2
            rw [gw_at ex]
            omega
          rw [gi]
          omega
/-! ### by middle events -/
abbrev Mat := Int → Int → Option Int
def putM (M : Mat) (u v : Int) (t : Int) : Mat := fun a b => if a = u ∧ b = v then some t else M a b
def LeM (o : Option Int) (m : Int) : Prop := ∃ t, o = some t ∧ m ≤ t
theorem putM_at {M : Mat} {u v t : Int} : putM M u v t u v = some t := if_pos ⟨rfl, rfl⟩
theorem putM_ne {M : Mat} {u v t a b : Int} (h : ¬ (a = u ∧ b = v)) : putM M u v t a b = M a b := if_neg h
/-- put t where it is more -/
def mx (M : Mat) (u v t : Int) : Mat := match M u v with
  | none => putM M u v t
  | some z => if z < t then putM M u v t else M
theorem mx_cases (M : Mat) (u v t : Int) : (mx M u v t = M ∧ LeM (M u v) t) ∨ (mx M u v t = putM M u v t ∧ ∀ z, M u v = some z → z < t) := by
  unfold mx
  cases e : M u v with
  | none => exact .inr ⟨rfl, fun z hz => by cases hz⟩
  | some z =>
    by_cases lt : z < t
    · exact .inr ⟨by simp only; rw [if_pos lt], fun z' hz => by cases hz; exact lt⟩
    · exact .inl ⟨by simp only; rw [if_neg lt], z, rfl, by omega⟩
theorem mx_mono {M : Mat} {u v t a b m : Int} (h : LeM (M a b) m) : LeM (mx M u v t a b) m := by
  rcases mx_cases M u v t with ⟨e, _⟩ | ⟨e, lt⟩
  · rw [e]; exact h
  · rw [e]
    by_cases q : a = u ∧ b = v
    · obtain ⟨rfl, rfl⟩ := q
      rw [putM_at]
      obtain ⟨z, hz, le⟩ := h
      have := lt z hz
      exact ⟨t, rfl, by omega⟩
    · rw [putM_ne q]; exact h
theorem mx_get {M : Mat} {u v t : Int} : LeM (mx M u v t u v) t := by
  rcases mx_cases M u v t with ⟨e, q⟩ | ⟨e, lt⟩
  · rw [e]; exact q
  · rw [e, putM_at]; exact ⟨t, rfl, Int.le_refl _⟩
def SoundM (G : List Gp) (M : Mat) : Prop := ∀ u v t, M u v = some t → ∃ is, wk G u is = some v ∧ sm G is = t
theorem mx_sound {G : List Gp} {M : Mat} {u v t : Int} (h : SoundM G M) (is : List Nat) (h1 : wk G u is = some v) (h2 : sm G is = t) : SoundM G (mx M u v t) := by
  rcases mx_cases M u v t with ⟨e, _⟩ | ⟨e, _⟩
  · rw [e]; exact h
  · rw [e]
    intro a b s hs
    by_cases q : a = u ∧ b = v
    · obtain ⟨rfl, rfl⟩ := q
      rw [putM_at] at hs
      cases hs
      exact ⟨is, h1, h2⟩
    · rw [putM_ne q] at hs
      exact h a b s hs
/-- each event to itself; then each gap -/
def diagM : Mat := fun u v => if u = v then some 0 else none
def edM (G : List Gp) : Nat → Mat
  | 0 => diagM
  | i + 1 => match G[i]? with
    | some x => mx (edM G i) x.1 x.2.1 x.2.2
    | none => edM G i
theorem edM_succ {G : List Gp} {i : Nat} {x : Gp} (e : G[i]? = some x) : edM G (i + 1) = mx (edM G i) x.1 x.2.1 x.2.2 := by
  conv => lhs; unfold edM
  rw [e]
theorem edM_stop {G : List Gp} {i : Nat} (e : G[i]? = none) : edM G (i + 1) = edM G i := by
  conv => lhs; unfold edM
  rw [e]
theorem edM_mono {G : List Gp} {a b m : Int} {i : Nat} : ∀ {j : Nat}, i ≤ j → LeM (edM G i a b) m → LeM (edM G j a b) m
  | 0, h, q => by
    have : i = 0 := by omega
    subst this
    exact q
  | j + 1, h, q => by
    rcases Nat.lt_or_ge i (j + 1) with g | g
    · have r := edM_mono (j := j) (by omega) q
      cases e : G[j]? with
      | some x => rw [edM_succ e]; exact mx_mono r
      | none => rw [edM_stop e]; exact r
    · have : i = j + 1 := by omega
      subst this
      exact q
theorem edM_sound {G : List Gp} : ∀ (j : Nat), SoundM G (edM G j)
  | 0 => fun u v t h => by
    have q : (if u = v then some (0 : Int) else none) = some t := h
    by_cases e : u = v
    · rw [if_pos e] at q
      cases q
      subst e
      exact ⟨[], rfl, rfl⟩
    · rw [if_neg e] at q
      cases q
  | j + 1 => by
    cases e : G[j]? with
    | some x =>
      rw [edM_succ e]
      refine mx_sound (edM_sound j) [j] (by rw [wk_mk e]; rfl) ?_
      show gw G j + 0 = x.2.2
      rw [gw_at e]
      omega
    | none => rw [edM_stop e]; exact edM_sound j
theorem edM_diag {G : List Gp} {j : Nat} {u : Int} : LeM (edM G j u u) 0 := edM_mono (Nat.zero_le _) ⟨0, if_pos rfl, Int.le_refl _⟩
theorem edM_get {G : List Gp} {i : Nat} {x : Gp} (e : G[i]? = some x) : LeM (edM G G.length x.1 x.2.1) x.2.2 := by
  have l := (List.getElem?_eq_some_iff.mp e).1
  refine edM_mono (i := i + 1) (by omega) ?_
  rw [edM_succ e]
  exact mx_get
def rel (M : Mat) (m u v : Int) : Mat := match M u m, M m v with
  | some x, some y => mx M u v (x + y)
  | _, _ => M
theorem rel_mono {M : Mat} {m u v a b t : Int} (h : LeM (M a b) t) : LeM (rel M m u v a b) t := by
  unfold rel
  cases M u m with
  | none => exact h
  | some x =>
    cases M m v with
    | none => exact h
    | some y => exact mx_mono h
theorem rel_get {M : Mat} {m u v s t : Int} (h1 : LeM (M u m) s) (h2 : LeM (M m v) t) : LeM (rel M m u v u v) (s + t) := by
  obtain ⟨x, ex, lx⟩ := h1
  obtain ⟨y, ey, ly⟩ := h2
  unfold rel
  rw [ex, ey]
  obtain ⟨z, ez, lz⟩ := mx_get (M := M) (u := u) (v := v) (t := x + y)
  exact ⟨z, ez, by omega⟩
theorem rel_sound {G : List Gp} {M : Mat} {m u v : Int} (h : SoundM G M) : SoundM G (rel M m u v) := by
  unfold rel
  cases ex : M u m with
  | none => exact h
  | some x =>
    cases ey : M m v with
    | none => exact h
    | some y =>
      obtain ⟨p, p1, p2⟩ := h _ _ _ ex
      obtain ⟨q, q1, q2⟩ := h _ _ _ ey
      exact mx_sound h (p ++ q) (wk_join p1 q1) (by rw [sm_app, p2, q2])
def fwV (M : Mat) (m u : Int) : Nat → Mat
  | 0 => M
  | j + 1 => rel (fwV M m u j) m u j
def fwU (M : Mat) (m : Int) (N : Nat) : Nat → Mat
  | 0 => M
  | i + 1 => fwV (fwU M m N i) m i N
def fwK (M : Mat) (N : Nat) : Nat → Mat
  | 0 => M
  | k + 1 => fwU (fwK M N k) k N N
theorem fwV_mono {M : Mat} {m u a b t : Int} {i : Nat} : ∀ {j : Nat}, i ≤ j → LeM (fwV M m u i a b) t → LeM (fwV M m u j a b) t
  | 0, h, q => by
    have : i = 0 := by omega
    subst this
    exact q
  | j + 1, h, q => by
    rcases Nat.lt_or_ge i (j + 1) with g | g
    · exact rel_mono (fwV_mono (j := j) (by omega) q)
    · have : i = j + 1 := by omega
      subst this
      exact q
theorem fwU_mono {M : Mat} {m a b t : Int} {N i : Nat} : ∀ {j : Nat}, i ≤ j → LeM (fwU M m N i a b) t → LeM (fwU M m N j a b) t
  | 0, h, q => by
    have : i = 0 := by omega
    subst this
    exact q
  | j + 1, h, q => by
    rcases Nat.lt_or_ge i (j + 1) with g | g
    · exact fwV_mono (Nat.zero_le _) (fwU_mono (j := j) (by omega) q)
    · have : i = j + 1 := by omega
      subst this
      exact q
theorem fwK_mono {M : Mat} {a b t : Int} {N i : Nat} : ∀ {j : Nat}, i ≤ j → LeM (fwK M N i a b) t → LeM (fwK M N j a b) t
  | 0, h, q => by
    have : i = 0 := by omega
    subst this
    exact q
  | j + 1, h, q => by
    rcases Nat.lt_or_ge i (j + 1) with g | g
    · exact fwU_mono (Nat.zero_le _) (fwK_mono (j := j) (by omega) q)
    · have : i = j + 1 := by omega
      subst this
      exact q
theorem fwV_sound {G : List Gp} {M : Mat} {m u : Int} (h : SoundM G M) : ∀ (j : Nat), SoundM G (fwV M m u j)
  | 0 => h
  | j + 1 => rel_sound (fwV_sound h j)
theorem fwU_sound {G : List Gp} {M : Mat} {m : Int} {N : Nat} (h : SoundM G M) : ∀ (j : Nat), SoundM G (fwU M m N j)
  | 0 => h
  | j + 1 => fwV_sound (fwU_sound h j) N
theorem fwK_sound {G : List Gp} {M : Mat} {N : Nat} (h : SoundM G M) : ∀ (j : Nat), SoundM G (fwK M N j)
  | 0 => h
  | j + 1 => fwU_sound (fwK_sound h j) N
theorem fwU_get {M : Mat} {m s t : Int} {N u v : Nat} (hu : u < N) (hv : v < N) (h1 : LeM (M u m) s) (h2 : LeM (M m v) t) : LeM (fwU M m N N u v) (s + t) := by
  refine fwU_mono (i := u + 1) (by omega) ?_
  show LeM (fwV (fwU M m N u) m u N u v) (s + t)
  refine fwV_mono (i := v + 1) (by omega) ?_
  exact rel_get (fwV_mono (Nat.zero_le _) (fwU_mono (Nat.zero_le _) h1)) (fwV_mono (Nat.zero_le _) (fwU_mono (Nat.zero_le _) h2))
theorem tr_take {G : List Gp} : ∀ (is : List Nat) (a b : Int) (j : Nat), wk G a is = some b → tr G a (is.take j) = (tr G a is).take j
  | [], _, _, j, _ => by cases j <;> rfl
  | i :: r, a, b, j, h => by
    obtain ⟨y, e, ya, h2⟩ := wk_cons h
    have t : ∀ q, tr G a (i :: q) = a :: tr G y.2.1 q := fun q => by
      conv => lhs; unfold tr
      rw [e]
    cases j with
    | zero => rfl
    | succ j =>
      show tr G a (i :: r.take j) = _
      rw [t, t, List.take_succ_cons, tr_take r _ b j h2]
theorem tr_drop {G : List Gp} : ∀ (is : List Nat) (a b : Int) (j : Nat) (x : Int), wk G a is = some b → (tr G a is)[j]? = some x → tr G x (is.drop j) = (tr G a is).drop j
  | [], _, _, j, x, _, h => by cases j <;> cases h
  | i :: r, a, b, j, x, h, hx => by
    obtain ⟨y, e, ya, h2⟩ := wk_cons h
    have t : ∀ q, tr G a (i :: q) = a :: tr G y.2.1 q := fun q => by
      conv => lhs; unfold tr
      rw [e]
    rw [t] at hx
    cases j with
    | zero => cases hx; rfl
    | succ j =>
      show tr G x (r.drop j) = _
      rw [t, List.drop_succ_cons]
      exact tr_drop r _ b j x h2 hx
theorem fw_all {G : List Gp} {N : Nat} : ∀ (k : Nat), k ≤ N → ∀ (is : List Nat) (u v : Nat), u < N → v < N → wk G u is = some (v : Int) → (tr G u is).tail.Nodup → (∀ w ∈ (tr G u is).tail, 0 ≤ w ∧ w < k) → LeM (fwK (edM G G.length) N k u v) (sm G is)
  | 0, _, is, u, v, hu, hv, h, nd, hw => by
    match is with
    | [] =>
      have e : (u : Int) = v := Option.some.inj h
      show LeM (edM G G.length u v) 0
      rw [← e]
      exact edM_diag
    | [i] =>
      obtain ⟨x, e, xu, h2⟩ := wk_cons h
      have e2 : x.2.1 = (v : Int) := Option.some.inj h2
      show LeM (edM G G.length u v) (gw G i + 0)
      rw [gw_at e, ← xu, ← e2]
      have := edM_get e
      obtain ⟨t, et, lt⟩ := this
      exact ⟨t, et, by omega⟩
    | i :: j :: r =>
      exfalso
      obtain ⟨x, e, xu, h2⟩ := wk_cons h
      obtain ⟨y, e', yu, h3⟩ := wk_cons h2
      have t : tr G u (i :: j :: r) = (u : Int) :: x.2.1 :: tr G y.2.1 r := by
        conv => lhs; unfold tr
        rw [e]
        simp only
        conv => lhs; arg 2; unfold tr
        rw [e']
      rw [t] at hw
      have := hw x.2.1 (List.mem_cons_self ..)
      omega
  | k + 1, hk, is, u, v, hu, hv, h, nd, hw => by
    by_cases m : (k : Int) ∈ (tr G u is).tail
    · obtain ⟨j0, hj0, e0⟩ := List.getElem_of_mem m
      have e1 : (tr G u is).tail[j0]? = some (k : Int) := by rw [List.getElem?_eq_getElem hj0, e0]
      have e2 : (tr G u is)[j0 + 1]? = some (k : Int) := by rw [← List.getElem?_tail]; exact e1
      obtain ⟨hp, hq⟩ := tr_split _ _ _ _ _ h e2
      have tp := tr_take is u v (j0 + 1) h
      have tq := tr_drop is u v (j0 + 1) k h e2
      have tail_eq : (tr G u is).tail = (tr G u is).tail.take j0 ++ (k : Int) :: (tr G u is).tail.drop (j0 + 1) := by
        conv => lhs; rw [← List.take_append_drop j0 (tr G u is).tail]
        congr 1
        rw [List.drop_eq_getElem_cons hj0, e0]
      have tpt : (tr G u (is.take (j0 + 1))).tail = (tr G u is).tail.take j0 := by
        rw [tp]
        cases tr G u is with
        | nil => simp
        | cons a r => rfl
      have tqt : (tr G k (is.drop (j0 + 1))).tail = (tr G u is).tail.drop (j0 + 1) := by
        rw [tq]
        cases tr G u is with
        | nil => simp
        | cons a r => simp
      rw [tail_eq] at nd
      have pm := List.perm_middle (a := (k : Int)) (l₁ := (tr G u is).tail.take j0) (l₂ := (tr G u is).tail.drop (j0 + 1))
      have nd2 := pm.nodup nd
      rw [List.nodup_cons] at nd2
      have nd3 := List.nodup_append.mp nd2.2
      have low : ∀ w, w ∈ (tr G u is).tail.take j0 ++ (tr G u is).tail.drop (j0 + 1) → 0 ≤ w ∧ w < k := fun w hm => by
        have ne : w ≠ (k : Int) := fun z => nd2.1 (z ▸ hm)
        have := hw w (by
          rcases List.mem_append.mp hm with q | q
          · exact List.mem_of_mem_take q
          · exact List.mem_of_mem_drop q)
        omega
      have i1 := fw_all k (by omega) (is.take (j0 + 1)) u k hu (by omega) hp (by rw [tpt]; exact nd3.1) (fun w hm => low w (List.mem_append.mpr (.inl (tpt ▸ hm))))
      have i2 := fw_all k (by omega) (is.drop (j0 + 1)) k v (by omega) hv hq (by rw [tqt]; exact nd3.2.1) (fun w hm => low w (List.mem_append.mpr (.inr (tqt ▸ hm))))
      have es : sm G is = sm G (is.take (j0 + 1)) + sm G (is.drop (j0 + 1)) := by rw [← sm_app, List.take_append_drop]
      rw [es]
      exact fwU_get hu hv i1 i2
    · refine fwU_mono (Nat.zero_le _) (fw_all k (by omega) is u v hu hv h nd fun w hm => ?_)
      have := hw w hm
      have ne : w ≠ (k : Int) := fun z => m (z ▸ hm)
      omega
/-! ### both ways agree -/
def finM (G : List Gp) (n : Nat) : Mat := fwK (edM G G.length) (n + 1) (n + 1)
def InG (G : List Gp) (n : Nat) : Prop := ∀ x ∈ G, (0 ≤ x.1 ∧ x.1 < n) ∧ (0 ≤ x.2.1 ∧ x.2.1 < n)
theorem nodup_tail {l : List Int} (h : l.Nodup) : l.tail.Nodup := by
  cases l with
  | nil => exact h
  | cons a r => exact (List.nodup_cons.mp h).2
theorem finM_sound {G : List Gp} {n : Nat} : SoundM G (finM G n) := fwK_sound (edM_sound _) _
theorem finM_diag {G : List Gp} {n : Nat} {u : Int} : LeM (finM G n u u) 0 := fwK_mono (Nat.zero_le _) edM_diag
theorem finM_all {G : List Gp} {n : Nat} (hG : InG G n) {a b : Nat} {is : List Nat} (ha : a < n) (hb : b < n) (h : wk G a is = some (b : Int)) (nd : (tr G a is).Nodup) : LeM (finM G n a b) (sm G is) := by
  obtain ⟨p, q⟩ := tr_all (P := fun v => 0 ≤ v ∧ v < n) (fun x hx => (hG x hx).2) is a b h ⟨by omega, by omega⟩
  refine fw_all (n + 1) (Nat.le_refl _) is a b (by omega) (by omega) h (nodup_tail nd) fun w hw => ?_
  have := p w (List.mem_of_mem_tail hw)
  omega
theorem pos_start {G : List Gp} {n : Nat} (hG : InG G n) (h : Pos G) : ∃ (b : Nat) (js : List Nat), b < n ∧ wk G b js = some (b : Int) ∧ 0 < sm G js ∧ (tr G b js).Nodup := by
  obtain ⟨a, is, h1, h2⟩ := h
  have pa : 0 ≤ a ∧ a < n := by
    cases is with
    | nil => exact absurd h2 (by show ¬ (0 : Int) < 0; omega)
    | cons i r =>
      obtain ⟨x, e, rfl, _⟩ := wk_cons h1
      exact (hG x (List.mem_of_getElem? e)).1
  obtain ⟨b, js, pb, w, s, nd⟩ := pos_simple (P := fun v => 0 ≤ v ∧ v < n) (fun x hx => (hG x hx).2) is.length a is (Nat.le_refl _) pa h1 h2
  obtain ⟨c, rfl⟩ : ∃ c : Nat, b = c := ⟨b.toNat, by omega⟩
  exact ⟨c, js, by omega, w, s, nd⟩
/-- a way round above 0 shows in the law's table -/
theorem fin_pos {G : List Gp} {n : Nat} (hG : InG G n) : (∃ u : Nat, u < n + 1 ∧ ∃ t, finM G n u u = some t ∧ 0 < t) ↔ Pos G := by
  constructor
  · rintro ⟨u, _, t, ht, lt⟩
    obtain ⟨is, h1, h2⟩ := finM_sound _ _ _ ht
    exact ⟨u, is, h1, by omega⟩
  · intro h
    obtain ⟨b, js, hb, w, s, nd⟩ := pos_start hG h
    obtain ⟨t, ht, le⟩ := finM_all hG hb hb w nd
    exact ⟨b, by omega, t, ht, by omega⟩
/-- and in the program's -/
theorem bf_pos {G : List Gp} {n : Nat} (hG : InG G n) : (∃ e : Nat, e < n ∧ ∃ y, bf G e n e = some y ∧ 0 < y.1) ↔ Pos G := by
  constructor
  · rintro ⟨e, _, y, hy, lt⟩
    obtain ⟨h1, h2, _⟩ := bf_sound n _ _ hy
    exact ⟨e, y.2, h1, by omega⟩
  · intro h
    obtain ⟨b, js, hb, w, s, nd⟩ := pos_start hG h
    have l := tr_len_le (n := n) (fun x hx => (hG x hx).2) ⟨by omega, by omega⟩ w nd
    obtain ⟨y, hy, le⟩ := bf_all n js b w l
    exact ⟨b, hb, y, hy, by omega⟩
theorem agree {G : List Gp} {n : Nat} (hG : InG G n) (np : ¬ Pos G) {a b : Nat} (ha : a < n) (hb : b < n) : (bf G a n b).map (·.1) = finM G n a b := by
  have up : ∀ is, wk G a is = some (b : Int) → LeM (finM G n a b) (sm G is) ∧ LeB (bf G a n b) (sm G is) := fun is h => by
    obtain ⟨js, h1, h2, nd⟩ := simple np is.length a b is (Nat.le_refl _) h
    have l := simple_len (n := n) (fun x hx => (hG x hx).2) ⟨by omega, by omega⟩ h1 nd
    obtain ⟨t, ht, lt⟩ := finM_all hG ha hb h1 (List.nodup_append.mp nd).1
    obtain ⟨y, hy, ly⟩ := bf_all n js b h1 (by omega)
    exact ⟨⟨t, ht, by omega⟩, ⟨y, hy, by omega⟩⟩
  cases e : bf G a n b with
  | none =>
    cases e2 : finM G n a b with
    | none => rfl
    | some t =>
      obtain ⟨is, h1, _⟩ := finM_sound _ _ _ e2
      obtain ⟨y, hy, _⟩ := (up is h1).2
      rw [e] at hy
      cases hy
  | some y =>
    obtain ⟨h1, h2, _⟩ := bf_sound n _ _ e
    obtain ⟨t, ht, lt⟩ := (up y.2 h1).1
    obtain ⟨js, j1, j2⟩ := finM_sound _ _ _ ht
    obtain ⟨y', hy', ly⟩ := (up js j1).2
    rw [e] at hy'
    cases hy'
    rw [ht]
    show some y.1 = some t
    congr 1
    omega
end EL.WM

/- part XC -/
/-! a caught error that keeps fields: isinstance of it, its fields; the class told by the reading -/
namespace EL
open PySem PySem.Spec PyProof.Rows L2
open PySem.W (Frag)
def rIsX (K : Frag) (a : Addr) (cls : Value) (d : Option Addr) : List V → Hp → VK → Prop := fun xs H Q => ∃ (D : Addr) (c : V) (cv : Value) (b : Bool) (dd : Addr) (fs : List (Str × V)), xs = [.ref a, c] ∧ cls = .ref D ∧ ExcC K D ∧ d = some dd ∧ H dd = some (.xd fs) ∧ (∀ u, RelV c u → u = cv) ∧ PySem.W.kitOne K (.ref D) cv = some b ∧ Q (.bl b) H
theorem call_isX {X : Cx} {a : Addr} {oe : Obj} {cls : Value} {d : Option Addr} {pn : List (Addr × Obj)} (hz : Zc cls d oe) (hf : ∃ vs, oe.data = .fields vs) : CallR (X.suite a ((a, oe) :: pn)) (.builtin "isinstance") (rIsX X.K a cls d) := by
  intro pins s σ H xs us Q I r h
  obtain ⟨D, c, cv, b, dd, fs, rfl, ecl, C, ed, ea, hcv, e, q⟩ := h
  cases r with
  | cons rx rr =>
    cases rr with
    | cons rt rr =>
      cases rr
      cases rx
      have ec := hcv _ rt
      subst ec
      subst ecl
      subst ed
      obtain ⟨hget, _⟩ := I.pin (a, oe) (List.mem_append.mpr (.inl List.mem_cons_self))
      obtain ⟨vs, hv⟩ := hf
      have hx : ObjOk X.prog X.w H s.heap dd (.xd fs) := I.hok dd _ ea
      obtain ⟨mA, hns, hr⟩ := hx
      obtain ⟨od, ho, hl⟩ := lookIn_ns hns
      have J : PySem.W.InstAt s.heap a oe D (some od) := ⟨hget, hz.1, by unfold PySem.W.notCls; rw [hv] <;> rfl, by rw [hz.2]; exact ho⟩
      have hcl : (PySem.W.clsIn X.K D).isSome = true := by
        obtain ⟨cd, hc, _⟩ := PySem.W.any_some C.hd
        rw [hc]; rfl
      exact PySem.W.kia_one (PySem.W.kitx_exc hcl C.hg C.hk C.hs C.ha C.hn C.ht C.hm) I.kIn J e (fun z => nomatch z) fun tk => ⟨.bl b, H, I.kept (t' := tk) fun _ _ z => z, rfl, q⟩
/-- the reading of e.f: a the caught error, cls its class, d its dict -/
def tXfR (K : Frag) (a : Addr) (cls : Value) (d : Option Addr) (f : Str) (te : TE) : TE := fun σ H Q => te σ H fun x H1 => x = .ref a ∧ ∃ (C dd : Addr) (fs : List (Str × V)) (v : V), cls = .ref C ∧ XfC K C ∧ PySem.W.findIn K (.ref C) f = some none ∧ d = some dd ∧ H1 dd = some (.xd fs) ∧ fs.lookup f = some v ∧ Q v H1
theorem pe_xfR {X : Cx} {a : Addr} {oe : Obj} {cls : Value} {d : Option Addr} {pn : List (Addr × Obj)} {e : Expr} {te : TE} {pos : Pos} {n : Str}
    (hz : Zc cls d oe) (hf : ∃ vs, oe.data = .fields vs) (he : PE (X.suite a ((a, oe) :: pn)) e te) (hb : attributeBase e n X.env (eval e X.env) = eval e X.env := by rfl) :
    PE (X.suite a ((a, oe) :: pn)) (.Attribute e n pos) (tXfR X.K a cls d n te) := by
  refine ⟨fun pins s σ H Q I h => ?_⟩
  refine attr_of hb (thn (he.run pins s σ H _ I h) fun u s1 hh => ?_)
  obtain ⟨x, H1, I1, rx, ex, C, dd, fs, v, ec, T, hno, ed, ea, l, q⟩ := hh
  subst ex
  obtain rfl : u = Value.ref a := rx
  subst ec
  subst ed
  obtain ⟨ha, _⟩ := I1.pin (a, oe) (List.mem_append_left _ List.mem_cons_self)
  obtain ⟨vs, hd⟩ := hf
  have hx : ObjOk X.prog X.w H1 s1.heap dd (.xd fs) := I1.hok dd _ ea
  obtain ⟨mA, hns, hr⟩ := hx
  obtain ⟨od, ho, hl⟩ := lookIn_ns hns
  obtain ⟨u, hu, ru⟩ := RelO.some_of (v := v) (o := mA n) (by rw [← l]; exact hr n)
  have J : PySem.W.InstAt s1.heap a oe C (some od) := ⟨ha, hz.1, by unfold PySem.W.notCls; rw [hd] <;> rfl, by rw [hz.2]; exact ho⟩
  exact HandSPX.exc_get I1.kIn J T.ga T.gg T.exC (PySem.W.findObj_own T.hdC hno rfl (by rw [hl, hu])) (handed_of ru) ⟨v, H1, I1.tok _, ru, q⟩
theorem a_xfR {K : Frag} {a : Addr} {cls : Value} {d : Option Addr} {f : Str} {te : TE} {σ : L2.St} {H : Hp} {Q : VK} (q : te σ H fun x H1 => x = .ref a ∧ ∃ (C dd : Addr) (fs : List (Str × V)) (v : V), cls = .ref C ∧ XfC K C ∧ PySem.W.findIn K (.ref C) f = some none ∧ d = some dd ∧ H1 dd = some (.xd fs) ∧ fs.lookup f = some v ∧ Q v H1) : tXfR K a cls d f te σ H Q := q
end EL

/- part HT -/
/-! while an exception is handled: a walk over a tuple, a comprehension, sum of a list -/
namespace HotX
open PySem PySem.Spec PyProof.Rows
section
variable {prog : Program} {w : World} {A : Around} {E : Value → Shared → Prop} {s : Shared}
/-- the way out of an iterator that has come to its end: StopIteration, made and caught, its context set -/
theorem stop_hot {it x1 : Addr} {o : Obj} {a : Value} {i : Nat} {Q : Option Value → Shared → Prop} (hot : HotAt A x1 s.heap) (ho : s.heap.get? it = some o) (hd : o.data = .fields #[a, .int i 0])
    (hQ : ∀ h', Heap.ExtBut it s.heap h' → Q none { s with heap := h' }) :
    x1 ≠ it ∧ ∀ s1 : Shared, s1 = { s with heap := s.heap.update it (Obj.mapFields (·.setIfInBounds 0 .none)) } → HotAt A x1 s1.heap := by
  obtain ⟨hh, o1, vs1, h1, d1, c1⟩ := hot
  have ne : x1 ≠ it := fun z => by
    subst z
    rw [ho] at h1
    cases h1
    rw [hd] at d1
    cases d1
    cases c1
  exact ⟨ne, fun s1 e => ⟨hh, o1, vs1, by subst e; exact (Heap.get?_update_other _ _ ne.symm).trans h1, d1, c1⟩⟩
theorem next_tuple_end {it t x1 : Addr} {i : Nat} {items : Array Value} {Q : Option Value → Shared → Prop} (hot : HotAt A x1 s.heap) (hit : s.heap.IsTupleIter it t i) (ht : s.heap.IsTuple t items) (hx : items[i]? = none)
    (hQ : ∀ h', Heap.ExtBut it s.heap h' → Q none { s with heap := h' }) : wpAny (model prog w) A (pyNext (.ref it)) Q E s := by
  obtain ⟨o, ho, hc, hd⟩ := id hit
  obtain ⟨ol, hol, _, nl, hdl⟩ := ht
  obtain ⟨ne, hot2⟩ := stop_hot hot ho hd hQ
  unfold pyNext
  refine wpAny_bind (wpAny_attempt (wpAny_callSpecial?_slot (name := Str.ofString "__next__") hit.typeIs F.slot_tuple_iterator_next (wpAny_call_entry F.slot_tuple_iterator_next hit.typeIs F.entry_tuple_iterator_next ?_ (F.args_tuple_iterator_next_1 _))))
  refine (show wpAny _ _ (field (.ref it) 0 >>= _) _ _ s from wpAny_bind (wpAny_field ho hd (x := .ref t) rfl ?_))
  refine (show wpAny _ _ (if (Value.ref t == Value.none) = true then _ else _) _ _ s from ?_)
  rw [if_neg (show ¬ ((Value.ref t == Value.none) = true) by exact Bool.false_ne_true)]
  refine (show wpAny _ _ (field (.ref it) 1 >>= _) _ _ s from wpAny_bind (wpAny_field ho hd (x := .int i 0) rfl ?_))
  refine (show wpAny _ _ (seqItems? (.ref t) >>= _) _ _ s from wpAny_bind (wpAny_seqItems hol hdl ?_))
  simp only [Int.toNat_natCast, hx]
  refine wpAny_bind (wpAny_rule (wpAny_bind (wpAny_setField ho hd (by simp) ?_)))
  have hotB := hot2 _ rfl
  have sb := Heap.SameBut.update s.heap it (Obj.mapFields (·.setIfInBounds 0 .none))
  generalize s.heap.update it (Obj.mapFields (·.setIfInBounds 0 .none)) = hB at hotB sb ⊢
  obtain ⟨hh, o1, vs1, h1, d1, c1⟩ := hotB
  refine (show wpAny _ _ (newExc (.type "StopIteration") [] >>= _) _ _ _ from wpAny_bind ?_)
  simp only [newExc, newTuple]
  refine wpAny_bind (wpAny_newObj_type ?_ (by size_fits))
  refine wpAny_bind (m := firstArgMember _ _) (wpAny_of_eq (a := Value.none) (by first | rfl | (simp only [firstArgMember]; rfl)) (wpAny_newObj_type ?_ (by size_fits)))
  refine raiseNew_hot ⟨hh, o1, vs1, Heap.get?_push_of_some _ (Heap.get?_push_of_some _ h1), d1, c1⟩ (Nat.ne_of_lt (Heap.lt_size (Heap.get?_push_of_some _ h1))) (Heap.get?_push_size _ rfl) rfl (by first | (simp; done) | (simp; omega) | (simp only [Array.size_append]; simp; omega)) ?_
  refine wpAny_bind (wpAny_isInstance (T := "StopIteration") (b := true) ⟨_, Heap.get?_update_self _ (Heap.get?_push_size _ rfl) rfl, rfl⟩ isSubtype_stop (wpAny_pure (hQ _ ?_)))
  intro b ob nb e
  have e1 := sb.extBut b ob nb e
  rw [Heap.get?_update_other _ _ (Nat.ne_of_gt (Heap.lt_size (Heap.get?_push_of_some _ e1)))]
  exact Heap.get?_push_of_some _ (Heap.get?_push_of_some _ e1)
theorem next_list_end {it t x1 : Addr} {i : Nat} {items : Array Value} {Q : Option Value → Shared → Prop} (hot : HotAt A x1 s.heap) (hit : s.heap.IsListIter it t i) (ht : s.heap.IsList t items) (hx : items[i]? = none)
    (hQ : ∀ h', Heap.ExtBut it s.heap h' → Q none { s with heap := h' }) : wpAny (model prog w) A (pyNext (.ref it)) Q E s := by
  obtain ⟨o, ho, hc, hd⟩ := id hit
  obtain ⟨ol, hol, _, nl, hdl⟩ := ht
  obtain ⟨ne, hot2⟩ := stop_hot hot ho hd hQ
  unfold pyNext
  refine wpAny_bind (wpAny_attempt (wpAny_callSpecial?_slot (name := Str.ofString "__next__") hit.typeIs slot_listiter_next (wpAny_call_entry slot_listiter_next hit.typeIs entry_listiter_next ?_ (args_listiter_next _))))
  refine (show wpAny _ _ (field (.ref it) 0 >>= _) _ _ s from wpAny_bind (wpAny_field ho hd (x := .ref t) rfl ?_))
  refine (show wpAny _ _ (if (Value.ref t == Value.none) = true then _ else _) _ _ s from ?_)
  rw [if_neg (show ¬ ((Value.ref t == Value.none) = true) by exact Bool.false_ne_true)]
  refine (show wpAny _ _ (field (.ref it) 1 >>= _) _ _ s from wpAny_bind (wpAny_field ho hd (x := .int i 0) rfl ?_))
  refine (show wpAny _ _ (seqItems? (.ref t) >>= _) _ _ s from wpAny_bind (wpAny_seqItems hol hdl ?_))
  simp only [Int.toNat_natCast, hx]
  refine wpAny_bind (wpAny_rule (wpAny_bind (wpAny_setField ho hd (by simp) ?_)))
  have hotB := hot2 _ rfl
  have sb := Heap.SameBut.update s.heap it (Obj.mapFields (·.setIfInBounds 0 .none))
  generalize s.heap.update it (Obj.mapFields (·.setIfInBounds 0 .none)) = hB at hotB sb ⊢
  obtain ⟨hh, o1, vs1, h1, d1, c1⟩ := hotB
  refine (show wpAny _ _ (newExc (.type "StopIteration") [] >>= _) _ _ _ from wpAny_bind ?_)
  simp only [newExc, newTuple]
  refine wpAny_bind (wpAny_newObj_type ?_ (by size_fits))
  refine wpAny_bind (m := firstArgMember _ _) (wpAny_of_eq (a := Value.none) (by first | rfl | (simp only [firstArgMember]; rfl)) (wpAny_newObj_type ?_ (by size_fits)))
  refine raiseNew_hot ⟨hh, o1, vs1, Heap.get?_push_of_some _ (Heap.get?_push_of_some _ h1), d1, c1⟩ (Nat.ne_of_lt (Heap.lt_size (Heap.get?_push_of_some _ h1))) (Heap.get?_push_size _ rfl) rfl (by first | (simp; done) | (simp; omega) | (simp only [Array.size_append]; simp; omega)) ?_
  refine wpAny_bind (wpAny_isInstance (T := "StopIteration") (b := true) ⟨_, Heap.get?_update_self _ (Heap.get?_push_size _ rfl) rfl, rfl⟩ isSubtype_stop (wpAny_pure (hQ _ ?_)))
  intro b ob nb e
  have e1 := sb.extBut b ob nb e
  rw [Heap.get?_update_other _ _ (Nat.ne_of_gt (Heap.lt_size (Heap.get?_push_of_some _ e1)))]
  exact Heap.get?_push_of_some _ (Heap.get?_push_of_some _ e1)
/-- a list's walk, with the exception that is handled in view -/
theorem walks_list {x1 : Addr} (I ax : Addr) (hne : ax ≠ I) (hnx : x1 ≠ I) (items : Array Value) :
    Walks prog w A I [I, ax, x1] [I] items.size (fun i v => items[i]? = some v) (fun i h => (h.IsListIter I ax i ∧ h.IsList ax items) ∧ HotAt A x1 h) where
  sub := fun b hb => by simp at hb; simp [hb]
  frame := fun _ _ _ st hk => ⟨⟨st.1.1.at fun o e => hk I (by simp) o e, st.1.2.at fun o e => hk ax (by simp) o e⟩, let ⟨hh, o, vs, h1, d, c⟩ := st.2; ⟨hh, o, vs, hk x1 (by simp) _ h1, d, c⟩⟩
  item := fun i s Q E hi st hQ => wpAny_pyNext_list_item st.1.1 st.1.2 (x := items[i]) (by simp [hi]) fun h' hit' hs' =>
    hQ _ h' s.toks (by simp [hi]) ⟨⟨hit', st.1.2.extBut hs'.extBut hne⟩, let ⟨hh, o, vs, h1, d, c⟩ := st.2; ⟨hh, o, vs, hs'.extBut _ _ hnx h1, d, c⟩⟩ fun b o hb e => hs'.extBut b o (fun h => hb (by simp [h])) e
  done := fun s Q E st hQ => next_list_end st.2 st.1.1 st.1.2 (by simp) fun h' he' => hQ h' s.toks fun b o hb e => he' b o (fun h => hb (by simp [h])) e
  self := fun _ _ _ _ st hQ => wpAny_pyIter_listiter st.1.1 hQ
theorem sum_hot {x1 l : Addr} {its : List Value} {ns : List Int} {Q : Value → Shared → Prop} (hot : HotAt A x1 s.heap) (hl : s.heap.IsList l its.toArray) (hi : IntsAre its ns)
    (h : ∀ h' tk t', (∀ b o, s.heap.get? b = some o → h'.get? b = some o) → Q (.int ns.sum t') { s with heap := h', toks := tk }) : wpAny (model prog w) A (call (.builtin "sum") [.ref l]) Q E s := by
  obtain ⟨xs, e⟩ := hi.allInts.items
  have hn : numsOf (intItems xs).toList = ns := by rw [← e]; exact hi.numsOf
  rw [nums_intItems] at hn
  rw [e] at hl
  refine call_sum_walkG (iter_intList hl fun s2 e2 st hfp hlI => ?_)
  subst e2
  have hot2 : HotAt A.in1 x1 (s.heap.push { cls := .type "list_iterator", data := .fields #[.ref l, .int 0 0] }) := let ⟨hh, o, vs, h1, d, c⟩ := hot; ⟨hh, o, vs, Heap.get?_push_of_some _ h1, d, c⟩
  have xlt : x1 < s.heap.objs.size := let ⟨_, _, _, h1, _, _⟩ := hot; Heap.lt_size h1
  refine ⟨_, _, _, _, _, _, numAt xs, rfl, walks_list (A := A.in1) (x1 := x1) _ l hlI (Nat.ne_of_lt xlt) (intItems xs), ⟨st, hot2⟩, fun b hb => ?_, (fun _ _ => intItems_at), fun h' tk t' hk => ?_⟩
  · rcases List.mem_cons.mp hb with z | hb
    · exact hfp b (by rw [z]; simp)
    · rcases List.mem_cons.mp hb with z | hb
      · exact hfp b (by rw [z]; simp)
      · obtain rfl := List.mem_singleton.mp hb
        exact Nat.lt_trans xlt (by rw [Heap.size_push]; exact Nat.lt_succ_self _)
  · have q := h h' tk t' (old_kept hk)
    have e3 : preSum (numAt xs) (intItems xs).size = ns.sum := by
      rw [show (intItems xs).size = xs.size by simp [intItems], preSum_eq, List.take_of_length_le (by simp), hn]
    rw [e3]
    exact q
end
end HotX
namespace EL
open PySem PySem.Spec PyProof.Rows L2 L2H
section
variable {X : Cx} {tg : Expr}
theorem turn_tupH {P : Program} {w : World} {K : PySem.W.Frag} {tg : Expr} (a it : Addr) : TurnH P w K tg (Itt K a) [it] it (fun i h => h.IsTupleIter it a i) where
  mem := by simp
  obj := fun i h st b hb => by
    obtain rfl : b = it := by simpa using hb
    obtain ⟨o, e, c, d⟩ := st
    exact ⟨o, e, fun v z => by rw [d] at z; cases z⟩
  keep := fun i h h' st k => st.at fun o e => k it (by simp) o e
  item := fun X hP hw hK hc i pins s σ H E I hf st hg => by
    subst hP hw hK
    obtain ⟨xs, x, hq, hx⟩ := hg
    obtain ⟨its, rv, p, hz⟩ := I.tuple hq
    obtain ⟨u, hu, ru⟩ := rv.get hx
    obtain ⟨f0, f1, f2, f3, f4, f5⟩ := hf it (by simp)
    refine wpAny_pyNext_tuple_item st (show s.heap.IsTuple a its.toArray from p) (x := u) (by simpa using hu) fun h' st2 sb => ?_
    obtain ⟨o, e, c, d⟩ := id st2
    exact ⟨u, rfl, go_of (s := { s with heap := h' }) e c d (by decide) ⟨x, H, I.turned (t' := s.toks) (fun b o hb e => (sb.2 b hb).trans e) f0 f1 f3 f4 f5, ru, ⟨rfl, fun ys hy => by rw [I.tuple_inj hy hq]; exact hx⟩, st2, fun b hb => (hf b hb).1⟩⟩
  done := fun X hP hw hK hc i pins s σ H E I hf st hg => by
    subst hP hw hK
    obtain ⟨xs, hq, hx⟩ := hg
    obtain ⟨its, rv, p, hz⟩ := I.tuple hq
    obtain ⟨f0, f1, f2, f3, f4, f5⟩ := hf it (by simp)
    obtain ⟨x1, hot⟩ := hc.at I
    have hl := rv.length
    exact HotX.next_tuple_end hot st (show s.heap.IsTuple a its.toArray from p) (by simp; omega) fun h' eb => ⟨rfl, I.turned (t' := s.toks) (fun b o hb e => eb b o hb e) f0 f1 f3 f4 f5⟩
  self := fun _ _ _ _ _ st h => wpAny_pyIter_tupleiter st h
theorem pi_tupH {l : Expr} {tl : TE} (hl : PE X l tl) : PIH X tg l (iTup X.K tl) := ⟨fun pins s σ H R I h => thn (hl.run pins s σ H _ I h) fun v s1 ⟨x, H1, I1, r1, q1⟩ => by
  obtain ⟨a, e, ⟨xs, hq⟩, q⟩ := q1
  subst e
  cases r1
  obtain ⟨its, rv, p, hz⟩ := I1.tuple hq
  refine wpAny_pyIter_tuple (show s1.heap.IsTuple a its.toArray from p) ⟨s1.heap.objs.size, [s1.heap.objs.size], _, _, H1, rfl, I1.kept (t' := s1.toks) fun b o e => Heap.get?_push_of_some _ e, turn_tupH a _, ⟨_, Heap.get?_push_size _ rfl, rfl, rfl⟩, fun b hb => ?_, q⟩
  obtain rfl : b = s1.heap.objs.size := by simpa using hb
  exact I1.fpOk (Nat.le_refl _) (I1.hok.fresh (Nat.le_refl _))⟩
theorem cr_sumH (hc : HotC X) : CallR X (.builtin "sum") (rSum X.K) := fun pins s σ H vs us Q I r h => by
  obtain ⟨a, ns, rfl, hs, q⟩ := h
  obtain ⟨its, rv, hl, _⟩ := I.list hs
  rw [Vals.ref1 r]
  obtain ⟨x1, hot⟩ := hc.at I
  exact HotX.sum_hot hot hl.isList rv.ints fun h' tk t' hk => ⟨.int _, H, I.kept hk, ⟨_, rfl⟩, q⟩
end
/-- the context of a block that runs while an exception is handled: what the context bears is borne on -/
abbrev blkH (X : Cx) (s : Shared) (H : Hp) (scope : Scope) (ce : Env) (fp : List Addr) : Cx := { X.blk s H scope ce fp with pn := X.pn }
section
variable {X : Cx}
theorem inv_blkH {pins : List (Addr × Obj)} {σ σ' : L2.St} {H : Hp} {s s' : Shared} {scope : Scope} {ce : Env} {fp : List Addr} (I : Inv X pins σ H s) (J : Inv (X.blk s H scope ce fp) [] σ' H s') (k : ∀ b o, s.heap.get? b = some o → s'.heap.get? b = some o) (el : ce.locals = s.heap.objs.size) :
    Inv (blkH X s H scope ce fp) [] σ' H s' := by
  obtain ⟨ok, os, bare, base, loc, cell, free, freeC, _, hk, len⟩ := J
  obtain ⟨a1, a2, a3, a4, a5, a6, a7, a8, a9, a10, a11, a12, a13, a14, a15, a16, a17, a18⟩ := ok
  refine ⟨⟨a1, a2, a3, a4, a5, a6, a7, a8, a9, a10, a11, a12, a13, a14, a15, a16, a17, a18⟩, os, bare, base, loc, cell, free, freeC, fun p hp => ?_, hk, len⟩
  have hp : p ∈ X.pn := by simpa using hp
  obtain ⟨p1, p2, p3, p4, p5⟩ := I.pin p (List.mem_append_left _ hp)
  refine ⟨k _ _ p1, p2, ?_, fun hm => (List.mem_cons.mp (I.stkSub p.1 hm)).elim p3 p4, p5⟩
  show p.1 ≠ ce.locals
  rw [el]
  exact Nat.ne_of_lt (Heap.lt_size p1)
theorem lc_hot {pins : List (Addr × Obj)} {s : Shared} {σ : L2.St} {H : Hp} {Q : VK} {elt tg iter : Expr} {ifs : List Expr} {scope : Scope} {own : List (Str × Nat)} {pos pos' : Pos} {wi : TI} {g : TG} {tt : TT} {te : TE} {use : Option (Value → Sem Unit)} {Qf : Value → Shared → Prop}
    (hc : HotC X) (hN : X.N.Nodup) (I : Inv X pins σ H s) (hi : PIH X tg iter wi) (ok : BlkOk X.N X.env.scope scope own)
    (hg : ∀ (s : Shared) (H : Hp) (C : Addr) (cl : List (Str × Addr)) (fp : List Addr), PG (blkH X s H scope (compEnvC scope cl C X.env) fp) tg g)
    (ht : ∀ (s : Shared) (H : Hp) (C : Addr) (cl : List (Str × Addr)) (fp : List Addr), PTs (blkH X s H scope (compEnvC scope cl C X.env) fp) ifs tt)
    (he : ∀ (s : Shared) (H : Hp) (C : Addr) (cl : List (Str × Addr)) (fp : List Addr), PE (blkH X s H scope (compEnvC scope cl C X.env) fp) elt te) (hs : ∀ x, foldedSetIterable iter X.env x = pure x)
    (h : tLc wi g tt te (own.map (·.2)) σ H Q)
    (hRR : ∀ D C s' m H', Inv X pins σ H' s' → Q (.ref D) H' → s'.heap.Ns C m → FpOk X pins H' C → compPost (model X.prog X.w) X.A X.xe use Qf (.ref D) C (.ok .next) s') :
    wpAny (model X.prog X.w) X.A (comprehension (.ListComp elt [⟨tg, iter, ifs, 0⟩] scope pos) scope X.env pos' (newList []) false (eval iter X.env) use) Qf X.xe s := by
  have hcells : ∀ y ∈ scope.names, y.2 = .free → ∃ c, X.env.cells.lookup y.1 = some c := fun y hy e => (ok.free y hy e).elim (fun k => I.ok.has _ (.inl k)) fun k => I.ok.has _ (.inr k)
  refine wpAny_comprehension_free (use := use) rfl hs (closure_ok hcells) ok.kind (fun y hy e => by rw [ok.uniq y hy, e]) (thn (hi.run pins s σ H _ I h) fun xv s1 hx => thn hx fun itv s2 ⟨it, fp, tn, J, H2, e, I2, T, st2, f2, q⟩ => ?_)
  subst e
  refine wpAny_newObj_type (newEnv_comp ?_) (by show 0 ≤ sizeLine; decide)
  obtain ⟨D, hD⟩ : ∃ D, s2.heap.objs.size = D := ⟨_, rfl⟩
  have hDn : H2 D = none := I2.hok.fresh (Nat.le_of_eq hD)
  obtain ⟨W, ⟨m0, w0⟩, turn⟩ := q D hDn
  obtain ⟨s3, hs3⟩ : ∃ s3 : Shared, ({ s2 with heap := s2.heap.push { cls := .type "list", data := .seq ([] : List Value).toArray } } : Shared) = s3 := ⟨_, rfl⟩
  rw [hD, hs3]
  have hp3 : s3.heap = s2.heap.push { cls := .type "list", data := .seq ([] : List Value).toArray } := by rw [← hs3]
  have I3 : Inv X pins σ (upd H2 D (.lst [])) s3 := by
    rw [← hs3]
    exact I2.laid (t' := s2.toks) (fun b o e => Heap.get?_push_of_some _ e) (Nat.le_of_eq hD) ⟨Nat.zero_le _, [], 0, .nil, by rw [← hD]; exact Heap.get?_push_size _ rfl⟩
  have lts : ∀ b ∈ fp, b < s2.heap.objs.size := fun b hb => let ⟨o, e, _⟩ := T.obj _ _ st2 b hb; Heap.lt_size e
  have f3 : ∀ b ∈ fp, FpOk X pins (upd H2 D (.lst [])) b ∧ b < s3.heap.objs.size := fun b hb =>
    ⟨⟨by rw [upd_ne (by rw [← hD]; exact Nat.ne_of_lt (lts b hb))]; exact (f2 b hb).1, (f2 b hb).2⟩, by rw [hp3, Heap.size_push]; exact Nat.lt_succ_of_lt (lts b hb)⟩
  have st3 : tn 0 s3.heap := T.keep _ _ _ st2 fun b _ o e => by rw [hp3]; exact Heap.get?_push_of_some _ e
  have I4 := block_start I3 ok hN f3
  have pg := hg s3 (upd H2 D (.lst [])) s3.heap.objs.size (cellsFrom (s3.heap.objs.size + 1) scope.names (cloFrom X.env.cells scope.names [])) fp
  have pt := ht s3 (upd H2 D (.lst [])) s3.heap.objs.size (cellsFrom (s3.heap.objs.size + 1) scope.names (cloFrom X.env.cells scope.names [])) fp
  have pe := he s3 (upd H2 D (.lst [])) s3.heap.objs.size (cellsFrom (s3.heap.objs.size + 1) scope.names (cloFrom X.env.cells scope.names [])) fp
  show codeAny _ _ (.compStart (.ListComp elt [⟨tg, iter, ifs, 0⟩] scope pos) 0 (.ref it) (.ref D) (compEnvC scope (cellsFrom (s3.heap.objs.size + 1) scope.names (cloFrom X.env.cells scope.names [])) s3.heap.objs.size X.env)) (compPost (model X.prog X.w) X.A X.xe use Qf (.ref D) s3.heap.objs.size) { s3 with heap := pushCells (s3.heap.push { cls := .type "dict", data := .dict #[] }) scope.names }
  have free0 : ∀ b ∈ fp, (upd H2 D (.lst [])) b = none := fun b hb => (f3 b hb).1.1
  obtain ⟨ce, hce⟩ : ∃ ce, compEnvC scope (cellsFrom (s3.heap.objs.size + 1) scope.names (cloFrom X.env.cells scope.names [])) s3.heap.objs.size X.env = ce := ⟨_, rfl⟩
  rw [hce] at I4 pg pt pe ⊢
  have cL : ce.locals = s3.heap.objs.size := by rw [← hce]; rfl
  obtain ⟨H3, hH3⟩ : ∃ H3, upd H2 D (.lst []) = H3 := ⟨_, rfl⟩
  rw [hH3] at I3 I4 pg pt pe w0 free0 f3
  have kp4 : ∀ b o, s3.heap.get? b = some o → (pushCells (s3.heap.push { cls := .type "dict", data := .dict #[] }) scope.names).get? b = some o := fun b o e => pushCells_keeps _ _ _ _ (Heap.get?_push_of_some _ e)
  obtain ⟨s4, hs4⟩ : ∃ s4 : Shared, ({ s3 with heap := pushCells (s3.heap.push { cls := .type "dict", data := .dict #[] }) scope.names } : Shared) = s4 := ⟨_, rfl⟩
  rw [hs4] at I4 ⊢
  have k34 : ∀ b o, s3.heap.get? b = some o → s4.heap.get? b = some o := fun b o e => by rw [← hs4]; exact kp4 b o e
  have I5 := inv_blkH I3 I4 k34 cL
  clear I4
  have st4 : tn 0 s4.heap := T.keep _ _ _ st3 fun b _ o e => k34 b o e
  have hcB : HotC (blkH X s3 H3 scope ce fp) := hc
  have stat : ∀ {σ' : L2.St} {H' : Hp} {s' : Shared}, Inv (blkH X s3 H3 scope ce fp) [] σ' H' s' → (∀ b ∈ fp, H' b = none) → ∀ b ∈ fp, FpOk (blkH X s3 H3 scope ce fp) [] H' b := fun {σ' H' s'} I' hn b hb =>
    ⟨hn b hb, (I'.ok.exf b hb).1, I'.ok.exfs b hb, .inl hb, fun x c e => (I'.ok.exf b hb).2 x c e, fun p hp => (f3 b hb).1.2.2.2.2.2 p (List.mem_append_left _ (by simpa using hp))⟩
  have loop : codeAny (model X.prog X.w) X.A (.compLoop (.ListComp elt [⟨tg, iter, ifs, 0⟩] scope pos) 0 (.ref it) (.ref D) ce) (compPost (model X.prog X.w) X.A X.xe use Qf (.ref D) s3.heap.objs.size) s4 := by
    refine compLoop_any (fun n s' => ∃ i H', Inv (blkH X s3 H3 scope ce fp) [] (wipe σ (own.map (·.2))) H' s' ∧ tn i s'.heap ∧ (∀ b ∈ fp, H' b = none) ∧ W i n H') ?_ m0 ⟨0, H3, I5, st4, free0, w0⟩
    rintro n s5 ⟨i, H5, I5, st5, n5, w5⟩
    rcases turn i n H5 w5 with ⟨stop, qq⟩ | ⟨go, Nx, hNx, step⟩
    · refine thnF (T.done (blkH X s3 H3 scope ce fp) rfl rfl rfl hcB i [] s5 _ H5 (fun _ _ => False) I5 (stat I5 n5) st5 stop) fun r s6 ⟨hr, I6⟩ => ?_
      subst hr
      have I7 : Inv X pins σ H5 s6 := I3.call' (ch := fp) I6.os I6.base I6.hok I6.bare fun b hb => let ⟨z1, z2, z3, z4, z5, z6⟩ := (f3 b hb).1; ⟨z4, z2, z5, z6⟩
      have nC : H5 s3.heap.objs.size = none := by rw [← cL]; exact I6.free
      obtain ⟨m, hn, _⟩ := I6.loc
      have hn : s6.heap.Ns s3.heap.objs.size m := by rw [← cL]; exact hn
      exact hRR D s3.heap.objs.size s6 m H5 I7 qq hn (I3.fpOk (Nat.le_refl _) nC)
    · refine thnF (T.item (blkH X s3 H3 scope ce fp) rfl rfl rfl hcB i [] s5 _ H5 (fun _ _ => False) I5 (stat I5 n5) st5 go) fun r s6 ⟨u, hr, h6⟩ => ?_
      subst hr
      refine thnF h6 fun _ s7 ⟨x, H7, I7, r7, y7, st7, n7⟩ => ?_
      refine thnF (pg.run _ s7 _ H7 x u _ (I7.pinned (stat I7 n7) (T.obj _ _ st7)) r7 (step x H7 y7)) fun _ s8 ⟨σ8, H8, I8, hw8, q8⟩ => thnF (pt.run _ s8 σ8 H8 _ I8 q8) fun b s9 ⟨H9, I9, q9⟩ => ?_
      have fin : ∀ {s' : Shared} {H' : Hp}, Inv (blkH X s3 H3 scope ce fp) ([] ++ pinsAt fp s7.heap) σ8 H' s' → Nx H' → ∃ m, m < n ∧ ∃ i H', Inv (blkH X s3 H3 scope ce fp) [] (wipe σ (own.map (·.2))) H' s' ∧ tn i s'.heap ∧ (∀ b ∈ fp, H' b = none) ∧ W i m H' := fun {s' H'} I' nx => by
        obtain ⟨m', hm, w'⟩ := hNx H' nx
        have pn' : ∀ b ∈ fp, ∀ o, s7.heap.get? b = some o → s'.heap.get? b = some o ∧ H' b = none := fun b hb o e => let z := I'.pin (b, o) (List.mem_append_right _ (List.mem_append_right _ (mem_pinsAt hb e))); ⟨z.1, z.2.1⟩
        have hl : (wipe σ (own.map (·.2))).length = σ8.length := by rw [← hw8, wipe_length]
        exact ⟨m', hm, i + 1, H', (I'.unpinned (pins := [])).weak hl (fun j v e => by rw [← hw8] at e; exact (wipe_some e).1), T.keep _ _ _ st7 fun b hb o e => (pn' b hb o e).1, fun b hb => (let ⟨o, e, _⟩ := T.obj _ _ st7 b hb; (pn' b hb o e).2), w'⟩
      cases b with
      | false =>
        simp only [Bool.false_eq_true, if_false] at q9 ⊢
        exact fin I9 q9
      | true =>
        simp only [if_true] at q9 ⊢
        exact thnF (pe.run _ s9 σ8 H9 _ I9 q9) fun z s10 ⟨yv, H10, I10, r10, acc, hD10, hz10, nx⟩ => app_ok (X := blkH X s3 H3 scope ce fp) I10 hD10 hz10 r10 fun s11 I11 => fin I11 nx
  exact codeAny_compStart_list loop (T.self X.A 0 _ _ _ st4 loop)
/-- a comprehension as a value, where an exception is handled -/
theorem pe_lcH {elt tg iter : Expr} {ifs : List Expr} {scope : Scope} {own : List (Str × Nat)} {pos : Pos} {wi : TI} {g : TG} {tt : TT} {te : TE} (hc : HotC X) (hN : X.N.Nodup) (hi : PIH X tg iter wi) (ok : BlkOk X.N X.env.scope scope own)
    (hg : ∀ (s : Shared) (H : Hp) (C : Addr) (cl : List (Str × Addr)) (fp : List Addr), PG (blkH X s H scope (compEnvC scope cl C X.env) fp) tg g)
    (ht : ∀ (s : Shared) (H : Hp) (C : Addr) (cl : List (Str × Addr)) (fp : List Addr), PTs (blkH X s H scope (compEnvC scope cl C X.env) fp) ifs tt)
    (he : ∀ (s : Shared) (H : Hp) (C : Addr) (cl : List (Str × Addr)) (fp : List Addr), PE (blkH X s H scope (compEnvC scope cl C X.env) fp) elt te) (hs : ∀ x, foldedSetIterable iter X.env x = pure x := by intro _; rfl) :
    PE X (.ListComp elt [⟨tg, iter, ifs, 0⟩] scope pos) (tLc wi g tt te (own.map (·.2))) := by
  refine ⟨fun pins s σ H Q I h => ?_⟩
  rw [eval_ListComp]
  exact lc_hot hc hN I hi ok hg ht he hs h fun D C s' m H' I' q hn ⟨f0, f1, f2, f3, f4, f5⟩ => ⟨m, hn, fun h'' sb => ⟨.ref D, H', I'.turned (t' := s'.toks) (fun b o hb e => (sb.2 b hb).trans e) f0 f1 f3 f4 f5, rfl, q⟩⟩
end
end EL

/- part HT2 -/
/-! errors whose context is None, and defs that are called while one of them is handled -/
namespace EL
open PySem PySem.Spec PyProof.Rows L2
open PySem.W (Frag)
theorem takes0N {X : Cx} : L2N.Takes X (fun _ _ _ _ => False) := fun _ _ ⟨_, _, _, _, _, _, _, _, _, _, _, _, _, _, _, _, z⟩ => z.elim
theorem passEN {X : Cx} {E : XK} (tk : L2N.Takes X fun cls d _ H => E cls d H) : Passes (L2N.CX X.prog X.w) X E := fun pins σ H s e s' I hz => L2N.passAt tk σ pins H s e s' I hz
theorem pe_calXN {X : Cx} {W : WX} {k : Nat} {x : Str} {ps : List Str} {sp : Sp} {p pos : Pos} {e : Expr} {es : List Expr} {t : TA} (C : Cal X.prog X.w X.K X.mg X.base (L2N.CX X.prog X.w) k x ps sp) (hr : Room k X.A) (tk : L2N.Takes X W) (ha : PA X (e :: es) t)
    (hg : Gl X x := by rfl) (hdb : (x == ("__debug__" : Str)) = false := by decide) (he : starEach (e :: es) X.env = (false, eval e X.env) :: starEach es X.env := by rfl) (hpl : (backTo pos (starEach es X.env)).any (·.1) = false := by rfl) :
    PE X (.Call (.Name x p) (e :: es) [] pos) (tCallS sp (WE W) t) := by
  obtain ⟨f, fd, h1, h2, h3, h4⟩ := C.ex
  exact pe_callS h4 hr hg h1 h2 h3 (fun σ => L2N.passAt tk σ) ha hdb he hpl
theorem okXN {P : Program} {w : World} {K : Frag} {mg : Str → Option Value} {base : Heap} {x qual : Str} {st : Stmt} {f : Addr} {fd : FuncData} {N ps : List Str} {k : Nat} {sp : Sp} (F : Fun K x qual st f fd) (S : FnScope N ps (defScope st)) (len : ∀ vs H Q E, sp vs H Q E → vs.length = ps.length)
    (hbody : ∀ (cdv : Value) (A : Around) (outer : List Env) (s : Shared) (H : Hp) (vs : List V) (Q : VK) (E : XK), Room k (A.deeper (envOfC qual (defScope st) s.heap.objs.size f cdv)) → sp vs H Q E →
      ∃ t, PSs (cxOf (L2N.CX P w) P w K mg base N qual (defScope st) f cdv A outer s H E) (defBody st) t ∧ t { nx := fun _ H' => Q .non H', rt := Q } (start N vs) H) : FnOk P w K mg base (L2N.CX P w) (k + 1) f fd ps sp := by
  obtain ⟨oc, od, kV, doc, pm, an, cdv, ct, osl, rfl, lk, hcd⟩ := F.ex
  exact fn_of lk hcd S len fun A outer s H vs Q E hr hsp => hbody cdv A outer s H vs Q E hr hsp
/-- an own error, raised; its context is None -/
theorem pmk_oexC {X : Cx} {CX : CXT} {x : Str} {e : Expr} {es : List Expr} {ta : TA} {p pos : Pos} {C fI : Addr} {k : Nat} {fd : FuncData} {ps : List Str} {sp : Sp} (T : OexC X.K C) (iC : PySem.W.findIn X.K (.ref C) "__init__" = some (some (.ref fI))) (tI : PySem.W.typeIn X.K (.ref fI) = some (.type "function"))
    (F1 : FnOk X.prog X.w X.K X.mg X.base CX k fI fd ps sp) (hr : Room (k + 1) X.A) (hb : L2.Binds X.K fd ps []) (hx : Passes CX X fun _ _ _ => False) (hg : Gl X x) (hm : X.mg x = some (.ref C)) (ha : PA X (e :: es) ta)
    (hdb : (x == ("__debug__" : Str)) = false := by decide) (he : starEach (e :: es) X.env = (false, eval e X.env) :: starEach es X.env := by rfl) (hpl : (backTo pos (starEach es X.env)).any (·.1) = false := by rfl) :
    L2N.PMk X (.Call (.Name x p) (e :: es) [] pos) (tMkO C sp [] ta) := fun pins s σ H Q I h => by
  obtain ⟨nm, q, N, bs, bm, sn, sub, ab, col, dd, k0, k1, k2, k3, k5, hC, hbm⟩ := T.cls
  refine wpAny_Call_Name_kw (ld_glob I hg hm (PySem.W.callWith_K (h₀ := X.base) I.ok.mod.kin T.kC (thn (ha.run pos pins s σ H _ I h) fun us s1 ⟨vs, H1, I1, r1, hz, q1⟩ => ⟨I1.kIn, (show wpAny _ _ (call (.ref C) us) _ _ _ from ?_)⟩) he hpl) hdb)
  obtain ⟨hp, g, dr, tk, os⟩ := s1
  have hsz := Nat.le_succ hp.objs.size
  have hq := q1 (hp.objs.size + 1) (I1.hok.fresh hsz)
  rw [List.append_nil] at hq
  have kk : ∀ b o, hp.get? b = some o → ((hp.push (PySem.W.kdv_tup us)).push (HandSPX.excO C hp.objs.size)).get? b = some o := fun b o e => Heap.get?_push_of_some _ (Heap.get?_push_of_some _ e)
  have hget : ((hp.push (PySem.W.kdv_tup us)).push (HandSPX.excO C hp.objs.size)).get? (hp.objs.size + 1) = some (HandSPX.excO C hp.objs.size) := Heap.get?_push_at (by rw [Heap.size_push]) rfl
  have I2 : Inv X pins σ (upd H1 (hp.objs.size + 1) (exo (hp.objs.size + 1) C none)) ⟨(hp.push (PySem.W.kdv_tup us)).push (HandSPX.excO C hp.objs.size), g, dr, tk, os⟩ := I1.laid kk hsz (exo_ok hget)
  have r2 : Vals (V.ref (hp.objs.size + 1) :: vs) (Value.ref (hp.objs.size + 1) :: us) := .cons rfl r1
  have hl : (Value.ref (hp.objs.size + 1) :: us ++ []).length = ps.length := by rw [List.append_nil]; exact r2.length.symm.trans (F1.len _ _ _ _ hq)
  have hus : us.length ≤ sizeLine := by rw [← r1.length]; exact Nat.le_trans hz (by decide)
  have b2 := hb _ (Value.ref (hp.objs.size + 1) :: us) I2.kIn hl
  rw [List.append_nil] at b2
  refine wpAny_call (HandSPX.call_own F.excBase_ValueError (fun Y => HandSPX.refsVE_contains Y bm hbm) (I1.kIn _ _ hC) (PySem.W.looks_findIn I1.kIn iC) (fun self => PySem.W.bind_fn I1.kIn self tI) hus
    (codeAny_mono (F1.run (X.A.under (Code.builtin "type.__call__" { pos := Value.ref C :: us })) X.stack _ _ ⟨Value.ref (hp.objs.size + 1) :: us, []⟩ (Value.ref (hp.objs.size + 1) :: us) _ _ (fun _ _ _ => False) (Room.make hr C us []) (Env0.make I2.env0 C us []) b2 r2 hq) fun r s' hq' => ?_))
  rcases r with er | fl
  · exact hx pins σ _ _ er s' I2 hq'
  · cases fl with
    | next => exact False.elim hq'
    | brk => exact False.elim hq'
    | cont => exact False.elim hq'
    | ret u =>
      obtain ⟨v, H2, os2, bare2, un2, hok2, rv, ev, d, fs, ea, ed, hd1, q2⟩ := hq'
      subst ev
      obtain ⟨h2, g2, d2, t2, os'⟩ := s'
      obtain ⟨t0, G, J, kG, ge, hoe, na⟩ := mk_end0 (d2 := d2) (t2 := t2) I1 hsz kk un2 hok2 os2 bare2 ea ed hd1
      exact ⟨rv, hp.objs.size + 1, _, _, ⟨G, g2, d2, t2, os'⟩, _, .ref C, some d, rfl, J, kG, ge, hoe, ⟨rfl, rfl, fun vs hv => by cases hv; rfl⟩, rfl, rfl, na, rfl, bare2, raises_own T.exC T.tyC, q2⟩
/-! ### defs that are called while an exception is handled -/
theorem _root_.L2H.RoomH.units {k : Nat} {A : Around} (r : L2H.RoomH k A) : A.units + 64 < cLine := by have := r.un; omega
theorem fnH_of {P : Program} {w : World} {K : Frag} {mg : Str → Option Value} {base : Heap} {CX : CXT} {k : Nat} {x qual : Str} {st : Stmt} {f : Addr} {fd : FuncData} {N ps : List Str} {sp : Sp} (F : Fun K x qual st f fd) (S : FnScope N ps (defScope st)) (len : ∀ vs H Q E, sp vs H Q E → vs.length = ps.length)
    (hbody : ∀ (cd : Value) (A : Around) (outer : List Env) (s : Shared) (H : Hp) (vs : List V) (Q : VK) (E : XK) (p : Addr × Obj), L2H.Hot1 A p → L2H.RoomH k (A.deeper (envOfC qual (defScope st) s.heap.objs.size f cd)) → sp vs H Q E →
      ∃ t, PSs (L2H.cxH CX P w K mg base N qual (defScope st) f cd A outer s H E p) (defBody st) t ∧ t { nx := fun _ H' => Q .non H', rt := Q } (start N vs) H) : L2H.FnH P w K mg base CX (k + 1) f fd ps sp := by
  obtain ⟨oc, od, kV, doc, pm, an, cd, ct, osl, rfl, lk, hcd⟩ := F.ex
  exact L2H.fn_ofH lk hcd S len fun A outer s H vs Q E p hot hr hsp => hbody cd A outer s H vs Q E p hot hr hsp
theorem hotDef {P : Program} {w : World} {K : Frag} {mg : Str → Option Value} {base : Heap} {CX : CXT} {N : List Str} {qual : Str} {sc : Scope} {f : Addr} {cd : Value} {A : Around} {outer : List Env} {s : Shared} {H : Hp} {E : XK} {p : Addr × Obj} (h : L2H.Hot1 A p) :
    L2H.HotC (L2H.cxH CX P w K mg base N qual sc f cd A outer s H E p) := ⟨p, ⟨h.1, h.2⟩, List.mem_singleton.mpr rfl⟩
theorem hotSuite {X : Cx} {a : Addr} {oe : Obj} {cls : Value} {d : Option Addr} {pn : List (Addr × Obj)} (hz : L2N.Zn cls d oe) (hf : ∃ vs, oe.data = .fields vs) : L2H.HotC (X.suite a ((a, oe) :: pn)) :=
  let ⟨vs, e⟩ := hf; ⟨(a, oe), ⟨rfl, vs, e, hz.2.2 vs e⟩, List.mem_cons_self⟩
structure CalH (P : Program) (w : World) (K : Frag) (mg : Str → Option Value) (base : Heap) (k : Nat) (x : Str) (ps : List Str) (sp : Sp) : Prop where
  ex : ∃ f fd, mg x = some (.ref f) ∧ PySem.W.keepIn K (.ref f) = true ∧ Binds K fd ps [] ∧ L2H.FnH P w K mg base CX0 k f fd ps sp
theorem pe_calH {X : Cx} {k : Nat} {x : Str} {ps : List Str} {sp : Sp} {p pos : Pos} {e : Expr} {es : List Expr} {t : TA} (C : CalH X.prog X.w X.K X.mg X.base k x ps sp) (hr : L2H.RoomH k X.A) (hc : L2H.HotC X) (ha : PA X (e :: es) t)
    (hg : Gl X x := by rfl) (hdb : (x == ("__debug__" : Str)) = false := by decide) (he : starEach (e :: es) X.env = (false, eval e X.env) :: starEach es X.env := by rfl) (hpl : (backTo pos (starEach es X.env)).any (·.1) = false := by rfl) :
    PE X (.Call (.Name x p) (e :: es) [] pos) (tCall sp [] (fun _ _ _ => False) t) := by
  obtain ⟨f, fd, h1, h2, h3, h4⟩ := C.ex
  have q : PE X (.Call (.Name x p) (e :: es) [] pos) (tCallS sp (fun _ _ _ _ => False) t) := L2H.pe_callH h4 hr hc hg h1 h2 h3 (fun σ => fun _ _ _ _ _ _ z => z.elim) ha hdb he hpl
  exact ⟨fun pins s σ H Q I h => q.run pins s σ H Q I (by
    have h2 : t σ H fun vs H1 => sp (vs ++ []) H1 Q fun _ _ _ => False := h
    simp only [List.append_nil] at h2
    exact h2)⟩
end EL

/- part R -/
namespace EL
open PySem PySem.Spec PyProof.Rows L2
open PySem.W (Frag)
abbrev s_Book_events : Stmt := inClass (top 35) 1
abbrev N_Book_events : List Str := ["self"]
theorem sc_Book_events : FnScope N_Book_events ["self"] (defScope s_Book_events) := ⟨rfl, rfl, rfl, by decide +kernel, rfl, by decide +kernel, by decide +kernel⟩
abbrev s_Book_witnesses : Stmt := inClass (top 35) 2
abbrev N_Book_witnesses : List Str := ["self"]
theorem sc_Book_witnesses : FnScope N_Book_witnesses ["self"] (defScope s_Book_witnesses) := ⟨rfl, rfl, rfl, by decide +kernel, rfl, by decide +kernel, by decide +kernel⟩
abbrev s_Book_tellings : Stmt := inClass (top 35) 3
abbrev N_Book_tellings : List Str := ["self"]
theorem sc_Book_tellings : FnScope N_Book_tellings ["self"] (defScope s_Book_tellings) := ⟨rfl, rfl, rfl, by decide +kernel, rfl, by decide +kernel, by decide +kernel⟩
abbrev s_Book_gaps : Stmt := inClass (top 35) 4
abbrev N_Book_gaps : List Str := ["self"]
theorem sc_Book_gaps : FnScope N_Book_gaps ["self"] (defScope s_Book_gaps) := ⟨rfl, rfl, rfl, by decide +kernel, rfl, by decide +kernel, by decide +kernel⟩
abbrev s_Book_sure : Stmt := inClass (top 35) 5
abbrev N_Book_sure : List Str := ["self"]
theorem sc_Book_sure : FnScope N_Book_sure ["self"] (defScope s_Book_sure) := ⟨rfl, rfl, rfl, by decide +kernel, rfl, by decide +kernel, by decide +kernel⟩
abbrev s_Book_clauses : Stmt := inClass (top 35) 6
abbrev N_Book_clauses : List Str := ["self"]
theorem sc_Book_clauses : FnScope N_Book_clauses ["self"] (defScope s_Book_clauses) := ⟨rfl, rfl, rfl, by decide +kernel, rfl, by decide +kernel, by decide +kernel⟩
local macro_rules | `(tactic| walk_at "el1") => `(tactic| with_reducible first
  | refine a_sasg ?_ | refine a_sdrop ?_ | refine a_saugS ?_ | refine a_spar ?_ | refine a_seq ?_ | refine a_asg ?_ | refine a_drop ?_ | refine a_ret ?_ | refine a_if ?_ | refine a_next ?_
  | refine a_op ?_ | refine a_cons ?_ | refine a_nil ?_ | refine a_cb ?_ | refine a_call ?_ | refine a_c ?_ | refine a_gn ?_ | refine a_nx ?_ | refine a_rt ?_ | refine a_un ?_
  | refine a_test ?_ | refine a_B ?_ | refine a_bl ?_ | refine a_and ?_ | refine a_or ?_ | refine a_not ?_ | refine a_andV ?_ | refine a_orV ?_ | refine a_notV ?_ | refine a_ifx ?_ | refine a_chain ?_
  | refine a_nT ?_ | refine a_nF ?_ | refine a_fld ?_ | refine a_getF ?_ | refine a_T ?_ | refine a_F ?_ | refine a_tup ?_ | refine a_lst ?_ | refine a_sub ?_ | refine a_augS ?_ | refine a_two ?_ | refine a_I0 ?_ | refine a_U ?_ | refine n_add ?_ | refine n_int ?_ | refine n_ib ?_ | refine a_ip ?_ | refine a_rng1 ?_ | refine a_rng2 ?_ | refine a_bm ?_ | refine a_abs ?_ | refine a_pairs ?_ | refine a_pairs0 ?_ | refine a_bk ?_ | refine a_prp ?_ | refine a_lc ?_ | refine a_yes ?_ | refine a_sl ?_ | refine a_nop ?_ | refine a_prt ?_ | refine a_ex1 ?_ | refine a_for ?_ | refine a_sfor ?_ | refine a_iE1 ?_ | refine a_iEs ?_ | refine a_iEz ?_ | refine a_iEnum ?_ | refine a_iTup ?_ | refine a_iList ?_ | refine a_gcons ?_ | refine a_gnil ?_ | refine a_revT ?_ | refine a_spar3 ?_ | refine a_par3 ?_ | refine a_three ?_)
local macro_rules | `(tactic| walk_at "el2") => `(tactic| first
  | (refine a_var (by rfl) ?_)
  | (refine n_ixL (SqL.of (by assumption)) (by rfl) ?_) | (refine n_ixT (SqT.of (by assumption)) (by rfl) ?_) | (refine n_eq (by rfl) ?_) | (refine n_ne (by rfl) ?_)
  | (refine n_isN ?_) | (refine n_notN ?_) | (refine n_isB ?_) | (refine n_notB ?_) | (refine n_isBI ?_) | (refine n_notBI ?_) | (refine n_len (.inl (SqL.of (by assumption))) ?_) | (refine n_len (.inr (SqT.of (by assumption))) ?_)
  | (refine a_getL (SqL.of (by assumption)) (by rfl) ?_)
  | (refine n_isInt (by assumption) ?_) | (refine n_isBool (by assumption) ?_) | (refine n_isStr (by assumption) ?_) | (refine n_isTup (by assumption) ?_) | (refine n_isLst (by assumption) ?_))
local macro_rules | `(tactic| walk_at "el") => `(tactic| repeat (first | walk_at "el1" | walk_at "el2"))

/-! ### ways -/
/-- the gaps of a book, as numbers -/
structure GapsAre (K : Frag) (H : Hp) (g : Addr) (gs : List V) (G : List (Int × Int × Int)) : Prop where
  seq : SqA K H g gs
  len : gs.length = G.length
  at_ : ∀ (i : Nat) (v : V), gs[i]? = some v → ∃ (q : Addr) (x : Int × Int × Int), v = .ref q ∧ G[i]? = some x ∧ H q = some (.tup [.int x.1, .int x.2.1, .int x.2.2])
theorem GapsAre.same {K : Frag} {H H' : Hp} {g : Addr} {gs : List V} {G : List (Int × Int × Int)} (h : GapsAre K H g gs G) (s : Same H H') : GapsAre K H' g gs G :=
  ⟨h.seq.same s, h.len, fun i v hv => by
    obtain ⟨q, x, e, hx, hq⟩ := h.at_ i v hv
    exact ⟨q, x, e, hx, s _ _ hq⟩⟩
theorem num_int {x : V} (h : numB x = true) : ∃ n, x = .int n := by
  cases x with
  | int n => exact ⟨n, rfl⟩
  | _ => cases h
theorem item_gap_inv {H : Hp} {x : V} {ev wi : Int} (h : ItemOk .gap H x ev wi) : ∃ (q : Addr) (a e n : Int), x = .ref q ∧ H q = some (.tup [.int a, .int e, .int n]) ∧ 0 ≤ a ∧ a < ev ∧ 0 ≤ e ∧ e < ev ∧ e ≠ a := by
  obtain ⟨q, xs, rfl, hq, hl, hs⟩ := h
  match xs, hl with
  | [x0, x1, x2], _ =>
    have h0 : belowB x0 ev = true := by
      have z := hs 0 (by decide) "event" x0 rfl rfl
      unfold standB at z
      rw [if_neg (by decide), if_pos rfl] at z
      exact z
    have h1 : (belowB x1 ev && !decide (some x1 = [x0, x1, x2][1 - 1]?)) = true := by
      have z := hs 1 (by decide) "another event" x1 rfl rfl
      unfold standB at z
      rw [if_neg (by decide), if_neg (by decide), if_pos rfl] at z
      exact z
    have h2 : numB x2 = true := by
      have z := hs 2 (by decide) "number" x2 rfl rfl
      unfold standB at z
      rw [if_neg (by decide), if_neg (by decide), if_neg (by decide), if_neg (by decide), if_neg (by decide)] at z
      exact z
    rw [Bool.and_eq_true] at h1
    obtain ⟨a, rfl, a0, a1⟩ := below_int h0
    obtain ⟨e, rfl, e0, e1⟩ := below_int h1.1
    obtain ⟨n, rfl⟩ := num_int h2
    refine ⟨q, a, e, n, rfl, hq, a0, a1, e0, e1, fun z => ?_⟩
    have w := h1.2
    rw [z] at w
    simp at w
theorem gaps_of {H : Hp} {ev wi : Int} : ∀ (gs : List V), (∀ x ∈ gs, ItemOk .gap H x ev wi) → ∃ G : List (Int × Int × Int), gs.length = G.length ∧ (∀ x ∈ G, 0 ≤ x.1 ∧ x.1 < ev ∧ 0 ≤ x.2.1 ∧ x.2.1 < ev) ∧
    ∀ (i : Nat) (v : V), gs[i]? = some v → ∃ (q : Addr) (x : Int × Int × Int), v = .ref q ∧ G[i]? = some x ∧ H q = some (.tup [.int x.1, .int x.2.1, .int x.2.2])
  | [], _ => ⟨[], rfl, (fun _ h => nomatch h), fun i v h => by cases h⟩
  | y :: r, h => by
    obtain ⟨G, hl, hb, hG⟩ := gaps_of r fun x hx => h x (List.mem_cons_of_mem _ hx)
    obtain ⟨q, a, e, n, rfl, hq, a0, a1, e0, e1, _⟩ := item_gap_inv (h y (List.mem_cons_self ..))
    refine ⟨(a, e, n) :: G, by rw [List.length_cons, List.length_cons, hl], ?_, fun i v hv => ?_⟩
    · intro x hx
      rcases List.mem_cons.mp hx with rfl | hx
      · exact ⟨a0, a1, e0, e1⟩
      · exact hb x hx
    · cases i with
      | zero =>
        cases hv
        exact ⟨q, (a, e, n), rfl, rfl, hq⟩
      | succ i => exact hG i v hv
/-- one step further -/
def stepW (G : List (Int × Int × Int)) (here : Int) (v : V) : Option Int :=
  match v with
  | .int i => if 0 ≤ i ∧ i < G.length then (G[i.toNat]?).bind fun x => if x.1 = here then some x.2.1 else none else none
  | _ => none
def wayTo (G : List (Int × Int × Int)) (a : Int) (xs : List V) : Option Int := xs.foldl (fun o v => o.bind fun h => stepW G h v) (some a)
theorem way_snoc {G : List (Int × Int × Int)} {a : Int} {xs : List V} {v : V} : wayTo G a (xs ++ [v]) = (wayTo G a xs).bind fun h => stepW G h v := by
  unfold wayTo
  rw [List.foldl_append]
  rfl
theorem way_lost {G : List (Int × Int × Int)} : ∀ (xs : List V), xs.foldl (fun o v => o.bind fun h => stepW G h v) none = none
  | [] => rfl
  | _ :: r => way_lost r
theorem way_off {G : List (Int × Int × Int)} {a : Int} {xs ys : List V} (h : wayTo G a xs = none) : wayTo G a (xs ++ ys) = none := by
  unfold wayTo at h ⊢
  rw [List.foldl_append, h]
  exact way_lost ys
theorem step_off {G : List (Int × Int × Int)} {h : Int} {v : V} (q : belowB v G.length = false) : stepW G h v = none := by
  cases v with
  | int i =>
    have e : (decide (0 ≤ i) && decide (i < (G.length : Int))) = false := q
    show (if 0 ≤ i ∧ i < (G.length : Int) then _ else none) = none
    rw [if_neg]
    rintro ⟨a, b⟩
    rw [decide_eq_true a, decide_eq_true b] at e
    cases e
  | _ => rfl
theorem step_at {G : List (Int × Int × Int)} {h : Int} {j : Nat} {x : Int × Int × Int} (q : G[j]? = some x) : stepW G h (.int j) = if x.1 = h then some x.2.1 else none := by
  have l := (List.getElem?_eq_some_iff.mp q).1
  show (if 0 ≤ (j : Int) ∧ (j : Int) < (G.length : Int) then _ else none) = _
  rw [if_pos ⟨by omega, by omega⟩, Int.toNat_natCast, q]
  rfl
/-- a way between two events -/
def isWay (H : Hp) (G : List (Int × Int × Int)) (a b : Int) (x : V) : Prop := ∃ (q : Addr) (xs : List V), x = .ref q ∧ H q = some (.tup xs) ∧ wayTo G a xs = some b
def spWay (K : Frag) (C : Addr) : Sp := fun vs H Q _ => ∃ (bk dx : Addr) (ev wi : Int) (t g s c : Addr) (gs : List V) (G : List (Int × Int × Int)) (a b : Int) (x : V), vs = [.ref bk, .int a, .int b, x] ∧ H bk = some (bookO C dx ev wi t g s c) ∧ GapsAre K H g gs G ∧
  Th K H x ∧ (∀ q xs, x = .ref q → H q = some (.tup xs) → ∀ y ∈ xs, Th K H y) ∧ ∀ H' r, Same H H' → (r = true ↔ isWay H G a b x) → Q (.bl r) H'
section
variable {P : Program} {w : World} {K : Frag} {mg : Str → Option Value} {base : Heap} {f : Addr} {fd : FuncData} {C : Addr}
theorem ok_get_events (F : Fun K "events" "Book.events" s_Book_events f fd) (B : BkC K C) : FnOk P w K mg base CX0 1 f fd ["self"] (spGet C "_events") := by
  refine F.ok sc_Book_events (fun vs H Q E h => ?_) (fun cdv A outer s H vs Q E hr h => ?_)
  · obtain ⟨_, _, _, _, rfl, _⟩ := h
    rfl
  · obtain ⟨a, dx, fs, v, rfl, ha, hv, k⟩ := h
    refine ⟨_, (pss_one (ps_ret (pe_fld (pv 0) rfl))), ?_⟩
    walk_at "el"
    refine ⟨a, C, dx, fs, v, rfl, ha, B.own.cl, B.n0, hv, ?_⟩
    exact k
theorem ok_get_witnesses (F : Fun K "witnesses" "Book.witnesses" s_Book_witnesses f fd) (B : BkC K C) : FnOk P w K mg base CX0 1 f fd ["self"] (spGet C "_witnesses") := by
  refine F.ok sc_Book_witnesses (fun vs H Q E h => ?_) (fun cdv A outer s H vs Q E hr h => ?_)
  · obtain ⟨_, _, _, _, rfl, _⟩ := h
    rfl
  · obtain ⟨a, dx, fs, v, rfl, ha, hv, k⟩ := h
    refine ⟨_, (pss_one (ps_ret (pe_fld (pv 0) rfl))), ?_⟩
    walk_at "el"
    refine ⟨a, C, dx, fs, v, rfl, ha, B.own.cl, B.n1, hv, ?_⟩
    exact k
theorem ok_get_tellings (F : Fun K "tellings" "Book.tellings" s_Book_tellings f fd) (B : BkC K C) : FnOk P w K mg base CX0 1 f fd ["self"] (spGet C "_tellings") := by
  refine F.ok sc_Book_tellings (fun vs H Q E h => ?_) (fun cdv A outer s H vs Q E hr h => ?_)
  · obtain ⟨_, _, _, _, rfl, _⟩ := h
    rfl
  · obtain ⟨a, dx, fs, v, rfl, ha, hv, k⟩ := h
    refine ⟨_, (pss_one (ps_ret (pe_fld (pv 0) rfl))), ?_⟩
    walk_at "el"
    refine ⟨a, C, dx, fs, v, rfl, ha, B.own.cl, B.n2, hv, ?_⟩
    exact k
theorem ok_get_gaps (F : Fun K "gaps" "Book.gaps" s_Book_gaps f fd) (B : BkC K C) : FnOk P w K mg base CX0 1 f fd ["self"] (spGet C "_gaps") := by
  refine F.ok sc_Book_gaps (fun vs H Q E h => ?_) (fun cdv A outer s H vs Q E hr h => ?_)
  · obtain ⟨_, _, _, _, rfl, _⟩ := h
    rfl
  · obtain ⟨a, dx, fs, v, rfl, ha, hv, k⟩ := h
    refine ⟨_, (pss_one (ps_ret (pe_fld (pv 0) rfl))), ?_⟩
    walk_at "el"
    refine ⟨a, C, dx, fs, v, rfl, ha, B.own.cl, B.n3, hv, ?_⟩
    exact k
theorem ok_get_sure (F : Fun K "sure" "Book.sure" s_Book_sure f fd) (B : BkC K C) : FnOk P w K mg base CX0 1 f fd ["self"] (spGet C "_sure") := by
  refine F.ok sc_Book_sure (fun vs H Q E h => ?_) (fun cdv A outer s H vs Q E hr h => ?_)
  · obtain ⟨_, _, _, _, rfl, _⟩ := h
    rfl
  · obtain ⟨a, dx, fs, v, rfl, ha, hv, k⟩ := h
    refine ⟨_, (pss_one (ps_ret (pe_fld (pv 0) rfl))), ?_⟩
    walk_at "el"
    refine ⟨a, C, dx, fs, v, rfl, ha, B.own.cl, B.n4, hv, ?_⟩
    exact k
theorem ok_get_clauses (F : Fun K "clauses" "Book.clauses" s_Book_clauses f fd) (B : BkC K C) : FnOk P w K mg base CX0 1 f fd ["self"] (spGet C "_clauses") := by
  refine F.ok sc_Book_clauses (fun vs H Q E h => ?_) (fun cdv A outer s H vs Q E hr h => ?_)
  · obtain ⟨_, _, _, _, rfl, _⟩ := h
    rfl
  · obtain ⟨a, dx, fs, v, rfl, ha, hv, k⟩ := h
    refine ⟨_, (pss_one (ps_ret (pe_fld (pv 0) rfl))), ?_⟩
    walk_at "el"
    refine ⟨a, C, dx, fs, v, rfl, ha, B.own.cl, B.n5, hv, ?_⟩
    exact k
end
end EL

/- part N -/
namespace EL
open PySem PySem.Spec PyProof.Rows L2
open PySem.W (Frag)
abbrev s_number : Stmt := top 41
abbrev N_number : List Str := ["_law_bag_here", "_law_mode", "_law_small"]
theorem sc_number : FnScope N_number ["_law_bag_here"] (defScope s_number) := ⟨rfl, rfl, rfl, by decide +kernel, rfl, by decide +kernel, by decide +kernel⟩
abbrev s_kind : Stmt := top 42
abbrev N_kind : List Str := ["_law_bag_here"]
theorem sc_kind : FnScope N_kind ["_law_bag_here"] (defScope s_kind) := ⟨rfl, rfl, rfl, by decide +kernel, rfl, by decide +kernel, by decide +kernel⟩
abbrev s_parts : Stmt := top 43
abbrev N_parts : List Str := ["_law_bag_here", "_law_events", "_law_witnesses", "_law_most", "_law_parts_here", "_law_k", "_law_a", "_law_pair"]
theorem sc_parts : FnScope N_parts ["_law_bag_here", "_law_events", "_law_witnesses", "_law_most"] (defScope s_parts) := ⟨rfl, rfl, rfl, by decide +kernel, rfl, by decide +kernel, by decide +kernel⟩
local macro_rules | `(tactic| walk_at "el1") => `(tactic| with_reducible first
  | refine a_sasg ?_ | refine a_sdrop ?_ | refine a_saugS ?_ | refine a_spar ?_ | refine a_seq ?_ | refine a_asg ?_ | refine a_drop ?_ | refine a_ret ?_ | refine a_if ?_ | refine a_next ?_
  | refine a_op ?_ | refine a_cons ?_ | refine a_nil ?_ | refine a_cb ?_ | refine a_call ?_ | refine a_c ?_ | refine a_gn ?_ | refine a_nx ?_ | refine a_rt ?_ | refine a_un ?_
  | refine a_test ?_ | refine a_B ?_ | refine a_bl ?_ | refine a_and ?_ | refine a_or ?_ | refine a_not ?_ | refine a_andV ?_ | refine a_orV ?_ | refine a_notV ?_ | refine a_ifx ?_ | refine a_chain ?_
  | refine a_nT ?_ | refine a_nF ?_ | refine a_fld ?_ | refine a_getF ?_ | refine a_T ?_ | refine a_F ?_ | refine a_tup ?_ | refine a_lst ?_ | refine a_sub ?_ | refine a_augS ?_ | refine a_two ?_ | refine a_I0 ?_ | refine a_U ?_ | refine n_add ?_ | refine n_int ?_ | refine n_ib ?_ | refine a_ip ?_ | refine a_rng1 ?_ | refine a_rng2 ?_ | refine a_bm ?_ | refine a_abs ?_ | refine a_pairs ?_ | refine a_pairs0 ?_ | refine a_bk ?_ | refine a_prp ?_ | refine a_lc ?_ | refine a_yes ?_ | refine a_sl ?_ | refine a_nop ?_ | refine a_prt ?_ | refine a_ex1 ?_ | refine a_for ?_ | refine a_sfor ?_ | refine a_iE1 ?_ | refine a_iEs ?_ | refine a_iEz ?_ | refine a_iEnum ?_ | refine a_iTup ?_ | refine a_iList ?_ | refine a_gcons ?_ | refine a_gnil ?_ | refine a_revT ?_ | refine a_spar3 ?_ | refine a_par3 ?_ | refine a_three ?_)
local macro_rules | `(tactic| walk_at "el2") => `(tactic| first
  | (refine a_var (by rfl) ?_)
  | (refine n_ixL (SqL.of (by assumption)) (by rfl) ?_) | (refine n_ixT (SqT.of (by assumption)) (by rfl) ?_) | (refine n_eq (by rfl) ?_) | (refine n_ne (by rfl) ?_)
  | (refine n_isN ?_) | (refine n_notN ?_) | (refine n_isB ?_) | (refine n_notB ?_) | (refine n_isBI ?_) | (refine n_notBI ?_) | (refine n_len (.inl (SqL.of (by assumption))) ?_) | (refine n_len (.inr (SqT.of (by assumption))) ?_)
  | (refine a_getL (SqL.of (by assumption)) (by rfl) ?_)
  | (refine n_isInt (by assumption) ?_) | (refine n_isBool (by assumption) ?_) | (refine n_isStr (by assumption) ?_) | (refine n_isTup (by assumption) ?_) | (refine n_isLst (by assumption) ?_))
local macro_rules | `(tactic| walk_at "el") => `(tactic| repeat (first | walk_at "el1" | walk_at "el2"))

/-! ### numbers, kinds, parts as a law draws them -/
def spNum : Sp := fun vs H Q _ => ∃ b c, vs = [.ref b] ∧ Bag H b c ∧ ∀ (r : Int) H', -1000000000000 ≤ r → r ≤ 1000000000000 → Bag H' b c → Kp b H H' → Q (.int r) H'
def spKnd : Sp := fun vs H Q _ => ∃ b c, vs = [.ref b] ∧ Bag H b c ∧ ∀ (s : Str) H', s = "early" ∨ s = "late" → Bag H' b c → Kp b H H' → Q (.str s) H'
/-- the lists of four parts, new since H0 -/
structure PSt (b c p : Addr) (l : Pt → Addr) (H0 : Hp) : Prop where
  inj : ∀ t u, t ≠ u → l t ≠ l u
  lb : ∀ t, l t ≠ b
  lc : ∀ t, l t ≠ c
  pl : ∀ t, p ≠ l t
  pb : p ≠ b
  fl : ∀ t, H0 (l t) = none
  fp : H0 p = none
/-- no number in an item is near the end of the numbers -/
def Below (H : Hp) (x : V) : Prop := ∀ (q : Addr) (ys : List V) (n : Int), x = .ref q → H q = some (.tup ys) → V.int n ∈ ys → -10000000000000 ≤ n ∧ n ≤ 10000000000000
/-- the number of a gap is small -/
def GapSm (H : Hp) (x : V) : Prop := ∀ (q : Addr) (a e : V) (n : Int), x = .ref q → H q = some (.tup [a, e, .int n]) → -4 ≤ n ∧ n ≤ 4
structure PIv (b c p : Addr) (l : Pt → Addr) (H0 H : Hp) (ev wi : Int) (xs : Pt → List V) : Prop where
  bag : Bag H b c
  kp : Kp b H0 H
  hp : H p = some (.lst [.ref (l .tel), .ref (l .gap), .ref (l .sur), .ref (l .cla)])
  hl : ∀ t, H (l t) = some (.lst (xs t))
  it : ∀ t, ∀ x ∈ xs t, ItemOk t H x ev wi
  nb : ∀ t, ∀ x ∈ xs t, Below H x
  ng : ∀ x ∈ xs .gap, GapSm H x
theorem GapSm.of {H H' : Hp} {x : V} (h : GapSm H x) (hi : ∃ a ys, x = .ref a ∧ H a = some (.tup ys) ∧ H' a = some (.tup ys)) : GapSm H' x := fun q a e n ex hq => by
  obtain ⟨a', zs, ex', h1, h2⟩ := hi
  cases (ex'.symm.trans ex)
  rw [h2] at hq
  cases hq
  exact h _ _ _ n ex h1
theorem gapsm3 {H : Hp} {q : Addr} {a e x : Int} (hx : -4 ≤ x ∧ x ≤ 4) : GapSm (upd H q (.tup [.int a, .int e, .int x])) (.ref q) := fun q' a' e' n e hq => by
  cases e
  rw [upd_same] at hq
  cases hq
  exact hx
theorem Below.of {H H' : Hp} {x : V} (h : Below H x) (hi : ∃ a ys, x = .ref a ∧ H a = some (.tup ys) ∧ H' a = some (.tup ys)) : Below H' x := fun q ys n e hq hn => by
  obtain ⟨a, zs, ex, h1, h2⟩ := hi
  cases (ex.symm.trans e)
  rw [h2] at hq
  cases hq
  exact h _ _ n e h1 hn
theorem below_tup {H : Hp} {q : Addr} {ys : List V} (hq : H q = some (.tup ys)) (h : ∀ n, V.int n ∈ ys → -10000000000000 ≤ n ∧ n ≤ 10000000000000) : Below H (.ref q) := fun q' zs n e hq' hn => by
  cases e
  rw [hq] at hq'
  cases hq'
  exact h n hn
theorem below3 {H : Hp} {q : Addr} {a e x : Int} (ha : 0 ≤ a ∧ a ≤ 8) (he : 0 ≤ e ∧ e ≤ 8) (hx : -10000000000000 ≤ x ∧ x ≤ 10000000000000) : Below (upd H q (.tup [.int a, .int e, .int x])) (.ref q) := below_tup upd_same fun n hn => by
  rcases List.mem_cons.mp hn with z | hn
  · cases z; omega
  rcases List.mem_cons.mp hn with z | hn
  · cases z; omega
  cases List.mem_singleton.mp hn
  exact hx
theorem belowS {H : Hp} {q : Addr} {a x : Int} {s : Str} (ha : 0 ≤ a ∧ a ≤ 8) (hx : -10000000000000 ≤ x ∧ x ≤ 10000000000000) : Below (upd H q (.tup [.int a, .str s, .int x])) (.ref q) := below_tup upd_same fun n hn => by
  rcases List.mem_cons.mp hn with z | hn
  · cases z; omega
  rcases List.mem_cons.mp hn with z | hn
  · cases z
  cases List.mem_singleton.mp hn
  exact hx
theorem belowC {H : Hp} {q : Addr} {a v : Int} {s r : Str} (ha : 0 ≤ a ∧ a ≤ 8) (hv : 0 ≤ v ∧ v ≤ 8) : Below (upd H q (.tup [.int a, .str s, .int v, .str r])) (.ref q) := below_tup upd_same fun n hn => by
  rcases List.mem_cons.mp hn with z | hn
  · cases z; omega
  rcases List.mem_cons.mp hn with z | hn
  · cases z
  rcases List.mem_cons.mp hn with z | hn
  · cases z; omega
  cases List.mem_singleton.mp hn
theorem ItemOk.kp {t : Pt} {b c : Addr} {H H' : Hp} {x : V} {ev wi : Int} (h : ItemOk t H x ev wi) (hb : Bag H b c) (k : Kp b H H') : ItemOk t H' x ev wi := by
  obtain ⟨a, xs, rfl, ha, hl, hs⟩ := h
  refine ⟨a, xs, rfl, k _ _ (fun z => ?_) ha, hl, hs⟩
  subst z
  obtain ⟨_, _, _, _, q, _⟩ := hb
  rw [q] at ha
  cases ha
theorem ItemOk.lst {t : Pt} {a : Addr} {ys zs : List V} {H : Hp} {x : V} {ev wi : Int} (h : ItemOk t H x ev wi) (hb : H a = some (.lst ys)) : ItemOk t (upd H a (.lst zs)) x ev wi := by
  obtain ⟨c, xs, rfl, ha, hl, hs⟩ := h
  refine ⟨c, xs, rfl, ?_, hl, hs⟩
  rw [upd_ne (fun z => by subst z; rw [hb] at ha; cases ha)]
  exact ha
theorem PIv.kp' {b c p : Addr} {l : Pt → Addr} {H0 H H' : Hp} {ev wi : Int} {xs : Pt → List V} (S : PSt b c p l H0) (h : PIv b c p l H0 H ev wi xs) (hb : Bag H' b c) (k : Kp b H H') : PIv b c p l H0 H' ev wi xs :=
  ⟨hb, h.kp.trans k, k _ _ S.pb h.hp, fun t => k _ _ (S.lb t) (h.hl t), fun t x hx => (h.it t x hx).kp h.bag k, fun t x hx => (h.nb t x hx).of (by
    obtain ⟨a, ys, e, ha, _, _⟩ := h.it t x hx
    refine ⟨a, ys, e, ha, k _ _ (fun z => ?_) ha⟩
    subst z
    obtain ⟨_, _, _, _, q, _⟩ := h.bag
    rw [q] at ha
    cases ha), fun x hx => (h.ng x hx).of (by
    obtain ⟨a, ys, e, ha, _, _⟩ := h.it .gap x hx
    refine ⟨a, ys, e, ha, k _ _ (fun z => ?_) ha⟩
    subst z
    obtain ⟨_, _, _, _, q, _⟩ := h.bag
    rw [q] at ha
    cases ha)⟩
theorem PIv.nw {b c p : Addr} {l : Pt → Addr} {H0 H H' : Hp} {ev wi : Int} {xs : Pt → List V} (S : PSt b c p l H0) (h : PIv b c p l H0 H ev wi xs) (s : Same H H') : PIv b c p l H0 H' ev wi xs := h.kp' S (h.bag.same s) (same_kp s)
def setP (xs : Pt → List V) (t : Pt) (ys : List V) : Pt → List V := fun u => if u = t then ys else xs u
theorem setP_at {xs : Pt → List V} {t : Pt} {ys : List V} : setP xs t ys t = ys := if_pos rfl
theorem setP_ne {xs : Pt → List V} {t u : Pt} {ys : List V} (h : u ≠ t) : setP xs t ys u = xs u := if_neg h
theorem PIv.app {b c p : Addr} {l : Pt → Addr} {H0 H : Hp} {ev wi : Int} {xs : Pt → List V} (S : PSt b c p l H0) (h : PIv b c p l H0 H ev wi xs) (t : Pt) {x : V} (hx : ItemOk t H x ev wi) (hn : Below H x) (hg : t = .gap → GapSm H x) : PIv b c p l H0 (upd H (l t) (.lst (xs t ++ [x]))) ev wi (setP xs t (xs t ++ [x])) := by
  refine ⟨?_, h.kp.mut (S.fl t), by rw [upd_ne (S.pl t)]; exact h.hp, fun u => ?_, fun u y hy => ?_, fun u y hy => ?_, fun y hy => ?_⟩
  · obtain ⟨i, j, n, cs, h1, h2, r⟩ := h.bag
    exact ⟨i, j, n, cs, by rw [upd_ne (S.lb t).symm]; exact h1, by rw [upd_ne (S.lc t).symm]; exact h2, r⟩
  · by_cases e : u = t
    · subst e
      rw [upd_same, setP_at]
    · rw [upd_ne (S.inj u t e), setP_ne e]
      exact h.hl u
  · by_cases e : u = t
    · subst e
      rw [setP_at] at hy
      rcases List.mem_append.mp hy with q | q
      · exact (h.it u y q).lst (h.hl u)
      · cases List.mem_singleton.mp q
        exact hx.lst (h.hl u)
    · rw [setP_ne e] at hy
      exact (h.it u y hy).lst (h.hl t)
  · have mv : ∀ {v : V} {w : Pt}, ItemOk w H v ev wi → Below H v → Below (upd H (l t) (.lst (xs t ++ [x]))) v := fun {v w} hi hb => hb.of (by
      obtain ⟨a, ys, e, ha, _, _⟩ := hi
      refine ⟨a, ys, e, ha, ?_⟩
      rw [upd_ne (fun z => by rw [z, h.hl t] at ha; cases ha)]
      exact ha)
    by_cases e : u = t
    · subst e
      rw [setP_at] at hy
      rcases List.mem_append.mp hy with q | q
      · exact mv (h.it u y q) (h.nb u y q)
      · cases List.mem_singleton.mp q
        exact mv hx hn
    · rw [setP_ne e] at hy
      exact mv (h.it u y hy) (h.nb u y hy)
  · have mv : ∀ {v : V} {w : Pt}, ItemOk w H v ev wi → GapSm H v → GapSm (upd H (l t) (.lst (xs t ++ [x]))) v := fun {v w} hi hb => hb.of (by
      obtain ⟨a, ys, e, ha, _, _⟩ := hi
      refine ⟨a, ys, e, ha, ?_⟩
      rw [upd_ne (fun z => by rw [z, h.hl t] at ha; cases ha)]
      exact ha)
    by_cases e : Pt.gap = t
    · subst e
      rw [setP_at] at hy
      rcases List.mem_append.mp hy with q | q
      · exact mv (h.it .gap y q) (h.ng y q)
      · cases List.mem_singleton.mp q
        exact mv hx (hg rfl)
    · rw [setP_ne e] at hy
      exact mv (h.it .gap y hy) (h.ng y hy)
def spParts : Sp := fun vs H Q _ => ∃ (ev wi most : Int) (b c : Addr), vs = [.ref b, .int ev, .int wi, .int most] ∧ Bag H b c ∧ 0 ≤ ev ∧ ev ≤ 8 ∧ 0 ≤ wi ∧ wi ≤ 8 ∧ 0 ≤ most ∧ most ≤ 1000 ∧
  ∀ p l H' xs, PSt b c p l H → PIv b c p l H H' ev wi xs → ((xs .tel).length : Int) ≤ most → ((xs .gap).length : Int) ≤ most / 2 + 1 → (xs .sur).length ≤ 3 → (xs .cla).length ≤ 3 → Q (.ref p) H'
def lOf (l0 l1 l2 l3 : Addr) : Pt → Addr | .tel => l0 | .gap => l1 | .sur => l2 | .cla => l3
theorem parts_start {b c l0 l1 l2 l3 p : Addr} {H : Hp} {ev wi : Int} (hb : Bag H b c) (h0 : H l0 = none) (h1 : upd H l0 (.lst []) l1 = none) (h2 : upd (upd H l0 (.lst [])) l1 (.lst []) l2 = none) (h3 : upd (upd (upd H l0 (.lst [])) l1 (.lst [])) l2 (.lst []) l3 = none)
    (hp : upd (upd (upd (upd H l0 (.lst [])) l1 (.lst [])) l2 (.lst [])) l3 (.lst []) p = none) :
    PSt b c p (lOf l0 l1 l2 l3) H ∧ PIv b c p (lOf l0 l1 l2 l3) H (upd (upd (upd (upd (upd H l0 (.lst [])) l1 (.lst [])) l2 (.lst [])) l3 (.lst [])) p (.lst [.ref l0, .ref l1, .ref l2, .ref l3])) ev wi (fun _ => []) := by
  obtain ⟨n10, h1⟩ := nn h1
  obtain ⟨n21, h2⟩ := nn h2
  obtain ⟨n20, h2⟩ := nn h2
  obtain ⟨n32, h3⟩ := nn h3
  obtain ⟨n31, h3⟩ := nn h3
  obtain ⟨n30, h3⟩ := nn h3
  obtain ⟨m3, hp⟩ := nn hp
  obtain ⟨m2, hp⟩ := nn hp
  obtain ⟨m1, hp⟩ := nn hp
  obtain ⟨m0, hp⟩ := nn hp
  have hc : ∀ q, H q = none → q ≠ c := fun q h z => by
    obtain ⟨_, _, _, _, _, w, _⟩ := hb
    subst z
    rw [w] at h
    cases h
  refine ⟨⟨?_, ?_, ?_, ?_, hb.ne hp, ?_, hp⟩, ⟨?_, ?_, upd_same, ?_, fun t x h => (nomatch h), fun t x h => (nomatch h), fun x h => (nomatch h)⟩⟩
  · intro t u h
    cases t <;> cases u <;> first | exact absurd rfl h | assumption | exact Ne.symm (by assumption)
  · intro t
    cases t
    · exact hb.ne h0
    · exact hb.ne h1
    · exact hb.ne h2
    · exact hb.ne h3
  · intro t
    cases t
    · exact hc _ h0
    · exact hc _ h1
    · exact hc _ h2
    · exact hc _ h3
  · intro t
    cases t <;> assumption
  · intro t
    cases t <;> assumption
  · obtain ⟨i, j, n, cs, w1, w2, r⟩ := hb
    have q : ∀ a o, H a = some o → upd (upd (upd (upd (upd H l0 (.lst [])) l1 (.lst [])) l2 (.lst [])) l3 (.lst [])) p (.lst [.ref l0, .ref l1, .ref l2, .ref l3]) a = some o := fun a o h => by
      rw [upd_ne (ne_of_none h hp), upd_ne (ne_of_none h h3), upd_ne (ne_of_none h h2), upd_ne (ne_of_none h h1), upd_ne (ne_of_none h h0)]
      exact h
    exact ⟨i, j, n, cs, q _ _ w1, q _ _ w2, r⟩
  · intro a o _ h
    rw [upd_ne (ne_of_none h hp), upd_ne (ne_of_none h h3), upd_ne (ne_of_none h h2), upd_ne (ne_of_none h h1), upd_ne (ne_of_none h h0)]
    exact h
  · intro t
    cases t
    · show upd _ _ _ l0 = _
      rw [upd_ne m0.symm, upd_ne n30.symm, upd_ne n20.symm, upd_ne n10.symm, upd_same]
    · show upd _ _ _ l1 = _
      rw [upd_ne m1.symm, upd_ne n31.symm, upd_ne n21.symm, upd_same]
    · show upd _ _ _ l2 = _
      rw [upd_ne m2.symm, upd_ne n32.symm, upd_same]
    · show upd _ _ _ l3 = _
      rw [upd_ne m3.symm, upd_same]
theorem stands3 {p : Pt} {x0 x1 x2 : V} {w0 w1 w2 : Str} {ev wi : Int} (hf : p.form = [w0, w1, w2]) (h0 : standB w0 [x0, x1, x2] 0 x0 ev wi = true) (h1 : standB w1 [x0, x1, x2] 1 x1 ev wi = true) (h2 : standB w2 [x0, x1, x2] 2 x2 ev wi = true) : StandsTo p [x0, x1, x2] ev wi p.form.length := by
  intro j hj wd x hw hx
  rw [hf] at hw hj
  rcases j with _ | _ | _ | j
  · cases hw; cases hx; exact h0
  · cases hw; cases hx; exact h1
  · cases hw; cases hx; exact h2
  · simp only [List.length_cons, List.length_nil] at hj; omega
theorem num_true {i : Int} (h0 : -1000000000000000 ≤ i) (h1 : i ≤ 1000000000000000) : numB (.int i) = true := by
  show (decide _ && decide _) = true
  rw [decide_eq_true h0, decide_eq_true h1]
  rfl
section
variable {xs : List V} {i : Nat} {x : V} {ev wi : Int}
theorem st_w : standB "witness" xs i x ev wi = belowB x wi := by unfold standB; rw [if_pos rfl]
theorem st_e : standB "event" xs i x ev wi = belowB x ev := by unfold standB; rw [if_neg (by decide), if_pos rfl]
theorem st_a : standB "another event" xs i x ev wi = (belowB x ev && !decide (some x = xs[i - 1]?)) := by unfold standB; rw [if_neg (by decide), if_neg (by decide), if_pos rfl]
theorem st_s : standB "side" xs i x ev wi = sideB x := by unfold standB; rw [if_neg (by decide), if_neg (by decide), if_neg (by decide), if_pos rfl]
theorem st_k : standB "kind" xs i x ev wi = kindB x := by unfold standB; rw [if_neg (by decide), if_neg (by decide), if_neg (by decide), if_neg (by decide), if_pos rfl]
theorem st_n : standB "number" xs i x ev wi = numB x := by unfold standB; rw [if_neg (by decide), if_neg (by decide), if_neg (by decide), if_neg (by decide), if_neg (by decide)]
end
theorem item_tel {H : Hp} {q : Addr} {ev wi a e x : Int} (h : H q = some (.tup [.int a, .int e, .int x])) (a0 : 0 ≤ a) (a1 : a < wi) (e0 : 0 ≤ e) (e1 : e < ev) (x0 : -1000000000000000 ≤ x) (x1 : x ≤ 1000000000000000) : ItemOk .tel H (.ref q) ev wi :=
  ⟨q, _, rfl, h, rfl, stands3 rfl (st_w.trans (below_true a0 a1)) (st_e.trans (below_true e0 e1)) (st_n.trans (num_true x0 x1))⟩
theorem item_gap {H : Hp} {q : Addr} {ev wi a e x : Int} (h : H q = some (.tup [.int a, .int e, .int x])) (a0 : 0 ≤ a) (a1 : a < ev) (e0 : 0 ≤ e) (e1 : e < ev) (ne : e ≠ a) (x0 : -1000000000000000 ≤ x) (x1 : x ≤ 1000000000000000) : ItemOk .gap H (.ref q) ev wi :=
  ⟨q, _, rfl, h, rfl, stands3 rfl (st_e.trans (below_true a0 a1)) (st_a.trans (by
    rw [below_true e0 e1, Bool.true_and, decide_eq_false]
    · rfl
    · intro z
      cases z
      exact ne rfl)) (st_n.trans (num_true x0 x1))⟩
theorem item_sur {H : Hp} {q : Addr} {ev wi a x : Int} {s : Str} (h : H q = some (.tup [.int a, .str s, .int x])) (a0 : 0 ≤ a) (a1 : a < ev) (hs : s = "least" ∨ s = "most") (x0 : -1000000000000000 ≤ x) (x1 : x ≤ 1000000000000000) : ItemOk .sur H (.ref q) ev wi :=
  ⟨q, _, rfl, h, rfl, stands3 rfl (st_e.trans (below_true a0 a1)) (st_s.trans (by rcases hs with rfl | rfl <;> decide)) (st_n.trans (num_true x0 x1))⟩
theorem item_cla {H : Hp} {q : Addr} {ev wi a v : Int} {s r : Str} (h : H q = some (.tup [.int a, .str s, .int v, .str r])) (a0 : 0 ≤ a) (a1 : a < wi) (hs : s = "early" ∨ s = "late") (v0 : 0 ≤ v) (v1 : v < wi) (hr : r = "early" ∨ r = "late") : ItemOk .cla H (.ref q) ev wi := by
  refine ⟨q, _, rfl, h, rfl, ?_⟩
  intro j hj wd x hw hx
  rcases j with _ | _ | _ | _ | j
  · cases hw; cases hx; exact st_w.trans (below_true a0 a1)
  · cases hw; cases hx; exact st_k.trans (by rcases hs with rfl | rfl <;> decide)
  · cases hw; cases hx; exact st_w.trans (below_true v0 v1)
  · cases hw; cases hx; exact st_k.trans (by rcases hr with rfl | rfl <;> decide)
  · exact absurd hj (by show ¬ (j + 1 + 1 + 1 + 1 < 4); omega)
theorem gap_ne {a t ev : Int} (a0 : 0 ≤ a) (a1 : a < ev) (t0 : 0 ≤ t) (t1 : t < ev - 1) (e8 : ev ≤ 8) : (a + 1 + t) % ev ≠ a := by
  have h : ev = 2 ∨ ev = 3 ∨ ev = 4 ∨ ev = 5 ∨ ev = 6 ∨ ev = 7 ∨ ev = 8 := by omega
  rcases h with rfl | rfl | rfl | rfl | rfl | rfl | rfl <;> omega
theorem pos2 {x y : Int} (x0 : 0 ≤ x) (y0 : 0 ≤ y) (h : 0 < x * y) : 0 < x ∧ 0 < y := by
  constructor
  · rcases Int.lt_or_eq_of_le x0 with q | q
    · exact q
    · rw [← q, Int.zero_mul] at h; omega
  · rcases Int.lt_or_eq_of_le y0 with q | q
    · exact q
    · rw [← q, Int.mul_zero] at h; omega
theorem size1k {n : Nat} (h : n ≤ 1001) : n < sizeLine := Nat.lt_of_le_of_lt h (by decide)
theorem mul8 {x y : Int} (x0 : 0 ≤ x) (x8 : x ≤ 8) (y0 : 0 ≤ y) (y8 : y ≤ 8) : CMul x y := .inl ⟨by omega, by omega⟩
theorem cnt01 {r : Int} {p : Prop} [Decidable p] (h0 : 0 ≤ r) : 0 ≤ r * (if decide p = true then 1 else 0) ∧ r * (if decide p = true then 1 else 0) ≤ r ∧ (0 < r * (if decide p = true then 1 else 0) → p) := by
  by_cases h : p
  · rw [if_pos (decide_eq_true h)]
    exact ⟨by omega, by omega, fun _ => h⟩
  · rw [if_neg (by rw [decide_eq_false h]; exact Bool.false_ne_true)]
    exact ⟨by omega, by omega, fun z => absurd z (by omega)⟩
section
variable {P : Program} {w : World} {K : Frag} {mg : Str → Option Value} {base : Heap} {f : Addr} {fd : FuncData}
theorem ok_number (F : Fun K "_law_number" "_law_number" s_number f fd) (T : Tb mg) (c_take : Cal P w K mg base CX0 1 "_law_take" ["_law_bag_here", "_law_many"] spTake) : FnOk P w K mg base CX0 2 f fd ["_law_bag_here"] spNum := by
  refine F.ok sc_number (fun vs H Q E h => ?_) (fun cdv A outer s H vs Q E hr h => ?_)
  · obtain ⟨_, _, rfl, _⟩ := h
    rfl
  · obtain ⟨b, c, rfl, hb, k⟩ := h
    refine ⟨_, (pss_cons (ps_par (i := 1) (j := 2) rfl sc_number.nd rfl rfl (by decide) rfl rfl (pa_cons (pe_cal c_take (hr.mono (by decide)) pass0 (pa_cons (pv 0) (pa_cons pe_int pa_nil))) (pa_cons (pe_op op_sub (pe_cal c_take (hr.mono (by decide)) pass0 (pa_cons (pv 0) (pa_cons pe_int pa_nil))) pe_int) pa_nil)) (by with_unfolding_all rfl))
  (pss_cons (ps_if (pt_cmpR op_lt (pv 1) pe_int (nomark _))
    (pss_one (ps_ret (pv 2)))
    pss_nil)
  (pss_one (ps_ret (pe_ifExp (pt_cmpR (u_eq hr.units) (pv 1) pe_int (nomark _)) (pe_op u_add pe_int (pv 2)) (pe_op op_sub (pv 2) pe_int)))))), ?_⟩
    walk_at "el"
    refine ⟨b, c, 10, rfl, hb, by decide, by decide, fun r1 H1 _ _ hb1 k1 => ?_⟩
    walk_at "el"
    refine ⟨b, c, 12, rfl, hb1, by decide, by decide, fun r2 H2 _ _ hb2 k2 => ?_⟩
    have k12 := k1.trans k2
    walk_at "el"
    refine ite2 (fun h0 => ?_) (fun h0 => ?_)
    · walk_at "el"
      exact k _ _ (by omega) (by omega) hb2 k12
    · walk_at "el"
      refine ite2 (fun h0 => ?_) (fun h0 => ?_)
      · walk_at "el"
        exact k _ _ (by omega) (by omega) hb2 k12
      · walk_at "el"
        exact k _ _ (by omega) (by omega) hb2 k12
theorem ok_kind (F : Fun K "_law_kind" "_law_kind" s_kind f fd) (T : Tb mg) (c_take : Cal P w K mg base CX0 1 "_law_take" ["_law_bag_here", "_law_many"] spTake) : FnOk P w K mg base CX0 2 f fd ["_law_bag_here"] spKnd := by
  refine F.ok sc_kind (fun vs H Q E h => ?_) (fun cdv A outer s H vs Q E hr h => ?_)
  · obtain ⟨_, _, rfl, _⟩ := h
    rfl
  · obtain ⟨b, c, rfl, hb, k⟩ := h
    refine ⟨_, (pss_one (ps_ret (pe_ix ix_seq (pe_lst (pa_cons pe_str (pa_cons pe_str pa_nil))) (pe_cal c_take (hr.mono (by decide)) pass0 (pa_cons (pv 0) (pa_cons pe_int pa_nil))) (fun _ _ => rfl)))), ?_⟩
    walk_at "el"
    refine ⟨by decide, fun p hp => ?_⟩
    have e1 := nw_of hp
    have n1 := hb.ne hp
    walk_at "el"
    refine ⟨b, c, 2, rfl, hb.same (e1 _), by decide, by decide, fun r1 H1 r0 r2 hb1 k1 => ?_⟩
    have hp1 := k1 _ _ n1 upd_same
    have r3 : r1 = 0 ∨ r1 = 1 := by omega
    have kF : Kp b H H1 := Kp.into k1 (e1 _)
    rcases r3 with rfl | rfl
    · walk_at "el"
      exact k _ _ (.inl rfl) hb1 kF
    · walk_at "el"
      exact k _ _ (.inr rfl) hb1 kF
theorem ok_parts (F : Fun K "_law_parts" "_law_parts" s_parts f fd) (T : Tb mg) (c_take : Cal P w K mg base CX0 1 "_law_take" ["_law_bag_here", "_law_many"] spTake) (c_number : Cal P w K mg base CX0 2 "_law_number" ["_law_bag_here"] spNum) (c_kind : Cal P w K mg base CX0 2 "_law_kind" ["_law_bag_here"] spKnd) : FnOk P w K mg base CX0 3 f fd ["_law_bag_here", "_law_events", "_law_witnesses", "_law_most"] spParts := by
  refine F.ok sc_parts (fun vs H Q E h => ?_) (fun cdv A outer s H vs Q E hr h => ?_)
  · obtain ⟨_, _, _, _, _, rfl, _⟩ := h
    rfl
  · obtain ⟨ev, wi, most, b, c, rfl, hb, ev0, ev8, wi0, wi8, m0, m1, k⟩ := h
    refine ⟨_, (pss_cons (ps_set (i := 4) sc_parts.nd rfl (Or.inl rfl) (pe_lst (pa_cons (pe_lst pa_nil) (pa_cons (pe_lst pa_nil) (pa_cons (pe_lst pa_nil) (pa_cons (pe_lst pa_nil) pa_nil))))))
  (pss_cons (ps_for PassesOwn.never rfl (pi_range1 rfl T.b.range_ (pa_cons (pe_op u_mul (pe_cal c_take (hr.mono (by decide)) pass0 (pa_cons (pv 0) (pa_cons (pe_op u_add (pv 3) pe_int) pa_nil))) (pe_callTy u_int rfl T.b.int_ (by decide +kernel) (pa_cons (pe_cmpR op_gt (pe_op u_mul (pv 1) (pv 2)) pe_int (nomark _)) pa_nil))) pa_nil)) (pg_name (i := 5) sc_parts.nd rfl (Or.inl rfl))
    (pss_one (ps_expr (pe_bm PySem.F.plainAttrs_list PySem.F.slot_list_append PySem.F.type_list_append mt_append (pe_ix ix_seq (pv 4) pe_int (fun _ _ => rfl)) (pa_cons (pe_tup (pa_cons (pe_cal c_take (hr.mono (by decide)) pass0 (pa_cons (pv 0) (pa_cons (pv 2) pa_nil))) (pa_cons (pe_cal c_take (hr.mono (by decide)) pass0 (pa_cons (pv 0) (pa_cons (pv 1) pa_nil))) (pa_cons (pe_cal c_number (hr.mono (by decide)) pass0 (pa_cons (pv 0) pa_nil)) pa_nil)))) pa_nil)))))
  (pss_cons (ps_for PassesOwn.never rfl (pi_range1 rfl T.b.range_ (pa_cons (pe_op u_mul (pe_cal c_take (hr.mono (by decide)) pass0 (pa_cons (pv 0) (pa_cons (pe_op u_add (pe_op op_fdiv (pv 3) pe_int) pe_int) pa_nil))) (pe_callTy u_int rfl T.b.int_ (by decide +kernel) (pa_cons (pe_cmpR op_gt (pv 1) pe_int (nomark _)) pa_nil))) pa_nil)) (pg_name (i := 5) sc_parts.nd rfl (Or.inl rfl))
    (pss_cons (ps_set (i := 6) sc_parts.nd rfl (Or.inl rfl) (pe_cal c_take (hr.mono (by decide)) pass0 (pa_cons (pv 0) (pa_cons (pv 1) pa_nil))))
  (pss_one (ps_expr (pe_bm PySem.F.plainAttrs_list PySem.F.slot_list_append PySem.F.type_list_append mt_append (pe_ix ix_seq (pv 4) pe_int (fun _ _ => rfl)) (pa_cons (pe_tup (pa_cons (pv 6) (pa_cons (pe_op op_mod (pe_callTy u_int rfl T.b.int_ (by decide +kernel) (pa_cons (pe_op u_add (pe_op u_add (pv 6) pe_int) (pe_cal c_take (hr.mono (by decide)) pass0 (pa_cons (pv 0) (pa_cons (pe_op op_sub (pv 1) pe_int) pa_nil)))) pa_nil)) (pv 1)) (pa_cons (pe_op op_sub (pe_cal c_take (hr.mono (by decide)) pass0 (pa_cons (pv 0) (pa_cons pe_int pa_nil))) pe_int) pa_nil)))) pa_nil))))))
  (pss_cons (ps_for PassesOwn.never rfl (pi_range1 rfl T.b.range_ (pa_cons (pe_op u_mul (pe_cal c_take (hr.mono (by decide)) pass0 (pa_cons (pv 0) (pa_cons pe_int pa_nil))) (pe_callTy u_int rfl T.b.int_ (by decide +kernel) (pa_cons (pe_cmpR op_gt (pv 1) pe_int (nomark _)) pa_nil))) pa_nil)) (pg_name (i := 5) sc_parts.nd rfl (Or.inl rfl))
    (pss_one (ps_expr (pe_bm PySem.F.plainAttrs_list PySem.F.slot_list_append PySem.F.type_list_append mt_append (pe_ix ix_seq (pv 4) pe_int (fun _ _ => rfl)) (pa_cons (pe_tup (pa_cons (pe_cal c_take (hr.mono (by decide)) pass0 (pa_cons (pv 0) (pa_cons (pv 1) pa_nil))) (pa_cons (pe_ix ix_seq (pe_lst (pa_cons pe_str (pa_cons pe_str pa_nil))) (pe_cal c_take (hr.mono (by decide)) pass0 (pa_cons (pv 0) (pa_cons pe_int pa_nil))) (fun _ _ => rfl)) (pa_cons (pe_cal c_number (hr.mono (by decide)) pass0 (pa_cons (pv 0) pa_nil)) pa_nil)))) pa_nil)))))
  (pss_cons (ps_for PassesOwn.never rfl (pi_range1 rfl T.b.range_ (pa_cons (pe_op u_mul (pe_cal c_take (hr.mono (by decide)) pass0 (pa_cons (pv 0) (pa_cons pe_int pa_nil))) (pe_callTy u_int rfl T.b.int_ (by decide +kernel) (pa_cons (pe_cmpR op_gt (pv 2) pe_int (nomark _)) pa_nil))) pa_nil)) (pg_name (i := 5) sc_parts.nd rfl (Or.inl rfl))
    (pss_cons (ps_set (i := 7) sc_parts.nd rfl (Or.inl rfl) (pe_tup (pa_cons (pe_cal c_take (hr.mono (by decide)) pass0 (pa_cons (pv 0) (pa_cons (pv 2) pa_nil))) (pa_cons (pe_cal c_kind (hr.mono (by decide)) pass0 (pa_cons (pv 0) pa_nil)) (pa_cons (pe_cal c_take (hr.mono (by decide)) pass0 (pa_cons (pv 0) (pa_cons (pv 2) pa_nil))) (pa_cons (pe_cal c_kind (hr.mono (by decide)) pass0 (pa_cons (pv 0) pa_nil)) pa_nil))))))
  (pss_one (ps_expr (pe_bm PySem.F.plainAttrs_list PySem.F.slot_list_append PySem.F.type_list_append mt_append (pe_ix ix_seq (pv 4) pe_int (fun _ _ => rfl)) (pa_cons (pv 7) pa_nil))))))
  (pss_one (ps_ret (pv 4)))))))), ?_⟩
    walk_at "el"
    refine ⟨by decide, fun l0 hl0 => ?_⟩
    have e0 := nw_of hl0
    walk_at "el"
    refine ⟨by decide, fun l1 hl1 => ?_⟩
    have e1 := nw_of hl1
    walk_at "el"
    refine ⟨by decide, fun l2 hl2 => ?_⟩
    have e2 := nw_of hl2
    walk_at "el"
    refine ⟨by decide, fun l3 hl3 => ?_⟩
    have e3 := nw_of hl3
    walk_at "el"
    refine ⟨by show 4 ≤ sizeLine; decide, fun p hp => ?_⟩
    have e4 := nw_of hp
    obtain ⟨S, I0⟩ := parts_start (ev := ev) (wi := wi) hb hl0 hl1 hl2 hl3 hp
    generalize upd (upd (upd (upd (upd H l0 (.lst [])) l1 (.lst [])) l2 (.lst [])) l3 (.lst [])) p (.lst [.ref l0, .ref l1, .ref l2, .ref l3]) = Hs at I0 ⊢
    generalize lOf l0 l1 l2 l3 = l at S I0
    clear e0 e1 e2 e3 hl0 hl1 hl2 hl3 hp
    walk_at "el"
    refine ⟨b, c, _, rfl, I0.bag, by omega, by omega, fun r H1 r0 r1 hb1 k1 => ?_⟩
    have I1 := I0.kp' S hb1 k1
    clear I0 hb1 k1 hb
    walk_at "el"
    refine n_mul (mul8 ev0 ev8 wi0 wi8) ?_
    walk_at "el"
    refine n_mul (.inl ⟨by omega, by omega⟩) ?_
    walk_at "el"
    have q := cnt01 (p := 0 < ev * wi) r0
    generalize r * (if decide (0 < ev * wi) = true then 1 else 0) = j at q ⊢
    refine ⟨by omega, by omega, ?_⟩
    refine lp_range (fun i σ H2 => ∃ xs, PIv b c p l H H2 ev wi xs ∧ (xs .tel).length = i ∧ xs .gap = [] ∧ xs .sur = [] ∧ xs .cla = [] ∧ ∃ v5 v6 v7, σ = [some (.ref b), some (.int ev), some (.int wi), some (.int most), some (.ref p), v5, v6, v7]) ⟨_, I1, rfl, rfl, rfl, rfl, _, _, _, rfl⟩ ?_ ?_
    · rintro i σ H2 hi ⟨xs, I2, hl, g1, g2, g3, v5, v6, v7, rfl⟩
      obtain ⟨ev1, wi1⟩ := pos2 ev0 wi0 (q.2.2 (by omega))
      have hp2 := I2.hp
      walk_at "el"
      refine ⟨.inl ⟨rfl, _, SqL.of (I2.hl .tel)⟩, ?_⟩
      walk_at "el"
      refine ⟨b, c, wi, rfl, I2.bag, wi1, by omega, fun a H3 a0 a1 hb3 k3 => ?_⟩
      have I3 := I2.kp' S hb3 k3
      walk_at "el"
      refine ⟨b, c, ev, rfl, I3.bag, ev1, by omega, fun e H4 e0 e1 hb4 k4 => ?_⟩
      have I4 := I3.kp' S hb4 k4
      walk_at "el"
      refine ⟨b, c, rfl, I4.bag, fun x H5 x0 x1 hb5 k5 => ?_⟩
      have I5 := I4.kp' S hb5 k5
      walk_at "el"
      refine ⟨by show 3 ≤ sizeLine; decide, fun u hu => ?_⟩
      have I6 := I5.nw S (nw_of hu (.tup [.int a, .int e, .int x]))
      walk_at "el"
      refine ⟨l .tel, xs .tel, .ref u, rfl, rfl, I6.hl .tel, size1k (by omega), ?_⟩
      walk_at "el"
      exact ⟨_, I6.app S .tel (item_tel upd_same a0 a1 e0 e1 (by omega) (by omega)) (below3 (by omega) (by omega) (by omega)) (fun z => nomatch z), by rw [setP_at, List.length_append, hl]; rfl, by rw [setP_ne (by decide)]; exact g1, by rw [setP_ne (by decide)]; exact g2, by rw [setP_ne (by decide)]; exact g3, _, _, _, rfl⟩
    · rintro σ H2 ⟨xs, I2, hl, g1, g2, g3, v5, v6, v7, rfl⟩
      have htel : ((xs .tel).length : Int) ≤ most := by omega
      clear hl q r0 r1 I1
      walk_at "el"
      refine a_I ⟨by decide, by decide⟩ ?_
      walk_at "el"
      refine ⟨b, c, _, rfl, I2.bag, by omega, by omega, fun r H1 r0 r1 hb1 k1 => ?_⟩
      have I1 := I2.kp' S hb1 k1
      clear I2 hb1 k1
      walk_at "el"
      refine n_mul (.inl ⟨by omega, by omega⟩) ?_
      walk_at "el"
      have q := cnt01 (p := 1 < ev) r0
      generalize r * (if decide (1 < ev) = true then 1 else 0) = j at q ⊢
      refine ⟨by omega, by omega, ?_⟩
      refine lp_range (fun i σ H2 => ∃ xs, PIv b c p l H H2 ev wi xs ∧ ((xs .tel).length : Int) ≤ most ∧ (xs .gap).length = i ∧ xs .sur = [] ∧ xs .cla = [] ∧ ∃ v5 v6 v7, σ = [some (.ref b), some (.int ev), some (.int wi), some (.int most), some (.ref p), v5, v6, v7]) ⟨_, I1, htel, by rw [g1]; rfl, g2, g3, _, _, _, rfl⟩ ?_ ?_
      · clear htel g1 g2 g3 I1
        rintro i σ H2 hi ⟨xs, I2, g1, hl, g2, g3, v5, v6, v7, rfl⟩
        have ev1 := q.2.2 (by omega)
        walk_at "el"
        refine ⟨b, c, ev, rfl, I2.bag, by omega, by omega, fun a H3 a0 a1 hb3 k3 => ?_⟩
        have I3 := I2.kp' S hb3 k3
        have hp3 := I3.hp
        walk_at "el"
        refine ⟨.inl ⟨rfl, _, SqL.of (I3.hl .gap)⟩, ?_⟩
        walk_at "el"
        refine ⟨b, c, ev - 1, rfl, I3.bag, by omega, by omega, fun t H4 t0 t1 hb4 k4 => ?_⟩
        have I4 := I3.kp' S hb4 k4
        walk_at "el"
        refine a_I (by omega) ?_
        walk_at "el"
        refine ⟨b, c, 9, rfl, I4.bag, by decide, by decide, fun x H5 x0 x1 hb5 k5 => ?_⟩
        have I5 := I4.kp' S hb5 k5
        walk_at "el"
        refine ⟨by show 3 ≤ sizeLine; decide, fun u hu => ?_⟩
        have I6 := I5.nw S (nw_of hu (.tup [.int a, .int ((a + 1 + t) % ev), .int (x - 4)]))
        walk_at "el"
        refine ⟨l .gap, xs .gap, .ref u, rfl, rfl, I6.hl .gap, size1k (by omega), ?_⟩
        walk_at "el"
        exact ⟨_, I6.app S .gap (item_gap upd_same a0 a1 (Int.emod_nonneg _ (by omega)) (Int.emod_lt_of_pos _ (by omega)) (gap_ne a0 a1 t0 t1 ev8) (by omega) (by omega)) (below3 (by omega) ⟨Int.emod_nonneg _ (by omega), Int.le_trans (Int.le_of_lt (Int.emod_lt_of_pos _ (by omega))) ev8⟩ (by omega)) (fun _ => gapsm3 (by omega)), by rw [setP_ne (by decide)]; exact g1, by rw [setP_at, List.length_append, hl]; rfl, by rw [setP_ne (by decide)]; exact g2, by rw [setP_ne (by decide)]; exact g3, _, _, _, rfl⟩
      · clear htel g1 g2 g3 I1
        rintro σ H2 ⟨xs, I2, htel, hl, g2, g3, v5, v6, v7, rfl⟩
        have hgap : ((xs .gap).length : Int) ≤ most / 2 + 1 := by omega
        clear hl q r0 r1
        walk_at "el"
        refine ⟨b, c, 4, rfl, I2.bag, by omega, by omega, fun r H1 r0 r1 hb1 k1 => ?_⟩
        have I1 := I2.kp' S hb1 k1
        clear I2 hb1 k1
        walk_at "el"
        refine n_mul (.inl ⟨by omega, by omega⟩) ?_
        walk_at "el"
        have q := cnt01 (p := 0 < ev) r0
        generalize r * (if decide (0 < ev) = true then 1 else 0) = j at q ⊢
        refine ⟨by omega, by omega, ?_⟩
        refine lp_range (fun i σ H2 => ∃ xs, PIv b c p l H H2 ev wi xs ∧ ((xs .tel).length : Int) ≤ most ∧ ((xs .gap).length : Int) ≤ most / 2 + 1 ∧ (xs .sur).length = i ∧ xs .cla = [] ∧ ∃ v5 v6 v7, σ = [some (.ref b), some (.int ev), some (.int wi), some (.int most), some (.ref p), v5, v6, v7]) ⟨_, I1, htel, hgap, by rw [g2]; rfl, g3, _, _, _, rfl⟩ ?_ ?_
        · clear htel hgap g2 g3 I1
          rintro i σ H2 hi ⟨xs, I2, g1, g2, hl, g3, v5, v6, v7, rfl⟩
          have ev1 := q.2.2 (by omega)
          have hp2 := I2.hp
          walk_at "el"
          refine ⟨.inl ⟨rfl, _, SqL.of (I2.hl .sur)⟩, ?_⟩
          walk_at "el"
          refine ⟨b, c, ev, rfl, I2.bag, by omega, by omega, fun a H3 a0 a1 hb3 k3 => ?_⟩
          have I3 := I2.kp' S hb3 k3
          walk_at "el"
          refine ⟨by decide, fun w1 hw1 => ?_⟩
          have I4 := I3.nw S (nw_of hw1 (.lst [.str "least", .str "most"]))
          have nw1 := I3.bag.ne hw1
          walk_at "el"
          refine ⟨b, c, 2, rfl, I4.bag, by omega, by omega, fun t H4 t0 t1 hb4 k4 => ?_⟩
          have I5 := I4.kp' S hb4 k4
          have hw2 := k4 _ _ nw1 upd_same
          obtain ⟨sd, hsd, hss⟩ : ∃ sd : Str, atI [V.str "least", V.str "most"] t = some (.str sd) ∧ (sd = "least" ∨ sd = "most") := by
            have z : t = 0 ∨ t = 1 := by omega
            rcases z with rfl | rfl
            · exact ⟨_, rfl, .inl rfl⟩
            · exact ⟨_, rfl, .inr rfl⟩
          walk_at "el"
          refine n_ixL (SqL.of hw2) hsd ?_
          walk_at "el"
          refine ⟨b, c, rfl, I5.bag, fun x H6 x0 x1 hb6 k6 => ?_⟩
          have I6 := I5.kp' S hb6 k6
          walk_at "el"
          refine ⟨by show 3 ≤ sizeLine; decide, fun u hu => ?_⟩
          have I7 := I6.nw S (nw_of hu (.tup [.int a, .str sd, .int x]))
          walk_at "el"
          refine ⟨l .sur, xs .sur, .ref u, rfl, rfl, I7.hl .sur, size1k (by omega), ?_⟩
          walk_at "el"
          exact ⟨_, I7.app S .sur (item_sur upd_same a0 a1 hss (by omega) (by omega)) (belowS (by omega) (by omega)) (fun z => nomatch z), by rw [setP_ne (by decide)]; exact g1, by rw [setP_ne (by decide)]; exact g2, by rw [setP_at, List.length_append, hl]; rfl, by rw [setP_ne (by decide)]; exact g3, _, _, _, rfl⟩
        · clear htel hgap g2 g3 I1
          rintro σ H2 ⟨xs, I2, htel, hgap, hl, g3, v5, v6, v7, rfl⟩
          have hsur : (xs .sur).length ≤ 3 := by omega
          clear hl q r0 r1
          walk_at "el"
          refine ⟨b, c, 4, rfl, I2.bag, by omega, by omega, fun r H1 r0 r1 hb1 k1 => ?_⟩
          have I1 := I2.kp' S hb1 k1
          clear I2 hb1 k1
          walk_at "el"
          refine n_mul (.inl ⟨by omega, by omega⟩) ?_
          walk_at "el"
          have q := cnt01 (p := 0 < wi) r0
          generalize r * (if decide (0 < wi) = true then 1 else 0) = j at q ⊢
          refine ⟨by omega, by omega, ?_⟩
          refine lp_range (fun i σ H2 => ∃ xs, PIv b c p l H H2 ev wi xs ∧ ((xs .tel).length : Int) ≤ most ∧ ((xs .gap).length : Int) ≤ most / 2 + 1 ∧ (xs .sur).length ≤ 3 ∧ (xs .cla).length = i ∧ ∃ v5 v6 v7, σ = [some (.ref b), some (.int ev), some (.int wi), some (.int most), some (.ref p), v5, v6, v7]) ⟨_, I1, htel, hgap, hsur, by rw [g3]; rfl, _, _, _, rfl⟩ ?_ ?_
          · clear htel hgap hsur g3 I1
            rintro i σ H2 hi ⟨xs, I2, g1, g2, g3, hl, v5, v6, v7, rfl⟩
            have wi1 := q.2.2 (by omega)
            walk_at "el"
            refine ⟨b, c, wi, rfl, I2.bag, by omega, by omega, fun a H3 a0 a1 hb3 k3 => ?_⟩
            have I3 := I2.kp' S hb3 k3
            walk_at "el"
            refine ⟨b, c, rfl, I3.bag, fun s1 H4 hs1 hb4 k4 => ?_⟩
            have I4 := I3.kp' S hb4 k4
            walk_at "el"
            refine ⟨b, c, wi, rfl, I4.bag, by omega, by omega, fun v H5 v0 v1 hb5 k5 => ?_⟩
            have I5 := I4.kp' S hb5 k5
            walk_at "el"
            refine ⟨b, c, rfl, I5.bag, fun s2 H6 hs2 hb6 k6 => ?_⟩
            have I6 := I5.kp' S hb6 k6
            walk_at "el"
            refine ⟨by show 4 ≤ sizeLine; decide, fun u hu => ?_⟩
            have I7 := I6.nw S (nw_of hu (.tup [.int a, .str s1, .int v, .str s2]))
            have hp7 := I7.hp
            walk_at "el"
            refine ⟨.inl ⟨rfl, _, SqL.of (I7.hl .cla)⟩, ?_⟩
            walk_at "el"
            refine ⟨l .cla, xs .cla, .ref u, rfl, rfl, I7.hl .cla, size1k (by omega), ?_⟩
            walk_at "el"
            exact ⟨_, I7.app S .cla (item_cla upd_same a0 a1 hs1 v0 v1 hs2) (belowC (by omega) (by omega)) (fun z => nomatch z), by rw [setP_ne (by decide)]; exact g1, by rw [setP_ne (by decide)]; exact g2, by rw [setP_ne (by decide)]; exact g3, by rw [setP_at, List.length_append, hl]; rfl, _, _, _, rfl⟩
          · clear htel hgap hsur g3 I1
            rintro σ H2 ⟨xs, I2, htel, hgap, hsur, hl, v5, v6, v7, rfl⟩
            walk_at "el"
            exact k p l H2 xs S I2 htel hgap hsur (by omega)
end
end EL

/- part S -/
namespace EL
open PySem PySem.Spec PyProof.Rows L2
open PySem.W (Frag)
abbrev s_l_is_way : Stmt := top 44
abbrev N_l_is_way : List Str := ["_law_gaps_here", "_law_a", "_law_b", "_law_thing", "_law_here", "_law_index"]
theorem sc_l_is_way : FnScope N_l_is_way ["_law_gaps_here", "_law_a", "_law_b", "_law_thing"] (defScope s_l_is_way) := ⟨rfl, rfl, rfl, by decide +kernel, rfl, by decide +kernel, by decide +kernel⟩
local macro_rules | `(tactic| walk_at "el1") => `(tactic| with_reducible first
  | refine a_sasg ?_ | refine a_sdrop ?_ | refine a_saugS ?_ | refine a_spar ?_ | refine a_seq ?_ | refine a_asg ?_ | refine a_drop ?_ | refine a_ret ?_ | refine a_if ?_ | refine a_next ?_
  | refine a_op ?_ | refine a_cons ?_ | refine a_nil ?_ | refine a_cb ?_ | refine a_call ?_ | refine a_c ?_ | refine a_gn ?_ | refine a_nx ?_ | refine a_rt ?_ | refine a_un ?_
  | refine a_test ?_ | refine a_B ?_ | refine a_bl ?_ | refine a_and ?_ | refine a_or ?_ | refine a_not ?_ | refine a_andV ?_ | refine a_orV ?_ | refine a_notV ?_ | refine a_ifx ?_ | refine a_chain ?_
  | refine a_nT ?_ | refine a_nF ?_ | refine a_fld ?_ | refine a_getF ?_ | refine a_T ?_ | refine a_F ?_ | refine a_tup ?_ | refine a_lst ?_ | refine a_sub ?_ | refine a_augS ?_ | refine a_two ?_ | refine a_I0 ?_ | refine a_U ?_ | refine n_add ?_ | refine n_int ?_ | refine n_ib ?_ | refine a_ip ?_ | refine a_rng1 ?_ | refine a_rng2 ?_ | refine a_bm ?_ | refine a_abs ?_ | refine a_pairs ?_ | refine a_pairs0 ?_ | refine a_bk ?_ | refine a_prp ?_ | refine a_lc ?_ | refine a_yes ?_ | refine a_sl ?_ | refine a_nop ?_ | refine a_prt ?_ | refine a_ex1 ?_ | refine a_for ?_ | refine a_sfor ?_ | refine a_iE1 ?_ | refine a_iEs ?_ | refine a_iEz ?_ | refine a_iEnum ?_ | refine a_iTup ?_ | refine a_iList ?_ | refine a_gcons ?_ | refine a_gnil ?_ | refine a_revT ?_ | refine a_spar3 ?_ | refine a_par3 ?_ | refine a_three ?_)
local macro_rules | `(tactic| walk_at "el2") => `(tactic| first
  | (refine a_var (by rfl) ?_)
  | (refine n_ixL (SqL.of (by assumption)) (by rfl) ?_) | (refine n_ixT (SqT.of (by assumption)) (by rfl) ?_) | (refine n_eq (by rfl) ?_) | (refine n_ne (by rfl) ?_)
  | (refine n_isN ?_) | (refine n_notN ?_) | (refine n_isB ?_) | (refine n_notB ?_) | (refine n_isBI ?_) | (refine n_notBI ?_) | (refine n_len (.inl (SqL.of (by assumption))) ?_) | (refine n_len (.inr (SqT.of (by assumption))) ?_)
  | (refine a_getL (SqL.of (by assumption)) (by rfl) ?_)
  | (refine n_isInt (by assumption) ?_) | (refine n_isBool (by assumption) ?_) | (refine n_isStr (by assumption) ?_) | (refine n_isTup (by assumption) ?_) | (refine n_isLst (by assumption) ?_))
local macro_rules | `(tactic| walk_at "el") => `(tactic| repeat (first | walk_at "el1" | walk_at "el2"))

/-! ### a law's own look at ways -/
def spYes : Sp := fun vs H Q _ => ∃ x y : Bool, vs = [.bl x, .bl y] ∧ Q (.bl (decide (x = y))) H
def spWayL (K : Frag) : Sp := fun vs H Q _ => ∃ (g : Addr) (gs : List V) (G : List (Int × Int × Int)) (a b : Int) (x : V), vs = [.ref g, .int a, .int b, x] ∧ GapsAre K H g gs G ∧
  Th K H x ∧ (∀ (q : Addr) (xs : List V), x = .ref q → H q = some (.tup xs) → ∀ y ∈ xs, Th K H y) ∧ ∀ r, (r = true ↔ isWay H G a b x) → Q (.bl r) H
def spWalk (K : Frag) : Sp := fun vs H Q _ => ∃ (b c g : Addr) (gs : List V) (G : List (Int × Int × Int)) (a many : Int), vs = [.ref b, .ref g, .int a, .int many] ∧ Bag H b c ∧ g ≠ b ∧ H g = some (.lst gs) ∧ GapsAre K H g gs G ∧ gs.length ≤ 1000 ∧ 0 ≤ many ∧ many ≤ 1000 ∧
  ∀ H' r q (is : List Int) h, Bag H' b c → Kp b H H' → H' r = some (.tup [.ref q, .int h]) → H' q = some (.tup (is.map V.int)) → wayTo G a (is.map V.int) = some h → (is.length : Int) ≤ many → (∀ z ∈ is, 0 ≤ z ∧ z < G.length) → Q (.ref r) H'
section
variable {P : Program} {w : World} {K : Frag} {mg : Str → Option Value} {base : Heap} {f : Addr} {fd : FuncData} {C : Addr}
theorem ok_l_is_way (F : Fun K "_law_is_way" "_law_is_way" s_l_is_way f fd) (T : Tb mg) : FnOk P w K mg base CX0 1 f fd ["_law_gaps_here", "_law_a", "_law_b", "_law_thing"] (spWayL K) := by
  refine F.ok sc_l_is_way (fun vs H Q E h => ?_) (fun cdv A outer s H vs Q E hr h => ?_)
  · obtain ⟨_, _, _, _, _, _, rfl, _⟩ := h
    rfl
  · obtain ⟨g, gs, G, a, b, x, rfl, hG, th, te, k⟩ := h
    refine ⟨_, (pss_cons (ps_if (pt_not (pt_val (pe_callB u_isi rfl T.b.isinstance_ boot_isinstance (pa_cons (pv 3) (pa_cons (pe_bltn (v := V.ty "tuple") rfl T.b.tuple_ (by decide +kernel) rfl) pa_nil)))))
    (pss_one (ps_ret pe_bl))
    pss_nil)
  (pss_cons (ps_set (i := 4) sc_l_is_way.nd rfl (Or.inl rfl) (pv 1))
  (pss_cons (ps_for PassesOwn.never rfl (u_iter (pv 3)) (pg_name (i := 5) sc_l_is_way.nd rfl (Or.inl rfl))
    (pss_cons (ps_if (PW.pt (pw_or (pt_not (pt_val (pe_callB u_isi rfl T.b.isinstance_ boot_isinstance (pa_cons (pv 5) (pa_cons (pe_bltn (v := V.ty "int") rfl T.b.int_ (by decide +kernel) rfl) pa_nil))))) (pw_or (pt_val (pe_callB u_isi rfl T.b.isinstance_ boot_isinstance (pa_cons (pv 5) (pa_cons (pe_bltn (v := V.ty "bool") rfl T.b.bool_ (by decide +kernel) rfl) pa_nil)))) (pw_or1 (pt_cmpR op_lt (pv 5) pe_int (nomark _))))))
    (pss_one (ps_ret pe_bl))
    pss_nil)
  (pss_cons (ps_if (pt_cmpR op_ge (pv 5) (pe_callB u_len rfl T.b.len_ boot_len (pa_cons (pv 0) pa_nil)) (nomark _))
    (pss_one (ps_ret pe_bl))
    pss_nil)
  (pss_cons (ps_if (pt_cmpR (u_ne hr.units) (pe_ix ix_seq (pe_ix ix_seq (pv 0) (pv 5) (fun _ _ => rfl)) pe_int (fun _ _ => rfl)) (pv 4) (nomark _))
    (pss_one (ps_ret pe_bl))
    pss_nil)
  (pss_one (ps_set (i := 4) sc_l_is_way.nd rfl (Or.inl rfl) (pe_ix ix_seq (pe_ix ix_seq (pv 0) (pv 5) (fun _ _ => rfl)) pe_int (fun _ _ => rfl))))))))
  (pss_one (ps_ret (pe_cmpR (u_eq hr.units) (pv 4) (pv 2) (nomark _))))))), ?_⟩
    obtain ⟨ty, kt⟩ := th.kit
    walk_at "el"
    refine ite2 (fun h0 => ?_) (fun h0 => ?_)
    · walk_at "el"
      refine k _ ⟨(fun h => by cases h), ?_⟩
      rintro ⟨q, xs, rfl, hq, _⟩
      have e : isT H (.ref q) = true := by show obT (H q) = true; rw [hq]; rfl
      rw [e] at h0
      cases h0
    · obtain ⟨q, xs, rfl, hq⟩ := isT_tup th (by simpa using h0)
      walk_at "el"
      refine a_iSeq (.inr ?_)
      walk_at "el"
      refine ⟨q, rfl, ⟨_, SqT.of hq⟩, ?_⟩
      refine lp_it (walk_tup (xs := xs)) (fun i σ H1 => H = H1 ∧ ∃ h, wayTo G a (xs.take i) = some h ∧ ∃ v5, σ = [some (.ref g), some (.int a), some (.int b), some (.ref q), some (.int h), v5]) ⟨rfl, a, rfl, _, rfl⟩ (fun i σ H1 hi h => SqT.of (h.1 ▸ hq)) ?_ ?_
      · rintro i y σ H1 H2 hi ⟨rfl, h, hw, v5, rfl⟩ ⟨rfl, hy⟩
        have tk : xs.take (i + 1) = xs.take i ++ [y] := by rw [List.take_add_one, hy]; rfl
        have sp : xs = xs.take (i + 1) ++ xs.drop (i + 1) := (List.take_append_drop _ _).symm
        have bad : stepW G h y = none → ∀ z, wayTo G a xs ≠ some z := fun hn z e => by
          have q : wayTo G a (xs.take (i + 1)) = none := by rw [tk, way_snoc, hw]; exact hn
          rw [sp, way_off q] at e
          cases e
        have no : stepW G h y = none → ¬ isWay H2 G a b (.ref q) := fun hn ⟨q', xs', e, hq', hz⟩ => by
          cases e
          rw [hq] at hq'
          cases hq'
          exact bad hn _ hz
        obtain ⟨ty2, kt2⟩ := (te q xs rfl hq y (List.mem_of_getElem? hy)).kit
        walk_at "el"
        have out : stepW G h y = none → Q (.bl false) H2 := fun hn => k _ ⟨(fun z => by cases z), fun z => absurd z (no hn)⟩
        refine ite2 (fun h1 => ?_) (fun h1 => ?_)
        · walk_at "el"
          exact out (by cases y <;> first | rfl | cases h1)
        · rcases isI_cases (by simpa using h1) with ⟨j, rfl⟩ | ⟨z, rfl⟩
          · walk_at "el"
            refine ite2 (fun h2 => by cases h2) (fun _ => ?_)
            walk_at "el"
            refine ite2 (fun h2 => ?_) (fun h2 => ?_)
            · have q : j < 0 := by simpa using h2
              walk_at "el"
              exact out (step_off (by show (decide _ && decide _) = false; rw [decide_eq_false (by omega)]; rfl))
            · have q : ¬ j < 0 := by simpa using h2
              walk_at "el"
              refine n_len hG.seq.len ?_
              walk_at "el"
              refine ite2 (fun h3 => ?_) (fun h3 => ?_)
              · have q3 : (gs.length : Int) ≤ j := by simpa using h3
                walk_at "el"
                exact out (step_off (by show (decide _ && decide _) = false; rw [decide_eq_false (show ¬ j < (G.length : Int) by rw [← hG.len]; omega), Bool.and_false]))
              · have q3 : ¬ (gs.length : Int) ≤ j := by simpa using h3
                obtain ⟨n, rfl⟩ : ∃ n : Nat, j = n := ⟨j.toNat, by omega⟩
                have hn : n < gs.length := by omega
                obtain ⟨u, x, hv, hx, hu⟩ := hG.at_ n gs[n] (List.getElem?_eq_getElem hn)
                have hgn : gs[n]? = some (.ref u) := by rw [List.getElem?_eq_getElem hn, hv]
                walk_at "el"
                refine n_ixA hG.seq (atI_nat hgn) ?_
                walk_at "el"
                refine ite2 (fun h4 => ?_) (fun h4 => ?_)
                · have ne : ¬ x.1 = h := by simpa using h4
                  walk_at "el"
                  exact out ((step_at hx).trans (if_neg ne))
                · have e : x.1 = h := by simpa using h4
                  walk_at "el"
                  refine n_ixA hG.seq (atI_nat hgn) ?_
                  walk_at "el"
                  exact ⟨rfl, x.2.1, by rw [tk, way_snoc, hw]; exact (step_at hx).trans (if_pos e), _, rfl⟩
          · walk_at "el"
            refine ite2 (fun _ => ?_) (fun h2 => absurd rfl h2)
            walk_at "el"
            exact out rfl
      · rintro σ H1 ⟨rfl, h, hw, v5, rfl⟩
        rw [List.take_length] at hw
        walk_at "el"
        refine k _ ⟨fun z => ⟨q, xs, rfl, hq, ?_⟩, ?_⟩
        · have e : h = b := by simpa using z
          rw [← e]
          exact hw
        · rintro ⟨q', xs', e, hq', hz⟩
          cases e
          rw [hq] at hq'
          cases hq'
          rw [hw] at hz
          cases hz
          exact decide_eq_true rfl
end
end EL

/- part Y -/
namespace EL
open PySem PySem.Spec PyProof.Rows L2
open PySem.W (Frag)

local macro_rules | `(tactic| walk_at "el1") => `(tactic| with_reducible first
  | refine a_sasg ?_ | refine a_sdrop ?_ | refine a_saugS ?_ | refine a_spar ?_ | refine a_seq ?_ | refine a_asg ?_ | refine a_drop ?_ | refine a_ret ?_ | refine a_if ?_ | refine a_next ?_
  | refine a_op ?_ | refine a_cons ?_ | refine a_nil ?_ | refine a_cb ?_ | refine a_call ?_ | refine a_c ?_ | refine a_gn ?_ | refine a_nx ?_ | refine a_rt ?_ | refine a_un ?_
  | refine a_test ?_ | refine a_B ?_ | refine a_bl ?_ | refine a_and ?_ | refine a_or ?_ | refine a_not ?_ | refine a_andV ?_ | refine a_orV ?_ | refine a_notV ?_ | refine a_ifx ?_ | refine a_chain ?_
  | refine a_nT ?_ | refine a_nF ?_ | refine a_fld ?_ | refine a_getF ?_ | refine a_T ?_ | refine a_F ?_ | refine a_tup ?_ | refine a_lst ?_ | refine a_sub ?_ | refine a_augS ?_ | refine a_two ?_ | refine a_I0 ?_ | refine a_U ?_ | refine n_add ?_ | refine n_int ?_ | refine n_ib ?_ | refine a_ip ?_ | refine a_rng1 ?_ | refine a_rng2 ?_ | refine a_bm ?_ | refine a_abs ?_ | refine a_pairs ?_ | refine a_pairs0 ?_ | refine a_bk ?_ | refine a_prp ?_ | refine a_lc ?_ | refine a_yes ?_ | refine a_sl ?_ | refine a_nop ?_ | refine a_prt ?_ | refine a_ex1 ?_ | refine a_for ?_ | refine a_sfor ?_ | refine a_iE1 ?_ | refine a_iEs ?_ | refine a_iEz ?_ | refine a_iEnum ?_ | refine a_iTup ?_ | refine a_iList ?_ | refine a_gcons ?_ | refine a_gnil ?_ | refine a_revT ?_ | refine a_spar3 ?_ | refine a_par3 ?_ | refine a_three ?_)
local macro_rules | `(tactic| walk_at "el2") => `(tactic| first
  | (refine a_var (by rfl) ?_)
  | (refine n_ixL (SqL.of (by assumption)) (by rfl) ?_) | (refine n_ixT (SqT.of (by assumption)) (by rfl) ?_) | (refine n_eq (by rfl) ?_) | (refine n_ne (by rfl) ?_)
  | (refine n_isN ?_) | (refine n_notN ?_) | (refine n_isB ?_) | (refine n_notB ?_) | (refine n_isBI ?_) | (refine n_notBI ?_) | (refine n_len (.inl (SqL.of (by assumption))) ?_) | (refine n_len (.inr (SqT.of (by assumption))) ?_)
  | (refine a_getL (SqL.of (by assumption)) (by rfl) ?_)
  | (refine n_isInt (by assumption) ?_) | (refine n_isBool (by assumption) ?_) | (refine n_isStr (by assumption) ?_) | (refine n_isTup (by assumption) ?_) | (refine n_isLst (by assumption) ?_))
local macro_rules | `(tactic| walk_at "el") => `(tactic| repeat (first | walk_at "el1" | walk_at "el2"))

/-! ### a book and a law's four lists, as numbers and words -/
theorem upd_at {H : Hp} {p : Addr} (_ : H p = none) (o : HO) : upd H p o p = some o := upd_same
theorem Bag.neT {H : Hp} {b c p : Addr} {xs : List V} (h : Bag H b c) (hp : H p = some (.tup xs)) : p ≠ b := fun z => by
  obtain ⟨i, j, k, cs, h1, _⟩ := h
  subst z
  rw [h1] at hp
  cases hp
theorem Bag.neL {H : Hp} {b c : Addr} {xs : List V} (h : Bag H b c) (hp : H b = some (.lst xs)) : xs.length ≠ 4 → False := fun z => by
  obtain ⟨i, j, k, cs, h1, _⟩ := h
  rw [h1] at hp
  cases hp
  exact z rfl
theorem SqT.kpB {K : Frag} {H H' : Hp} {a b c : Addr} {xs : List V} (h : SqT K H a xs) (hb : Bag H b c) (k : Kp b H H') : SqT K H' a xs := by
  obtain ⟨_, _, _, _, q, _⟩ := hb
  rcases h with (h | ⟨o, h⟩) | h
  · exact .inl (.inl (k _ _ (fun z => by subst z; rw [q] at h; cases h) h))
  · exact .inl (.inr ⟨_, k _ _ (fun z => by subst z; rw [q] at h; cases h) h⟩)
  · exact .inr h
structure RowsAre {α : Type} (enc : α → List V) (H : Hp) (xs : List V) (D : List α) : Prop where
  len : xs.length = D.length
  at_ : ∀ (i : Nat) (v : V), xs[i]? = some v → ∃ (q : Addr) (x : α), v = .ref q ∧ D[i]? = some x ∧ H q = some (.tup (enc x))
section
variable {α : Type} {enc : α → List V} {H H' : Hp} {xs : List V} {D : List α} {b c : Addr}
theorem RowsAre.same (h : RowsAre enc H xs D) (s : Same H H') : RowsAre enc H' xs D := ⟨h.len, fun i v hv => by
  obtain ⟨q, x, e, hx, hq⟩ := h.at_ i v hv
  exact ⟨q, x, e, hx, s _ _ hq⟩⟩
theorem RowsAre.kp (h : RowsAre enc H xs D) (hb : Bag H b c) (k : Kp b H H') : RowsAre enc H' xs D := ⟨h.len, fun i v hv => by
  obtain ⟨q, x, e, hx, hq⟩ := h.at_ i v hv
  exact ⟨q, x, e, hx, k _ _ (hb.neT hq) hq⟩⟩
theorem RowsAre.get (h : RowsAre enc H xs D) {i : Nat} {x : α} (e : D[i]? = some x) : ∃ q, xs[i]? = some (.ref q) ∧ H q = some (.tup (enc x)) := by
  have l : i < xs.length := by rw [h.len]; exact (List.getElem?_eq_some_iff.mp e).1
  obtain ⟨q, y, e1, e2, e3⟩ := h.at_ i _ (List.getElem?_eq_getElem l)
  rw [e] at e2
  cases e2
  exact ⟨q, by rw [List.getElem?_eq_getElem l, e1], e3⟩
end
abbrev encT (x : Int × Int × Int) : List V := [.int x.1, .int x.2.1, .int x.2.2]
abbrev encS (x : Int × Str × Int) : List V := [.int x.1, .str x.2.1, .int x.2.2]
abbrev encL (x : Int × Str × Int × Str) : List V := [.int x.1, .str x.2.1, .int x.2.2.1, .str x.2.2.2]
theorem RowsAre.gaps {K : Frag} {H : Hp} {g : Addr} {gs : List V} {G : List (Int × Int × Int)} (h : RowsAre encT H gs G) (s : SqA K H g gs) : GapsAre K H g gs G := ⟨s, h.len, h.at_⟩
/-- what a book says -/
structure PD where
  T : List (Int × Int × Int)
  G : List (Int × Int × Int)
  S : List (Int × Str × Int)
  L : List (Int × Str × Int × Str)
def NumOk (x : Int) : Prop := -1000000000000000 ≤ x ∧ x ≤ 1000000000000000
structure PD.Ok (D : PD) (ev wi : Int) : Prop where
  t : ∀ x ∈ D.T, (0 ≤ x.1 ∧ x.1 < wi) ∧ (0 ≤ x.2.1 ∧ x.2.1 < ev) ∧ NumOk x.2.2
  g : ∀ x ∈ D.G, (0 ≤ x.1 ∧ x.1 < ev) ∧ (0 ≤ x.2.1 ∧ x.2.1 < ev) ∧ NumOk x.2.2
  s : ∀ x ∈ D.S, (0 ≤ x.1 ∧ x.1 < ev) ∧ (x.2.1 = "least" ∨ x.2.1 = "most") ∧ NumOk x.2.2
  l : ∀ x ∈ D.L, (0 ≤ x.1 ∧ x.1 < wi) ∧ (x.2.1 = "early" ∨ x.2.1 = "late") ∧ (0 ≤ x.2.2.1 ∧ x.2.2.1 < wi) ∧ (x.2.2.2 = "early" ∨ x.2.2.2 = "late")
theorem num_ok {x : V} (h : numB x = true) : ∃ n, x = .int n ∧ NumOk n := by
  cases x with
  | int n =>
    have q : (decide (-1000000000000000 ≤ n) && decide (n ≤ 1000000000000000)) = true := h
    rw [Bool.and_eq_true, decide_eq_true_iff, decide_eq_true_iff] at q
    exact ⟨n, rfl, q⟩
  | _ => cases h
theorem kind_ok {x : V} (h : kindB x = true) : ∃ s, x = .str s ∧ (s = "early" ∨ s = "late") := by
  cases x with
  | str s =>
    have q : (decide (s = "early") || decide (s = "late")) = true := h
    rw [Bool.or_eq_true, decide_eq_true_iff, decide_eq_true_iff] at q
    exact ⟨s, rfl, q⟩
  | _ => cases h
theorem side_ok {x : V} (h : sideB x = true) : ∃ s, x = .str s ∧ (s = "least" ∨ s = "most") := by
  cases x with
  | str s =>
    have q : (decide (s = "least") || decide (s = "most")) = true := h
    rw [Bool.or_eq_true, decide_eq_true_iff, decide_eq_true_iff] at q
    exact ⟨s, rfl, q⟩
  | _ => cases h
theorem item_tel_inv {H : Hp} {x : V} {ev wi : Int} (h : ItemOk .tel H x ev wi) : ∃ (q : Addr) (y : Int × Int × Int), x = .ref q ∧ H q = some (.tup (encT y)) ∧ (0 ≤ y.1 ∧ y.1 < wi) ∧ (0 ≤ y.2.1 ∧ y.2.1 < ev) ∧ NumOk y.2.2 := by
  obtain ⟨q, xs, rfl, hq, hl, hs⟩ := h
  match xs, hl with
  | [x0, x1, x2], _ =>
    have h0 : belowB x0 wi = true := (st_w (x := x0)).symm.trans (hs 0 (by decide) "witness" x0 rfl rfl)
    have h1 : belowB x1 ev = true := (st_e (x := x1)).symm.trans (hs 1 (by decide) "event" x1 rfl rfl)
    have h2 : numB x2 = true := (st_n (x := x2)).symm.trans (hs 2 (by decide) "number" x2 rfl rfl)
    obtain ⟨a, rfl, a0⟩ := below_int h0
    obtain ⟨e, rfl, e0⟩ := below_int h1
    obtain ⟨n, rfl, n0⟩ := num_ok h2
    exact ⟨q, (a, e, n), rfl, hq, a0, e0, n0⟩
theorem item_gap_inv2 {H : Hp} {x : V} {ev wi : Int} (h : ItemOk .gap H x ev wi) : ∃ (q : Addr) (y : Int × Int × Int), x = .ref q ∧ H q = some (.tup (encT y)) ∧ (0 ≤ y.1 ∧ y.1 < ev) ∧ (0 ≤ y.2.1 ∧ y.2.1 < ev) ∧ NumOk y.2.2 := by
  obtain ⟨q, xs, rfl, hq, hl, hs⟩ := id h
  obtain ⟨q2, a, e, n, e1, hq2, a0, a1, e0, e1', _⟩ := item_gap_inv h
  cases e1
  rw [hq] at hq2
  cases hq2
  have h2 : numB (.int n) = true := (st_n (x := .int n)).symm.trans (hs 2 (by decide) "number" (.int n) rfl rfl)
  obtain ⟨n', en, n0⟩ := num_ok h2
  cases en
  exact ⟨q, (a, e, n), rfl, hq, ⟨a0, a1⟩, ⟨e0, e1'⟩, n0⟩
theorem item_sur_inv {H : Hp} {x : V} {ev wi : Int} (h : ItemOk .sur H x ev wi) : ∃ (q : Addr) (y : Int × Str × Int), x = .ref q ∧ H q = some (.tup (encS y)) ∧ (0 ≤ y.1 ∧ y.1 < ev) ∧ (y.2.1 = "least" ∨ y.2.1 = "most") ∧ NumOk y.2.2 := by
  obtain ⟨q, xs, rfl, hq, hl, hs⟩ := h
  match xs, hl with
  | [x0, x1, x2], _ =>
    have h0 : belowB x0 ev = true := (st_e (x := x0)).symm.trans (hs 0 (by decide) "event" x0 rfl rfl)
    have h1 : sideB x1 = true := (st_s (x := x1)).symm.trans (hs 1 (by decide) "side" x1 rfl rfl)
    have h2 : numB x2 = true := (st_n (x := x2)).symm.trans (hs 2 (by decide) "number" x2 rfl rfl)
    obtain ⟨a, rfl, a0⟩ := below_int h0
    obtain ⟨e, rfl, e0⟩ := side_ok h1
    obtain ⟨n, rfl, n0⟩ := num_ok h2
    exact ⟨q, (a, e, n), rfl, hq, a0, e0, n0⟩
theorem item_cla_inv {H : Hp} {x : V} {ev wi : Int} (h : ItemOk .cla H x ev wi) : ∃ (q : Addr) (y : Int × Str × Int × Str), x = .ref q ∧ H q = some (.tup (encL y)) ∧ (0 ≤ y.1 ∧ y.1 < wi) ∧ (y.2.1 = "early" ∨ y.2.1 = "late") ∧ (0 ≤ y.2.2.1 ∧ y.2.2.1 < wi) ∧ (y.2.2.2 = "early" ∨ y.2.2.2 = "late") := by
  obtain ⟨q, xs, rfl, hq, hl, hs⟩ := h
  match xs, hl with
  | [x0, x1, x2, x3], _ =>
    have h0 : belowB x0 wi = true := (st_w (x := x0)).symm.trans (hs 0 (by decide) "witness" x0 rfl rfl)
    have h1 : kindB x1 = true := (st_k (x := x1)).symm.trans (hs 1 (by decide) "kind" x1 rfl rfl)
    have h2 : belowB x2 wi = true := (st_w (x := x2)).symm.trans (hs 2 (by decide) "witness" x2 rfl rfl)
    have h3 : kindB x3 = true := (st_k (x := x3)).symm.trans (hs 3 (by decide) "kind" x3 rfl rfl)
    obtain ⟨a, rfl, a0⟩ := below_int h0
    obtain ⟨e, rfl, e0⟩ := kind_ok h1
    obtain ⟨v, rfl, v0⟩ := below_int h2
    obtain ⟨n, rfl, n0⟩ := kind_ok h3
    exact ⟨q, (a, e, v, n), rfl, hq, a0, e0, v0, n0⟩
theorem rows_of {α : Type} {enc : α → List V} {P : α → Prop} {H : Hp} : ∀ (xs : List V), (∀ x ∈ xs, ∃ (q : Addr) (y : α), x = .ref q ∧ H q = some (.tup (enc y)) ∧ P y) → ∃ D : List α, RowsAre enc H xs D ∧ ∀ y ∈ D, P y
  | [], _ => ⟨[], ⟨rfl, fun i v h => by cases h⟩, fun _ h => nomatch h⟩
  | x :: r, h => by
    obtain ⟨D, R, p⟩ := rows_of r fun x hx => h x (List.mem_cons_of_mem _ hx)
    obtain ⟨q, y, rfl, hq, py⟩ := h x (List.mem_cons_self ..)
    refine ⟨y :: D, ⟨by rw [List.length_cons, List.length_cons, R.len], fun i v hv => ?_⟩, fun z hz => (List.mem_cons.mp hz).elim (fun e => e ▸ py) (p z)⟩
    cases i with
    | zero => cases hv; exact ⟨q, y, rfl, rfl, hq⟩
    | succ i => exact R.at_ i v hv
/-- addresses and sizes of a book -/
structure BA where
  o : Addr
  dx : Addr
  t : Addr
  g : Addr
  s : Addr
  q : Addr
  ev : Int
  wi : Int
  xs : Pt → List V
/-- the rows of four parts -/
structure PR (H : Hp) (xs : Pt → List V) (D : PD) : Prop where
  t : RowsAre encT H (xs .tel) D.T
  g : RowsAre encT H (xs .gap) D.G
  s : RowsAre encS H (xs .sur) D.S
  l : RowsAre encL H (xs .cla) D.L
theorem PR.same {H H' : Hp} {xs : Pt → List V} {D : PD} (h : PR H xs D) (s : Same H H') : PR H' xs D := ⟨h.t.same s, h.g.same s, h.s.same s, h.l.same s⟩
theorem PR.kp {H H' : Hp} {xs : Pt → List V} {D : PD} {b c : Addr} (h : PR H xs D) (hb : Bag H b c) (k : Kp b H H') : PR H' xs D := ⟨h.t.kp hb k, h.g.kp hb k, h.s.kp hb k, h.l.kp hb k⟩
theorem pr_of {H : Hp} {xs : Pt → List V} {ev wi : Int} (h : ∀ t, ∀ x ∈ xs t, ItemOk t H x ev wi) : ∃ D : PD, PR H xs D ∧ D.Ok ev wi := by
  obtain ⟨T, rT, bT⟩ := rows_of (xs .tel) fun x hx => item_tel_inv (h .tel x hx)
  obtain ⟨G, rG, bG⟩ := rows_of (xs .gap) fun x hx => item_gap_inv2 (h .gap x hx)
  obtain ⟨S, rS, bS⟩ := rows_of (xs .sur) fun x hx => item_sur_inv (h .sur x hx)
  obtain ⟨L, rL, bL⟩ := rows_of (xs .cla) fun x hx => item_cla_inv (h .cla x hx)
  exact ⟨⟨T, G, S, L⟩, ⟨rT, rG, rS, rL⟩, ⟨bT, bG, bS, bL⟩⟩
/-- a book in the heap -/
structure BB (K : Frag) (C : Addr) (H : Hp) (A : BA) (D : PD) : Prop where
  bk : H A.o = some (bookO C A.dx A.ev A.wi A.t A.g A.s A.q)
  tT : SqT K H A.t (A.xs .tel)
  tG : SqT K H A.g (A.xs .gap)
  tS : SqT K H A.s (A.xs .sur)
  tL : SqT K H A.q (A.xs .cla)
  r : PR H A.xs D
theorem BB.same {K : Frag} {C : Addr} {H H' : Hp} {A : BA} {D : PD} (h : BB K C H A D) (s : Same H H') : BB K C H' A D := ⟨s _ _ h.bk, h.tT.same s, h.tG.same s, h.tS.same s, h.tL.same s, h.r.same s⟩
theorem BB.kp {K : Frag} {C : Addr} {H H' : Hp} {A : BA} {D : PD} {b c : Addr} (h : BB K C H A D) (hb : Bag H b c) (k : Kp b H H') : BB K C H' A D := by
  have nb : A.o ≠ b := fun z => by
    obtain ⟨_, _, _, _, w, _⟩ := hb
    have := h.bk
    rw [z, w] at this
    cases this
  exact ⟨k _ _ nb h.bk, SqT.kpB h.tT hb k, SqT.kpB h.tG hb k, SqT.kpB h.tS hb k, SqT.kpB h.tL hb k, h.r.kp hb k⟩
/-- a law's four lists in a list -/
structure LP (H : Hp) (b p : Addr) (l : Pt → Addr) (xs : Pt → List V) (D : PD) : Prop where
  hp : H p = some (.lst [.ref (l .tel), .ref (l .gap), .ref (l .sur), .ref (l .cla)])
  np : p ≠ b
  hl : ∀ u, H (l u) = some (.lst (xs u))
  nl : ∀ u, l u ≠ b
  r : PR H xs D
theorem LP.same {H H' : Hp} {b p : Addr} {l : Pt → Addr} {xs : Pt → List V} {D : PD} (h : LP H b p l xs D) (s : Same H H') : LP H' b p l xs D := ⟨s _ _ h.hp, h.np, fun u => s _ _ (h.hl u), h.nl, h.r.same s⟩
theorem LP.kp {H H' : Hp} {b c p : Addr} {l : Pt → Addr} {xs : Pt → List V} {D : PD} (h : LP H b p l xs D) (hb : Bag H b c) (k : Kp b H H') : LP H' b p l xs D := ⟨k _ _ h.np h.hp, h.np, fun u => k _ _ (h.nl u) (h.hl u), h.nl, h.r.kp hb k⟩
/-- both, and the bag -/
structure WW (K : Frag) (C b c : Addr) (H : Hp) (A : BA) (p : Addr) (l : Pt → Addr) (D : PD) : Prop where
  bag : Bag H b c
  bb : BB K C H A D
  lp : LP H b p l A.xs D
section
variable {K : Frag} {C b c : Addr} {H H' : Hp} {A : BA} {p : Addr} {l : Pt → Addr} {D : PD}
theorem WW.kp (h : WW K C b c H A p l D) (hb : Bag H' b c) (k : Kp b H H') : WW K C b c H' A p l D := ⟨hb, h.bb.kp h.bag k, h.lp.kp h.bag k⟩
theorem WW.same (h : WW K C b c H A p l D) (s : Same H H') : WW K C b c H' A p l D := ⟨h.bag.same s, h.bb.same s, h.lp.same s⟩
end
/-! ### a law makes a book of its lists -/
def spMade (K : Frag) (C : Addr) : Sp := fun vs H Q _ => ∃ (ev wi : Int) (p : Addr) (l : Pt → Addr) (xs : Pt → List V), vs = [.int ev, .int wi, .ref p] ∧ 0 ≤ ev ∧ ev ≤ 8 ∧ 0 ≤ wi ∧ wi ≤ 8 ∧ H p = some (.lst [.ref (l .tel), .ref (l .gap), .ref (l .sur), .ref (l .cla)]) ∧ (∀ u, PartOk K u H (l u) (xs u) ev wi) ∧
  ∀ H' o dx t g s q, Same H H' → H' o = some (bookO C dx ev wi t g s q) → SqT K H' t (xs .tel) → SqT K H' g (xs .gap) → SqT K H' s (xs .sur) → SqT K H' q (xs .cla) → Q (.ref o) H'
section
variable {P : Program} {w : World} {K : Frag} {mg : Str → Option Value} {base : Heap} {f : Addr} {fd : FuncData} {C : Addr} {Dk : BookD}
end
end EL

/- part WF -/
namespace EL
open PySem PySem.Spec PyProof.Rows L2
open PySem.W (Frag)
abbrev s__with_one_gap_more : Stmt := top 24
abbrev N__with_one_gap_more : List Str := ["gaps", "best", "longer", "index", "a", "b", "g", "total", "indexes"]
theorem sc__with_one_gap_more : FnScope N__with_one_gap_more ["gaps", "best"] (defScope s__with_one_gap_more) := ⟨rfl, rfl, rfl, by decide +kernel, rfl, by decide +kernel, by decide +kernel⟩
abbrev s__best_ways : Stmt := top 23
abbrev N__best_ways : List Str := ["book", "start", "best", "_"]
theorem sc__best_ways : FnScope N__best_ways ["book", "start"] (defScope s__best_ways) := ⟨rfl, rfl, rfl, by decide +kernel, rfl, by decide +kernel, by decide +kernel⟩
abbrev s_all_ways : Stmt := top 22
abbrev N_all_ways : List Str := ["book", "start"]
theorem sc_all_ways : FnScope N_all_ways ["book"] (defScope s_all_ways) := ⟨rfl, rfl, rfl, by decide +kernel, rfl, by decide +kernel, by decide +kernel⟩
abbrev s_ring_in : Stmt := top 25
abbrev N_ring_in : List Str := ["ways", "event", "best", "total", "indexes"]
theorem sc_ring_in : FnScope N_ring_in ["ways"] (defScope s_ring_in) := ⟨rfl, rfl, rfl, by decide +kernel, rfl, by decide +kernel, by decide +kernel⟩
abbrev s_ring : Stmt := top 26
abbrev N_ring : List Str := ["book"]
theorem sc_ring : FnScope N_ring ["book"] (defScope s_ring) := ⟨rfl, rfl, rfl, by decide +kernel, rfl, by decide +kernel, by decide +kernel⟩
local macro_rules | `(tactic| walk_at "el1") => `(tactic| with_reducible first
  | refine a_sasg ?_ | refine a_sdrop ?_ | refine a_saugS ?_ | refine a_spar ?_ | refine a_seq ?_ | refine a_asg ?_ | refine a_drop ?_ | refine a_ret ?_ | refine a_if ?_ | refine a_next ?_
  | refine a_op ?_ | refine a_cons ?_ | refine a_nil ?_ | refine a_cb ?_ | refine a_call ?_ | refine a_c ?_ | refine a_gn ?_ | refine a_nx ?_ | refine a_rt ?_ | refine a_un ?_
  | refine a_test ?_ | refine a_B ?_ | refine a_bl ?_ | refine a_and ?_ | refine a_or ?_ | refine a_not ?_ | refine a_andV ?_ | refine a_orV ?_ | refine a_notV ?_ | refine a_ifx ?_ | refine a_chain ?_
  | refine a_nT ?_ | refine a_nF ?_ | refine a_fld ?_ | refine a_getF ?_ | refine a_T ?_ | refine a_F ?_ | refine a_tup ?_ | refine a_lst ?_ | refine a_sub ?_ | refine a_augS ?_ | refine a_two ?_ | refine a_I0 ?_ | refine a_U ?_ | refine n_add ?_ | refine n_int ?_ | refine n_ib ?_ | refine a_ip ?_ | refine a_rng1 ?_ | refine a_rng2 ?_ | refine a_bm ?_ | refine a_abs ?_ | refine a_pairs ?_ | refine a_pairs0 ?_ | refine a_bk ?_ | refine a_prp ?_ | refine a_lc ?_ | refine a_yes ?_ | refine a_sl ?_ | refine a_nop ?_ | refine a_prt ?_ | refine a_ex1 ?_ | refine a_for ?_ | refine a_sfor ?_ | refine a_iE1 ?_ | refine a_iEs ?_ | refine a_iEz ?_ | refine a_iEnum ?_ | refine a_iTup ?_ | refine a_iList ?_ | refine a_gcons ?_ | refine a_gnil ?_ | refine a_revT ?_ | refine a_spar3 ?_ | refine a_par3 ?_ | refine a_three ?_)
local macro_rules | `(tactic| walk_at "el2") => `(tactic| first
  | (refine a_var (by rfl) ?_)
  | (refine n_ixL (SqL.of (by assumption)) (by rfl) ?_) | (refine n_ixT (SqT.of (by assumption)) (by rfl) ?_) | (refine n_eq (by rfl) ?_) | (refine n_ne (by rfl) ?_)
  | (refine n_isN ?_) | (refine n_notN ?_) | (refine n_isB ?_) | (refine n_notB ?_) | (refine n_isBI ?_) | (refine n_notBI ?_) | (refine n_len (.inl (SqL.of (by assumption))) ?_) | (refine n_len (.inr (SqT.of (by assumption))) ?_)
  | (refine a_getL (SqL.of (by assumption)) (by rfl) ?_)
  | (refine n_isInt (by assumption) ?_) | (refine n_isBool (by assumption) ?_) | (refine n_isStr (by assumption) ?_) | (refine n_isTup (by assumption) ?_) | (refine n_isLst (by assumption) ?_))
local macro_rules | `(tactic| walk_at "el") => `(tactic| repeat (first | walk_at "el1" | walk_at "el2"))

/-! ### the best ways that the program finds -/
/-- tuples stay -/
def Tups (H H' : Hp) : Prop := ∀ a xs, H a = some (.tup xs) → H' a = some (.tup xs)
theorem tups_same {H H' : Hp} (s : Same H H') : Tups H H' := fun a xs h => s a _ h
theorem Tups.trans {H H1 H2 : Hp} (a : Tups H H1) (b : Tups H1 H2) : Tups H H2 := fun x xs h => b x xs (a x xs h)
theorem tups_lst {H : Hp} {l : Addr} {xs : List V} {o : HO} (h : H l = some (.lst xs)) : Tups H (upd H l o) := fun a ys ha => by
  rw [upd_ne (fun z => by rw [z, h] at ha; cases ha)]
  exact ha
theorem tups_kp {H H' : Hp} {b c : Addr} (hb : Bag H b c) (k : Kp b H H') : Tups H H' := fun a xs h => k a _ (hb.neT h) h
abbrev ixs (is : List Nat) : List V := is.map fun (i : Nat) => V.int (i : Int)
theorem ixs_snoc (a : List Nat) (i : Nat) : ixs a ++ [V.int ((0 : Int) + (i : Int))] = ixs (a ++ [i]) := by
  rw [Int.zero_add]
  exact (List.map_append (f := fun (i : Nat) => V.int (i : Int)) (l₁ := a) (l₂ := [i])).symm
def CellIs (H : Hp) (v : V) (o : Option (Int × List Nat)) : Prop := (o = none ∧ v = .non) ∨ ∃ (y : Int × List Nat) (q r : Addr), o = some y ∧ v = .ref q ∧ H q = some (.tup [.int y.1, .ref r]) ∧ H r = some (.tup (ixs y.2))
theorem CellIs.tups {H H' : Hp} {v : V} {o : Option (Int × List Nat)} (h : CellIs H v o) (t : Tups H H') : CellIs H' v o := by
  rcases h with h | ⟨y, q, r, e, e2, hq, hr⟩
  · exact .inl h
  · exact .inr ⟨y, q, r, e, e2, t _ _ hq, t _ _ hr⟩
structure BestAt (H : Hp) (vs : List V) (f : WM.Best) (n : Nat) : Prop where
  len : vs.length = n
  at_ : ∀ (i : Nat) (v : V), vs[i]? = some v → CellIs H v (f (i : Int))
theorem BestAt.tups {H H' : Hp} {vs : List V} {f : WM.Best} {n : Nat} (h : BestAt H vs f n) (t : Tups H H') : BestAt H' vs f n := ⟨h.len, fun i v hv => (h.at_ i v hv).tups t⟩
theorem BestAt.get {H : Hp} {vs : List V} {f : WM.Best} {n : Nat} (h : BestAt H vs f n) {a : Int} (h0 : 0 ≤ a) (h1 : a < n) : ∃ v, atI vs a = some v ∧ CellIs H v (f a) := by
  obtain ⟨m, rfl⟩ : ∃ m : Nat, a = m := ⟨a.toNat, by omega⟩
  have l : m < vs.length := by rw [h.len]; omega
  exact ⟨vs[m], atI_nat (List.getElem?_eq_getElem l), h.at_ m _ (List.getElem?_eq_getElem l)⟩
theorem BestAt.put {H : Hp} {vs : List V} {f : WM.Best} {n : Nat} (h : BestAt H vs f n) {a : Int} (h0 : 0 ≤ a) (h1 : a < n) {v : V} {y : Int × List Nat} (c : CellIs H v (some y)) : BestAt H (vs.set a.toNat v) (WM.putB f a y) n := by
  refine ⟨by rw [List.length_set]; exact h.len, fun i w hw => ?_⟩
  rw [List.getElem?_set] at hw
  by_cases e : a.toNat = i
  · rw [if_pos e] at hw
    split at hw
    · cases hw
      have : (i : Int) = a := by omega
      rw [this, WM.putB_at]
      exact c
    · cases hw
  · rw [if_neg e] at hw
    rw [WM.putB_ne (by omega)]
    exact h.at_ i w hw
theorem ixnW {n : Nat} {k : Int} (h0 : 0 ≤ k) (h : k < n) : ixN n k = some k.toNat := by
  unfold ixN
  rw [if_pos h0, if_pos h]
theorem non_no {q : Addr} : decide (V.ref q = V.non) = false := decide_eq_false (fun h => nomatch h)
def WaysAt (H : Hp) (w : Addr) (G : List (Int × Int × Int)) (n : Nat) : Prop := ∃ rs : List Addr, H w = some (.lst (rs.map V.ref)) ∧ rs.length = n ∧ ∀ (s : Nat) (r : Addr), rs[s]? = some r → ∃ ws, H r = some (.lst ws) ∧ BestAt H ws (WM.bf G s n) n
theorem WaysAt.same {H H' : Hp} {w : Addr} {G : List (Int × Int × Int)} {n : Nat} (h : WaysAt H w G n) (s : Same H H') : WaysAt H' w G n := by
  obtain ⟨rs, h1, h2, h3⟩ := h
  refine ⟨rs, s _ _ h1, h2, fun i r hr => ?_⟩
  obtain ⟨ws, a, b⟩ := h3 i r hr
  exact ⟨ws, s _ _ a, b.tups (tups_same s)⟩
/-- the first way round above 0 -/
def ringN (G : List (Int × Int × Int)) (n : Nat) : Nat → Option (List Nat)
  | 0 => none
  | k + 1 => match ringN G n k with
    | some r => some r
    | none => match WM.bf G k n k with
      | some y => if 0 < y.1 then some y.2 else none
      | none => none
def RingIs (H : Hp) (v : V) (o : Option (List Nat)) : Prop := (o = none ∧ v = .non) ∨ ∃ (is : List Nat) (r : Addr), o = some is ∧ v = .ref r ∧ H r = some (.tup (ixs is))
theorem RingIs.tups {H H' : Hp} {v : V} {o : Option (List Nat)} (h : RingIs H v o) (t : Tups H H') : RingIs H' v o := by
  rcases h with h | ⟨is, r, e, e2, hr⟩
  · exact .inl h
  · exact .inr ⟨is, r, e, e2, t _ _ hr⟩
theorem ringN_none {G : List (Int × Int × Int)} {n : Nat} : ∀ (k : Nat), ringN G n k = none ↔ ¬ ∃ e : Nat, e < k ∧ ∃ y, WM.bf G e n e = some y ∧ 0 < y.1
  | 0 => ⟨fun _ ⟨e, h, _⟩ => by omega, fun _ => rfl⟩
  | k + 1 => by
    unfold ringN
    cases e : ringN G n k with
    | some r =>
      refine ⟨(fun h => by cases h), fun h => ?_⟩
      have : ¬ ringN G n k = none := by rw [e]; exact fun z => by cases z
      rw [ringN_none k] at this
      exact absurd (fun ⟨e, he, q⟩ => h ⟨e, by omega, q⟩) this
    | none =>
      have q := (ringN_none k).mp e
      simp only
      cases b : WM.bf G k n k with
      | none =>
        refine ⟨fun _ ⟨m, hm, y, hy, lt⟩ => ?_, fun _ => rfl⟩
        by_cases z : m = k
        · subst z; rw [b] at hy; cases hy
        · exact q ⟨m, by omega, y, hy, lt⟩
      | some y =>
        simp only
        by_cases lt : 0 < y.1
        · rw [if_pos lt]
          exact ⟨(fun h => by cases h), fun h => absurd ⟨k, by omega, y, b, lt⟩ h⟩
        · rw [if_neg lt]
          refine ⟨fun _ ⟨m, hm, y', hy, lt'⟩ => ?_, fun _ => rfl⟩
          by_cases z : m = k
          · subst z; rw [b] at hy; cases hy; exact lt lt'
          · exact q ⟨m, by omega, y', hy, lt'⟩
theorem ringN_some {G : List (Int × Int × Int)} {n : Nat} {is : List Nat} : ∀ (k : Nat), ringN G n k = some is → ∃ e : Nat, e < k ∧ WM.wk G e is = some (e : Int) ∧ 0 < WM.sm G is ∧ is.length ≤ n
  | 0, h => by cases h
  | k + 1, h => by
    unfold ringN at h
    cases e : ringN G n k with
    | some r =>
      rw [e] at h
      cases h
      obtain ⟨m, a, b⟩ := ringN_some k e
      exact ⟨m, by omega, b⟩
    | none =>
      rw [e] at h
      simp only at h
      cases b : WM.bf G k n k with
      | none => rw [b] at h; cases h
      | some y =>
        rw [b] at h
        simp only at h
        by_cases lt : 0 < y.1
        · rw [if_pos lt] at h
          cases h
          obtain ⟨h1, h2, h3⟩ := WM.bf_sound n _ _ b
          exact ⟨k, by omega, h1, by omega, h3⟩
        · rw [if_neg lt] at h
          cases h
theorem ringN_stay {G : List (Int × Int × Int)} {n i : Nat} {is : List Nat} (h : ringN G n i = some is) : ∀ (k : Nat), ringN G n (i + k) = some is
  | 0 => h
  | k + 1 => by
    show ringN G n (i + k + 1) = some is
    unfold ringN
    rw [ringN_stay h k]
theorem ring_pos {G : List (Int × Int × Int)} {n : Nat} (hG : WM.InG G n) : ringN G n n = none ↔ ¬ WM.Pos G := by rw [ringN_none, WM.bf_pos hG]
def spMore (K : Frag) : Sp := fun vs H Q _ => ∃ (g bl : Addr) (gs ws : List V) (G : List (Int × Int × Int)) (f : WM.Best) (n : Nat), vs = [.ref g, .ref bl] ∧ SqT K H g gs ∧ RowsAre encT H gs G ∧ H bl = some (.lst ws) ∧ BestAt H ws f n ∧ WM.InG G n ∧ n ≤ 1000 ∧ (∀ v y, f v = some y → y.2.length ≤ 1000) ∧
  ∀ H' r ws', Same H H' → H r = none → H' r = some (.lst ws') → BestAt H' ws' (WM.more G f) n → Q (.ref r) H'
section
variable {P : Program} {w : World} {K : Frag} {mg : Str → Option Value} {base : Heap} {f : Addr} {fd : FuncData} {C : Addr}
theorem ok_more (F : Fun K "_with_one_gap_more" "_with_one_gap_more" s__with_one_gap_more f fd) (T : Tb mg) : FnOk P w K mg base CX0 1 f fd ["gaps", "best"] (spMore K) := by
  refine F.ok sc__with_one_gap_more (fun vs H Q E h => ?_) (fun cdv A outer s H vs Q E hr h => ?_)
  · obtain ⟨_, _, _, _, _, _, _, rfl, _⟩ := h
    rfl
  · obtain ⟨g, bl, gs, ws, G, f, n, rfl, hg, hR, hbl, hB, hG, n8, hf, k⟩ := h
    refine ⟨_, (pss_cons (ps_set (i := 2) sc__with_one_gap_more.nd rfl (Or.inl rfl) (pe_callTy u_list rfl T.b.list_ (by decide +kernel) (pa_cons (pv 1) pa_nil)))
  (pss_cons (ps_for PassesOwn.never rfl (pi_e1 rfl T.b.enumerate_ (pa_cons (pv 0) pa_nil)) (pg_tup rfl (pgs_cons (pg_name (i := 3) sc__with_one_gap_more.nd rfl (Or.inl rfl)) (pgs_cons (pg_tup rfl (pgs_cons (pg_name (i := 4) sc__with_one_gap_more.nd rfl (Or.inl rfl)) (pgs_cons (pg_name (i := 5) sc__with_one_gap_more.nd rfl (Or.inl rfl)) (pgs_cons (pg_name (i := 6) sc__with_one_gap_more.nd rfl (Or.inl rfl)) pgs_nil)))) pgs_nil)))
    (pss_one (ps_if (pt_cmpR u_isnot (pe_ix ix_seq (pv 1) (pv 4) (fun _ _ => rfl)) pe_non (nomark _))
    (pss_cons (ps_asg (pe_ix ix_seq (pv 1) (pv 4) (fun _ _ => rfl)) (pg_tup rfl (pgs_cons (pg_name (i := 7) sc__with_one_gap_more.nd rfl (Or.inl rfl)) (pgs_cons (pg_name (i := 8) sc__with_one_gap_more.nd rfl (Or.inl rfl)) pgs_nil))))
  (pss_one (ps_if (PW.pt (pw_or (pt_cmpR u_is (pe_ix ix_seq (pv 2) (pv 5) (fun _ _ => rfl)) pe_non (nomark _)) (pw_or1 (pt_cmpR op_lt (pe_ix ix_seq (pe_ix ix_seq (pv 2) (pv 5) (fun _ _ => rfl)) pe_int (fun _ _ => rfl)) (pe_op u_add (pv 7) (pv 6)) (nomark _)))))
    (pss_one (ps_asg (pe_tup (pa_cons (pe_op u_add (pv 7) (pv 6)) (pa_cons (pe_op u_add (pv 8) (pe_tup (pa_cons (pv 3) pa_nil))) pa_nil))) (pg_sub (pv 2) (pv 5) set_list)))
    pss_nil)))
    pss_nil)))
  (pss_one (ps_ret (pv 2))))), ?_⟩
    walk_at "el"
    refine ⟨bl, ws, rfl, .inl (SqL.of hbl), fun l hl => ?_⟩
    walk_at "el"
    refine ⟨g, _, rfl, hg.same (nw_of hl _), ?_⟩
    refine lp_it (walk_es (xs := gs)) (fun i σ H3 => Same H H3 ∧ ∃ ws', H3 l = some (.lst ws') ∧ BestAt H3 ws' (WM.goN G f i) n ∧ ∃ v3 v4 v5 v6 v7 v8, σ = [some (.ref g), some (.ref bl), some (.ref l), v3, v4, v5, v6, v7, v8]) ⟨nw_of hl _, ws, upd_same, hB.tups (tups_same (nw_of hl _)), _, _, _, _, _, _, rfl⟩ (fun i σ H3 hi h => hg.same h.1) ?_ ?_
    · rintro i x σ H3 H4 hi ⟨s3, ws', hl3, hB3, v3, v4, v5, v6, v7, v8, rfl⟩ ⟨r, y, rfl, hr0, rfl, hyi⟩
      have e4 := nw_of hr0 (.tup [.int ((0 : Int) + i), y])
      have g4 := upd_at hr0 (.tup [.int ((0 : Int) + i), y])
      have s4 : Same H _ := fun a o h => e4 a o (s3 a o h)
      have hl4 := e4 _ _ hl3
      have hB4 := hB3.tups (tups_same e4)
      have hf4 := hB.tups (tups_same s4)
      have hbl4 := s4 _ _ hbl
      obtain ⟨u, z, rfl, hz, hu⟩ := (hR.same s4).at_ i y hyi
      obtain ⟨⟨a0, a1⟩, ⟨b0, b1⟩⟩ := hG z (List.mem_of_getElem? hz)
      obtain ⟨va, hva, ca⟩ := hf4.get a0 a1
      obtain ⟨vb, hvb, cb⟩ := hB4.get b0 b1
      have hsuc := WM.goN_succ (best := f) hz
      generalize upd H3 r (.tup [.int ((0 : Int) + i), .ref u]) = H4 at e4 g4 s4 hl4 hB4 hf4 hbl4 hu ca cb ⊢
      clear hr0 e4 hB3 hl3 s3
      refine a_gtup (SqT.of g4) rfl ?_
      walk_at "el"
      refine a_gtup (SqT.of hu) rfl ?_
      walk_at "el"
      refine n_ixL (SqL.of hbl4) hva ?_
      walk_at "el"
      rcases ca with ⟨fa, rfl⟩ | ⟨ya, qa, ra, fa, rfl, hqa, hra⟩
      · rw [decide_eq_true rfl]
        walk_at "el"
        exact ⟨s4, ws', hl4, by rw [hsuc, WM.up1_none fa]; exact hB4, _, _, _, _, _, _, rfl⟩
      · rw [non_no]
        walk_at "el"
        refine n_ixL (SqL.of hbl4) hva ?_
        refine a_gtup (SqT.of hqa) rfl ?_
        walk_at "el"
        refine n_ixL (SqL.of hl4) hvb ?_
        walk_at "el"
        have lya := hf _ _ fa
        rcases cb with ⟨fb, rfl⟩ | ⟨yb, qb, rb, fb, rfl, hqb, hrb⟩
        · rw [decide_eq_true rfl]
          have hup := WM.up1_new (best := f) (longer := WM.goN G f i) (i := i) fa fb
          walk_at "el"
          refine ⟨by show 1 ≤ sizeLine; decide, fun p5 hp5 => ?_⟩
          have e5 := nw_of hp5 (.tup [.int ((0 : Int) + i)])
          have g5 := upd_at hp5 (.tup [.int ((0 : Int) + i)])
          refine n_catT (e5 _ _ hra) g5 (by show (ixs ya.2).length + 1 ≤ sizeLine; rw [List.length_map]; exact Nat.le_trans (Nat.succ_le_succ lya) (by decide)) fun p6 H6 k6 hp6 => ?_
          walk_at "el"
          refine ⟨by show 2 ≤ sizeLine; decide, fun p7 hp7 => ?_⟩
          have e7 := nw_of hp7 (.tup [.int (ya.1 + z.2.2), .ref p6])
          have g7 := upd_at hp7 (.tup [.int (ya.1 + z.2.2), .ref p6])
          have s7 : Same _ _ := fun a o h => e7 a o (k6 _ _ (e5 _ _ h))
          have hl7 := s7 _ _ hl4
          have hp67 := e7 _ _ hp6
          walk_at "el"
          refine a_set hl7 (ixnW b0 (by rw [hB4.len]; exact b1)) ?_
          walk_at "el"
          have eix := ixs_snoc ya.2 i
          rw [eix] at hp67
          have hB7 := hB4.tups ((tups_same s7).trans (tups_lst hl7 (o := .lst (ws'.set z.2.1.toNat (.ref p7)))))
          refine ⟨(s4.trans s7).mu hl, _, upd_same, ?_, _, _, _, _, _, _, rfl⟩
          rw [hsuc, hup]
          exact hB7.put b0 b1 (.inr ⟨_, p7, p6, rfl, rfl, tups_lst hl7 _ _ g7, tups_lst hl7 _ _ hp67⟩)
        · rw [non_no]
          walk_at "el"
          refine n_ixL (SqL.of hl4) hvb ?_
          refine n_ixT (SqT.of hqb) rfl ?_
          walk_at "el"
          refine ite2 (fun g1 => ?_) (fun g1 => ?_)
          · have hup := WM.up1_gt (best := f) (longer := WM.goN G f i) (i := i) fa fb (of_decide_eq_true g1)
            walk_at "el"
            refine ⟨by show 1 ≤ sizeLine; decide, fun p5 hp5 => ?_⟩
            have e5 := nw_of hp5 (.tup [.int ((0 : Int) + i)])
            have g5 := upd_at hp5 (.tup [.int ((0 : Int) + i)])
            refine n_catT (e5 _ _ hra) g5 (by show (ixs ya.2).length + 1 ≤ sizeLine; rw [List.length_map]; exact Nat.le_trans (Nat.succ_le_succ lya) (by decide)) fun p6 H6 k6 hp6 => ?_
            walk_at "el"
            refine ⟨by show 2 ≤ sizeLine; decide, fun p7 hp7 => ?_⟩
            have e7 := nw_of hp7 (.tup [.int (ya.1 + z.2.2), .ref p6])
            have g7 := upd_at hp7 (.tup [.int (ya.1 + z.2.2), .ref p6])
            have s7 : Same _ _ := fun a o h => e7 a o (k6 _ _ (e5 _ _ h))
            have hl7 := s7 _ _ hl4
            have hp67 := e7 _ _ hp6
            walk_at "el"
            refine a_set hl7 (ixnW b0 (by rw [hB4.len]; exact b1)) ?_
            walk_at "el"
            have eix := ixs_snoc ya.2 i
            rw [eix] at hp67
            have hB7 := hB4.tups ((tups_same s7).trans (tups_lst hl7 (o := .lst (ws'.set z.2.1.toNat (.ref p7)))))
            refine ⟨(s4.trans s7).mu hl, _, upd_same, ?_, _, _, _, _, _, _, rfl⟩
            rw [hsuc, hup]
            exact hB7.put b0 b1 (.inr ⟨_, p7, p6, rfl, rfl, tups_lst hl7 _ _ g7, tups_lst hl7 _ _ hp67⟩)
          · have hup := WM.up1_le (best := f) (longer := WM.goN G f i) (i := i) fa fb (fun q => g1 (decide_eq_true q))
            walk_at "el"
            exact ⟨s4, ws', hl4, by rw [hsuc, hup]; exact hB4, _, _, _, _, _, _, rfl⟩
    · rintro σ H3 ⟨s3, ws', hl3, hB3, v3, v4, v5, v6, v7, v8, rfl⟩
      walk_at "el"
      refine k H3 l ws' s3 hl hl3 ?_
      have : gs.length = G.length := hR.len
      rw [this] at hB3
      exact hB3
end
theorem bf_len {G : List (Int × Int × Int)} {s : Int} {k : Nat} : ∀ v y, WM.bf G s k v = some y → y.2.length ≤ k := fun v y h => (WM.bf_sound k v y h).2.2
theorem bf_self {G : List (Int × Int × Int)} {s : Int} {k : Nat} : ∃ y, WM.bf G s k s = some y := by
  obtain ⟨y, h, _⟩ := WM.bf_all (G := G) k [] s rfl (Nat.zero_le _)
  exact ⟨y, h⟩
theorem ok_inG {D : PD} {ev wi : Int} (ok : D.Ok ev wi) (e0 : 0 ≤ ev) : WM.InG D.G ev.toNat := fun x hx => by
  have := ok.g x hx
  have e : ((ev.toNat : Nat) : Int) = ev := by omega
  rw [e]
  exact ⟨this.1, this.2.1⟩
/-- a book that is asked for its ways -/
structure BkW (K : Frag) (C : Addr) (H : Hp) (A : BA) (D : PD) : Prop where
  bb : BB K C H A D
  g : WM.InG D.G A.ev.toNat
  e0 : 0 ≤ A.ev
  e8 : A.ev ≤ 8
theorem BkW.same {K : Frag} {C : Addr} {H H' : Hp} {A : BA} {D : PD} (h : BkW K C H A D) (s : Same H H') : BkW K C H' A D := ⟨h.bb.same s, h.g, h.e0, h.e8⟩
def spBest (K : Frag) (C : Addr) : Sp := fun vs H Q _ => ∃ (A : BA) (D : PD) (s : Nat), vs = [.ref A.o, .int (s : Int)] ∧ BkW K C H A D ∧ s < A.ev.toNat ∧
  ∀ H' r ws', Same H H' → H r = none → H' r = some (.lst ws') → BestAt H' ws' (WM.bf D.G s A.ev.toNat) A.ev.toNat → Q (.ref r) H'
def spAll (K : Frag) (C : Addr) : Sp := fun vs H Q _ => ∃ (A : BA) (D : PD), vs = [.ref A.o] ∧ BkW K C H A D ∧ ∀ H' r, Same H H' → H r = none → WaysAt H' r D.G A.ev.toNat → Q (.ref r) H'
def spRingIn (K : Frag) : Sp := fun vs H Q _ => ∃ (w : Addr) (G : List (Int × Int × Int)) (n : Nat), vs = [.ref w] ∧ WaysAt H w G n ∧ n ≤ 1000 ∧ ∀ H' v, Same H H' → RingIs H' v (ringN G n n) → Q v H'
def spRing (K : Frag) (C : Addr) : Sp := fun vs H Q _ => ∃ (A : BA) (D : PD), vs = [.ref A.o] ∧ BkW K C H A D ∧ ∀ H' v, Same H H' → RingIs H' v (ringN D.G A.ev.toNat A.ev.toNat) → Q v H'
section
variable {P : Program} {w : World} {K : Frag} {mg : Str → Option Value} {base : Heap} {f : Addr} {fd : FuncData} {C : Addr}
theorem ok_best_ways (F : Fun K "_best_ways" "_best_ways" s__best_ways f fd) (T : Tb mg) (p_events : PrpG P w K mg base C "events" "_events") (p_gaps : PrpG P w K mg base C "gaps" "_gaps") (c__with_one_gap_more : Cal P w K mg base CX0 1 "_with_one_gap_more" ["gaps", "best"] (spMore K)) : FnOk P w K mg base CX0 3 f fd ["book", "start"] (spBest K C) := by
  refine F.ok sc__best_ways (fun vs H Q E h => ?_) (fun cdv A outer s H vs Q E hr h => ?_)
  · obtain ⟨_, _, _, rfl, _⟩ := h
    rfl
  · obtain ⟨B, D, st, rfl, hB, hst, k⟩ := h
    refine ⟨_, (pss_cons (ps_set (i := 2) sc__best_ways.nd rfl (Or.inl rfl) (pe_op u_mul (pe_lst (pa_cons pe_non pa_nil)) (pe_prp p_events (hr.mono (by decide)) (pv 0))))
  (pss_cons (ps_asg (pe_tup (pa_cons pe_int (pa_cons (pe_tup pa_nil) pa_nil))) (pg_sub (pv 2) (pv 1) set_list))
  (pss_cons (ps_for PassesOwn.never rfl (pi_range1 rfl T.b.range_ (pa_cons (pe_prp p_events (hr.mono (by decide)) (pv 0)) pa_nil)) (pg_name (i := 3) sc__best_ways.nd rfl (Or.inl rfl))
    (pss_one (ps_set (i := 2) sc__best_ways.nd rfl (Or.inl rfl) (pe_cal c__with_one_gap_more (hr.mono (by decide)) pass0 (pa_cons (pe_prp p_gaps (hr.mono (by decide)) (pv 0)) (pa_cons (pv 2) pa_nil))))))
  (pss_one (ps_ret (pv 2)))))), ?_⟩
    have e0 := hB.e0
    have e8 := hB.e8
    have hbk := hB.bb.bk
    walk_at "el"
    refine ⟨by show 1 ≤ sizeLine; decide, fun p1 hp1 => ?_⟩
    have e1 := nw_of hp1 (.lst [.non])
    have g1 := upd_at hp1 (.lst [.non])
    have hB1 := hB.same e1
    have hbk1 := hB1.bb.bk
    generalize upd H p1 (.lst [.non]) = H1 at e1 g1 hB1 hbk1 ⊢
    walk_at "el"
    refine n_prp hbk1 rfl ?_
    refine .inr ⟨p1, B.ev, [.non], rfl, rfl, g1, by omega, by omega, by show 1 * B.ev.toNat ≤ sizeLine; exact Nat.le_trans (m := 8) (by omega) (by decide), fun l hl => ?_⟩
    have el : (List.replicate B.ev.toNat [V.non]).flatten = List.replicate B.ev.toNat V.non := by
      generalize B.ev.toNat = m
      induction m with
      | zero => rfl
      | succ m ih => rw [List.replicate_succ, List.flatten_cons, ih, List.replicate_succ]; rfl
    rw [el]
    have e2 := nw_of hl (.lst (List.replicate B.ev.toNat V.non))
    have g2 := upd_at hl (.lst (List.replicate B.ev.toNat V.non))
    have l0 : H l = none := e1.free hl
    have s2 : Same H _ := fun a o h => e2 a o (e1 a o h)
    generalize upd H1 l (.lst (List.replicate B.ev.toNat V.non)) = H2 at e2 g2 s2 ⊢
    walk_at "el"
    refine ⟨by decide, fun p3 hp3 => ?_⟩
    have e3 := nw_of hp3 (.tup [])
    have g3 := upd_at hp3 (.tup [])
    generalize upd H2 p3 (.tup []) = H3 at e3 g3 ⊢
    walk_at "el"
    refine ⟨by show 2 ≤ sizeLine; decide, fun p4 hp4 => ?_⟩
    have e4 := nw_of hp4 (.tup [.int 0, .ref p3])
    have g4 := upd_at hp4 (.tup [.int 0, .ref p3])
    have g34 := e4 _ _ g3
    have g24 := e4 _ _ (e3 _ _ g2)
    have s4 : Same H _ := fun a o h => e4 a o (e3 a o (s2 a o h))
    generalize upd H3 p4 (.tup [.int 0, .ref p3]) = H4 at g4 g34 g24 s4 ⊢
    walk_at "el"
    refine a_set g24 (ixnW (by omega) (by rw [List.length_replicate]; omega)) ?_
    have c4 : CellIs H4 (.ref p4) (some (0, [])) := .inr ⟨_, p4, p3, rfl, rfl, g4, g34⟩
    have B4 : BestAt H4 (List.replicate B.ev.toNat V.non) (fun _ => none) B.ev.toNat := ⟨List.length_replicate, fun i v hv => by
      have := List.mem_of_getElem? hv
      rw [List.mem_replicate] at this
      exact .inl ⟨rfl, this.2⟩⟩
    have B5 := (B4.put (a := (st : Int)) (by omega) (by omega) c4).tups (tups_lst g24 (o := .lst ((List.replicate B.ev.toNat V.non).set ((st : Int)).toNat (.ref p4))))
    have s5 : Same H (upd H4 l (.lst ((List.replicate B.ev.toNat V.non).set ((st : Int)).toNat (.ref p4)))) := s4.mu l0
    have g5 := upd_same (H := H4) (a := l) (o := .lst ((List.replicate B.ev.toNat V.non).set ((st : Int)).toNat (.ref p4)))
    generalize upd H4 l (.lst ((List.replicate B.ev.toNat V.non).set ((st : Int)).toNat (.ref p4))) = H5 at B5 s5 g5 ⊢
    have hbk5 := s5 _ _ hbk
    walk_at "el"
    refine n_prp hbk5 rfl ?_
    refine ⟨B.ev, rfl, by omega, by omega, ?_⟩
    refine lp_range (fun i σ H6 => Same H H6 ∧ ∃ l' ws', H l' = none ∧ H6 l' = some (.lst ws') ∧ BestAt H6 ws' (WM.bf D.G st i) B.ev.toNat ∧ ∃ v3, σ = [some (.ref B.o), some (.int (st : Int)), some (.ref l'), v3]) ⟨s5, l, _, l0, g5, B5, _, rfl⟩ ?_ ?_
    · rintro i σ H6 hi ⟨s6, l', ws', l0', hl6, hB6, v3, rfl⟩
      have W6 := hB.same s6
      have hbk6 := W6.bb.bk
      walk_at "el"
      refine n_prp hbk6 rfl ?_
      walk_at "el"
      refine ⟨B.g, l', B.xs .gap, ws', D.G, _, B.ev.toNat, rfl, W6.bb.tG, W6.bb.r.g, hl6, hB6, hB.g, by omega, fun v y hy => Nat.le_trans (bf_len v y hy) (by omega), fun H7 r ws7 s7 hr7 hr7' hB7 => ?_⟩
      walk_at "el"
      exact ⟨s6.trans s7, r, ws7, s6.free hr7, hr7', hB7, _, rfl⟩
    · rintro σ H6 ⟨s6, l', ws', l0', hl6, hB6, v3, rfl⟩
      walk_at "el"
      exact k H6 l' ws' s6 l0' hl6 hB6
theorem ok_all_ways (F : Fun K "all_ways" "all_ways" s_all_ways f fd) (T : Tb mg) (p_events : PrpG P w K mg base C "events" "_events") (c__best_ways : Cal P w K mg base CX0 3 "_best_ways" ["book", "start"] (spBest K C)) : FnOk P w K mg base CX0 4 f fd ["book"] (spAll K C) := by
  refine F.ok sc_all_ways (fun vs H Q E h => ?_) (fun cdv A outer s H vs Q E hr h => ?_)
  · obtain ⟨_, _, rfl, _⟩ := h
    rfl
  · obtain ⟨B, D, rfl, hB, k⟩ := h
    refine ⟨_, (pss_one (ps_ret (pe_lc (own := [("start", 1)]) rfl sc_all_ways.nd (pi_range1 rfl T.b.range_ (pa_cons (pe_prp p_events (hr.mono (by decide)) (pv 0)) pa_nil)) (blkOk_by (own := [("start", 1)]) (N := N_all_ways) (sc := defScope s_all_ways) (by decide +kernel)) (fun _ _ _ _ _ => (pg_name (i := 1) sc_all_ways.nd rfl (Or.inl rfl))) (fun _ _ _ _ _ => pts_nil) (fun _ _ _ _ _ => (pe_cal c__best_ways (hr.mono (by decide)) pass0 (pa_cons (pv 0) (pa_cons (pv 1) pa_nil))))))), ?_⟩
    have e0 := hB.e0
    have e8 := hB.e8
    have hbk := hB.bb.bk
    walk_at "el"
    refine n_prp hbk rfl ?_
    refine ⟨B.ev, rfl, by omega, by omega, fun D0 hD0 => ?_⟩
    have nw := nw_of hD0 (.lst [])
    refine lc_of walk_range (fun i H3 => Same H H3 ∧ ∃ rs : List Addr, H3 D0 = some (.lst (rs.map V.ref)) ∧ rs.length = i ∧ ∀ (s : Nat) (r : Addr), rs[s]? = some r → r ≠ D0 ∧ ∃ ws, H3 r = some (.lst ws) ∧ BestAt H3 ws (WM.bf D.G s B.ev.toNat) B.ev.toNat) ⟨nw, [], upd_same, rfl, fun s r h => by cases h⟩ (fun _ _ _ _ => trivial) ?_ ?_
    · rintro i x H3 H4 hi ⟨s3, rs, hD3, hl3, at3⟩ ⟨rfl, rfl⟩
      have ei : (0 : Int) + (i : Int) = i := Int.zero_add _
      walk_at "el"
      refine ⟨rfl, ?_⟩
      walk_at "el"
      refine ⟨B, D, i, by rw [← ei], hB.same s3, hi, fun H5 r ws' s5 hr5 hr5' hB5 => ?_⟩
      have rD : r ≠ D0 := fun z => by rw [z, hD3] at hr5; cases hr5
      have hD5 := s5 _ _ hD3
      refine ⟨_, hD5, by rw [List.length_map, hl3]; exact Nat.lt_of_lt_of_le (m := 8) (by omega) (by decide), (s3.trans s5).mu hD0, rs ++ [r], by rw [upd_same, List.map_append]; rfl, by rw [List.length_append, hl3]; rfl, fun s r' hs => ?_⟩
      have tu := tups_lst hD5 (o := .lst (List.map V.ref rs ++ [.ref r]))
      rw [List.getElem?_append] at hs
      split at hs
      · obtain ⟨ne, ws, a, b⟩ := at3 s r' hs
        exact ⟨ne, ws, by rw [upd_ne ne]; exact s5 _ _ a, (b.tups (tups_same s5)).tups tu⟩
      · have es : s = i := by
          rcases Nat.lt_or_ge (s - rs.length) 1 with q | q
          · omega
          · rw [List.getElem?_eq_none (by simpa using q)] at hs; cases hs
        subst es
        have er : r' = r := by
          rw [hl3, Nat.sub_self] at hs
          cases hs; rfl
        subst er
        exact ⟨rD, ws', by rw [upd_ne rD]; exact hr5', hB5.tups tu⟩
    · rintro H3 ⟨s3, rs, hD3, hl3, at3⟩
      walk_at "el"
      exact k H3 D0 s3 hD0 ⟨rs, hD3, hl3, fun s r hs => (at3 s r hs).2⟩
theorem ok_ring_in (F : Fun K "ring_in" "ring_in" s_ring_in f fd) (T : Tb mg) : FnOk P w K mg base CX0 1 f fd ["ways"] (spRingIn K) := by
  refine F.ok sc_ring_in (fun vs H Q E h => ?_) (fun cdv A outer s H vs Q E hr h => ?_)
  · obtain ⟨_, _, _, rfl, _⟩ := h
    rfl
  · obtain ⟨wa, G, n, rfl, hW, n8, k⟩ := h
    refine ⟨_, (pss_cons (ps_for PassesOwn.never rfl (pi_enum (by rfl) T.b.enumerate_ (pa_cons (pv 0) pa_nil)) (pg_tup rfl (pgs_cons (pg_name (i := 1) sc_ring_in.nd rfl (Or.inl rfl)) (pgs_cons (pg_name (i := 2) sc_ring_in.nd rfl (Or.inl rfl)) pgs_nil)))
    (pss_cons (ps_asg (pe_ix ix_seq (pv 2) (pv 1) (fun _ _ => rfl)) (pg_tup rfl (pgs_cons (pg_name (i := 3) sc_ring_in.nd rfl (Or.inl rfl)) (pgs_cons (pg_name (i := 4) sc_ring_in.nd rfl (Or.inl rfl)) pgs_nil))))
  (pss_one (ps_if (pt_cmpR op_gt (pv 3) pe_int (nomark _))
    (pss_one (ps_ret (pv 4)))
    pss_nil))))
  (pss_one (ps_ret pe_non))), ?_⟩
    obtain ⟨rs, hw, hl, hat⟩ := id hW
    walk_at "el"
    refine ⟨wa, _, rfl, SqL.of hw, ?_⟩
    refine lp_it walk_enum (fun i σ H3 => Same H H3 ∧ ringN G n i = none ∧ ∃ v1 v2 v3 v4, σ = [some (.ref wa), v1, v2, v3, v4]) ⟨Same.refl _, rfl, _, _, _, _, rfl⟩ (fun i σ H3 hi h => SqL.of (h.1 _ _ hw)) ?_ ?_
    · rintro i x σ H3 H4 hi ⟨s3, hn, v1, v2, v3, v4, rfl⟩ ⟨r, _, y, rfl, hr, rfl, ei, hy⟩
      cases ei
      have hy : (rs.map V.ref)[i]? = some y := hy
      rw [List.getElem?_map] at hy
      have hi2 : i < rs.length := by rw [List.length_map] at hi; exact hi
      rw [List.getElem?_eq_getElem hi2] at hy
      cases hy
      obtain ⟨ws, a, b⟩ := hat i _ (List.getElem?_eq_getElem hi2)
      have e4 := nw_of hr (.tup [.int (i : Int), .ref rs[i]])
      have g4 := upd_at hr (.tup [.int (i : Int), .ref rs[i]])
      have s4 : Same H _ := fun a o h => e4 a o (s3 a o h)
      have a4 := s4 _ _ a
      have b4 := b.tups (tups_same s4)
      generalize upd H3 r (.tup [.int (i : Int), .ref rs[i]]) = H4 at e4 g4 s4 a4 b4 ⊢
      obtain ⟨v, hv, cv⟩ := b4.get (a := (i : Int)) (by omega) (by omega)
      obtain ⟨y, hy⟩ := bf_self (G := G) (s := (i : Int)) (k := n)
      rw [hy] at cv
      rcases cv with ⟨z, _⟩ | ⟨y', q, r', z, rfl, hq, hr'⟩
      · cases z
      · cases z
        refine a_gtup (SqT.of g4) rfl ?_
        walk_at "el"
        refine n_ixL (SqL.of a4) hv ?_
        refine a_gtup (SqT.of hq) rfl ?_
        walk_at "el"
        refine ite2 (fun g => ?_) (fun g => ?_)
        · walk_at "el"
          refine k H4 _ s4 ?_
          have e : ringN G n (i + 1) = some y.2 := by
            unfold ringN
            rw [hn]
            simp only
            rw [hy]
            simp only
            rw [if_pos (by simpa using g)]
          have e2 := ringN_stay e (n - (i + 1))
          have e3 : i + 1 + (n - (i + 1)) = n := by omega
          rw [e3] at e2
          exact .inr ⟨y.2, r', e2, rfl, hr'⟩
        · walk_at "el"
          refine ⟨s4, ?_, _, _, _, _, rfl⟩
          unfold ringN
          rw [hn]
          simp only
          rw [hy]
          simp only
          rw [if_neg (by simpa using g)]
    · rintro σ H3 ⟨s3, hn, v1, v2, v3, v4, rfl⟩
      walk_at "el"
      rw [List.length_map, hl] at hn
      exact k H3 _ s3 (.inl ⟨hn, rfl⟩)
theorem ok_ring (F : Fun K "ring" "ring" s_ring f fd) (T : Tb mg) (c_ring_in : Cal P w K mg base CX0 1 "ring_in" ["ways"] (spRingIn K)) (c_all_ways : Cal P w K mg base CX0 4 "all_ways" ["book"] (spAll K C)) : FnOk P w K mg base CX0 5 f fd ["book"] (spRing K C) := by
  refine F.ok sc_ring (fun vs H Q E h => ?_) (fun cdv A outer s H vs Q E hr h => ?_)
  · obtain ⟨_, _, rfl, _⟩ := h
    rfl
  · obtain ⟨B, D, rfl, hB, k⟩ := h
    refine ⟨_, (pss_one (ps_ret (pe_cal c_ring_in (hr.mono (by decide)) pass0 (pa_cons (pe_cal c_all_ways (hr.mono (by decide)) pass0 (pa_cons (pv 0) pa_nil)) pa_nil)))), ?_⟩
    walk_at "el"
    refine ⟨B, D, rfl, hB, fun H1 r s1 _ hW => ?_⟩
    walk_at "el"
    refine ⟨r, D.G, B.ev.toNat, rfl, hW, by have := hB.e8; omega, fun H2 v s2 hv => ?_⟩
    walk_at "el"
    exact k H2 v (s1.trans s2) hv
end
end EL

/- part X -/
namespace EL
open PySem PySem.Spec PyProof.Rows L2
open PySem.W (Frag)
abbrev s_Wrong_init : Stmt := inClass (top 3) 0
abbrev N_Wrong_init : List Str := ["self", "place"]
theorem sc_Wrong_init : FnScope N_Wrong_init ["self", "place"] (defScope s_Wrong_init) := ⟨rfl, rfl, rfl, by decide +kernel, rfl, by decide +kernel, by decide +kernel⟩
abbrev s_BadItem_init : Stmt := inClass (top 4) 0
abbrev N_BadItem_init : List Str := ["self", "place", "index"]
theorem sc_BadItem_init : FnScope N_BadItem_init ["self", "place", "index"] (defScope s_BadItem_init) := ⟨rfl, rfl, rfl, by decide +kernel, rfl, by decide +kernel, by decide +kernel⟩
abbrev s_TooMany_init : Stmt := inClass (top 5) 0
abbrev N_TooMany_init : List Str := ["self", "limit"]
theorem sc_TooMany_init : FnScope N_TooMany_init ["self", "limit"] (defScope s_TooMany_init) := ⟨rfl, rfl, rfl, by decide +kernel, rfl, by decide +kernel, by decide +kernel⟩
local macro_rules | `(tactic| walk_at "el1") => `(tactic| with_reducible first
  | refine a_sasg ?_ | refine a_sdrop ?_ | refine a_saugS ?_ | refine a_spar ?_ | refine a_seq ?_ | refine a_asg ?_ | refine a_drop ?_ | refine a_ret ?_ | refine a_if ?_ | refine a_next ?_
  | refine a_op ?_ | refine a_cons ?_ | refine a_nil ?_ | refine a_cb ?_ | refine a_call ?_ | refine a_c ?_ | refine a_gn ?_ | refine a_nx ?_ | refine a_rt ?_ | refine a_un ?_
  | refine a_test ?_ | refine a_B ?_ | refine a_bl ?_ | refine a_and ?_ | refine a_or ?_ | refine a_not ?_ | refine a_andV ?_ | refine a_orV ?_ | refine a_notV ?_ | refine a_ifx ?_ | refine a_chain ?_
  | refine a_nT ?_ | refine a_nF ?_ | refine a_fld ?_ | refine a_getF ?_ | refine a_T ?_ | refine a_F ?_ | refine a_tup ?_ | refine a_lst ?_ | refine a_sub ?_ | refine a_augS ?_ | refine a_two ?_ | refine a_I0 ?_ | refine a_U ?_ | refine n_add ?_ | refine n_int ?_ | refine n_ib ?_ | refine a_ip ?_ | refine a_rng1 ?_ | refine a_rng2 ?_ | refine a_bm ?_ | refine a_abs ?_ | refine a_pairs ?_ | refine a_pairs0 ?_ | refine a_bk ?_ | refine a_prp ?_ | refine a_lc ?_ | refine a_yes ?_ | refine a_sl ?_ | refine a_nop ?_ | refine a_prt ?_ | refine a_ex1 ?_ | refine a_for ?_ | refine a_sfor ?_ | refine a_iE1 ?_ | refine a_iEs ?_ | refine a_iEz ?_ | refine a_iEnum ?_ | refine a_iTup ?_ | refine a_iList ?_ | refine a_gcons ?_ | refine a_gnil ?_ | refine a_revT ?_ | refine a_spar3 ?_ | refine a_par3 ?_ | refine a_three ?_)
local macro_rules | `(tactic| walk_at "el2") => `(tactic| first
  | (refine a_var (by rfl) ?_)
  | (refine n_ixL (SqL.of (by assumption)) (by rfl) ?_) | (refine n_ixT (SqT.of (by assumption)) (by rfl) ?_) | (refine n_eq (by rfl) ?_) | (refine n_ne (by rfl) ?_)
  | (refine n_isN ?_) | (refine n_notN ?_) | (refine n_isB ?_) | (refine n_notB ?_) | (refine n_isBI ?_) | (refine n_notBI ?_) | (refine n_len (.inl (SqL.of (by assumption))) ?_) | (refine n_len (.inr (SqT.of (by assumption))) ?_)
  | (refine a_getL (SqL.of (by assumption)) (by rfl) ?_)
  | (refine n_isInt (by assumption) ?_) | (refine n_isBool (by assumption) ?_) | (refine n_isStr (by assumption) ?_) | (refine n_isTup (by assumption) ?_) | (refine n_isLst (by assumption) ?_))
local macro_rules | `(tactic| walk_at "el") => `(tactic| repeat (first | walk_at "el1" | walk_at "el2"))

/-! ### errors that keep what they were made of -/
def spErr1 (C : Addr) (fld : Str) : Sp := fun vs H Q _ => ∃ (a : Addr) (y : V), vs = [.ref a, y] ∧ H a = some (exo a C none) ∧ ∀ dx, H dx = none → dx ≠ a → Q .non (upd (upd H dx (exd dx [(fld, y)])) a (exo a C (some dx)))
def spErr2 (C : Addr) (f1 f2 : Str) : Sp := fun vs H Q _ => ∃ (a : Addr) (y z : V), vs = [.ref a, y, z] ∧ H a = some (exo a C none) ∧ ∀ dx, H dx = none → dx ≠ a → Q .non (upd (upd (upd H dx (exd dx [(f1, y)])) a (exo a C (some dx))) dx (exd dx [(f2, z), (f1, y)]))
theorem err_heap {H : Hp} {a d C : Addr} {e1 e2 : HO} (ha : H a = none) (hd : d ≠ a) (fs : List (Str × V)) : upd (del (upd (upd (upd H a e1) d e2) a (exo a C (some d))) a) d (.xd fs) = upd H d (.xd fs) := by
  funext b
  by_cases e : b = d
  · subst e
    rw [upd_same, upd_same]
  · rw [upd_ne e, upd_ne e]
    by_cases z : b = a
    · subst z
      show (if b = b then none else _) = _
      rw [if_pos rfl, ha]
    · show (if b = a then none else _) = _
      rw [if_neg z, upd_ne z, upd_ne e, upd_ne z]
/-- what the making of an error asks -/
def ErrR (C : Addr) (sp : Sp) (vs : List V) (H1 : Hp) (Q : XK) : Prop := vs.length ≤ 1000 ∧ ∀ a : Addr, H1 a = none → sp (.ref a :: (vs ++ [])) (upd H1 a (exo a C none)) (fun v H2 => v = .non ∧ ∃ (d : Addr) (fs : List (Str × V)), H2 a = some (exo a C (some d)) ∧ H2 d = some (exd d fs) ∧ H1 d = none ∧ Q (.ref C) (some d) (upd (del H2 a) d (.xd fs))) (fun _ _ _ => False)
def tRz (C : Addr) (sp : Sp) (ta : TA) (W : WX) : TS := fun _ σ H => ta σ H fun vs H1 => ErrR C sp vs H1 fun cls d H' => W cls d σ H'
theorem a_rz {C : Addr} {sp : Sp} {ta : TA} {W : WX} {D : Ends} {σ : L2.St} {H : Hp} (q : ta σ H fun vs H1 => ErrR C sp vs H1 fun cls d H' => W cls d σ H') : tRz C sp ta W D σ H := q
theorem n_err1 {C : Addr} {fld : Str} {y : V} {H : Hp} {Q : XK} (q : ∀ d, H d = none → Q (.ref C) (some d) (upd H d (.xd [(fld, y)]))) : ErrR C (spErr1 C fld) [y] H Q := by
  refine ⟨by show 1 ≤ 1000; decide, fun a ha => ⟨a, y, rfl, upd_same, fun d hd ne => ⟨rfl, d, [(fld, y)], upd_same, by rw [upd_ne ne]; exact upd_same, (nn hd).2, ?_⟩⟩⟩
  rw [err_heap ha ne]
  exact q d (nn hd).2
theorem err_heap2 {H : Hp} {a d C : Addr} {e1 e2 e3 : HO} (ha : H a = none) (hd : d ≠ a) (fs : List (Str × V)) : upd (del (upd (upd (upd (upd H a e1) d e2) a (exo a C (some d))) d e3) a) d (.xd fs) = upd H d (.xd fs) := by
  funext b
  by_cases e : b = d
  · subst e
    rw [upd_same, upd_same]
  · rw [upd_ne e, upd_ne e]
    by_cases z : b = a
    · subst z
      show (if b = b then none else _) = _
      rw [if_pos rfl, ha]
    · show (if b = a then none else _) = _
      rw [if_neg z, upd_ne e, upd_ne z, upd_ne e, upd_ne z]
theorem n_err2 {C : Addr} {f1 f2 : Str} {y z : V} {H : Hp} {Q : XK} (q : ∀ d, H d = none → Q (.ref C) (some d) (upd H d (.xd [(f2, z), (f1, y)]))) : ErrR C (spErr2 C f1 f2) [y, z] H Q := by
  refine ⟨by show 2 ≤ 1000; decide, fun a ha => ⟨a, y, z, rfl, upd_same, fun d hd ne => ⟨rfl, d, [(f2, z), (f1, y)], by rw [upd_ne ne.symm]; exact upd_same, upd_same, (nn hd).2, ?_⟩⟩⟩
  rw [err_heap2 ha ne]
  exact q d (nn hd).2
structure ErrG (P : Program) (w : World) (K : Frag) (mg : Str → Option Value) (base : Heap) (x : Str) (C : Addr) (ps : List Str) (sp : Sp) : Prop where
  ex : ∃ fI fd, PySem.W.findIn K (.ref C) "__init__" = some (some (.ref fI)) ∧ PySem.W.typeIn K (.ref fI) = some (.type "function") ∧ FnOk P w K mg base CX0 1 fI fd ps sp ∧ L2.Binds K fd ps []
  o : OexC K C
  g : mg x = some (.ref C)
theorem ps_rz {X : Cx} {W : WX} {x : Str} {C : Addr} {ps : List Str} {sp : Sp} {e : Expr} {es : List Expr} {ta : TA} {p pos pos' : Pos} (G : ErrG X.prog X.w X.K X.mg X.base x C ps sp) (hr : Room 2 X.A) (hc : X.calm = true) (tk : Takes X W) (ha : PA X (e :: es) ta)
    (hg : Gl X x := by rfl) (hb : (x == ("__debug__" : Str)) = false := by decide) (he : starEach (e :: es) X.env = (false, eval e X.env) :: starEach es X.env := by rfl) (hpl : (backTo pos (starEach es X.env)).any (·.1) = false := by rfl) :
    PS X (.Raise (some (.Call (.Name x p) (e :: es) [] pos)) none pos') (tRz C sp ta W) := by
  obtain ⟨fI, fd, i, t, F, b⟩ := G.ex
  exact ps_raise hc tk (pmk_oex (pos := pos) (p := p) G.o i t F hr b .nil pass0 hg G.g ha hb he hpl)
/-! ### errors on their way through a call -/
theorem passE {X : Cx} {E : XK} (tk : Takes X fun cls d _ H => E cls d H) : Passes (L2.CX X.prog X.w) X E := fun pins σ H s e s' I hz => passAt tk σ pins H s e s' I hz
theorem pe_calX {X : Cx} {W : WX} {k : Nat} {x : Str} {ps : List Str} {sp : Sp} {p pos : Pos} {e : Expr} {es : List Expr} {t : TA} (C : Cal X.prog X.w X.K X.mg X.base (L2.CX X.prog X.w) k x ps sp) (hr : Room k X.A) (tk : Takes X W) (ha : PA X (e :: es) t)
    (hg : Gl X x := by rfl) (hdb : (x == ("__debug__" : Str)) = false := by decide) (he : starEach (e :: es) X.env = (false, eval e X.env) :: starEach es X.env := by rfl) (hpl : (backTo pos (starEach es X.env)).any (·.1) = false := by rfl) :
    PE X (.Call (.Name x p) (e :: es) [] pos) (tCallS sp (WE W) t) := by
  obtain ⟨f, fd, h1, h2, h3, h4⟩ := C.ex
  exact pe_callS h4 hr hg h1 h2 h3 (fun σ => passAt tk σ) ha hdb he hpl
section
variable {P : Program} {w : World} {K : Frag} {mg : Str → Option Value} {base : Heap} {f C aForms aParts : Addr} {fd : FuncData}
theorem ok_Wrong (F : Fun K "__init__" "Wrong.__init__" s_Wrong_init f fd) (O : OexC K C) (n : PySem.W.findIn K (.ref C) "place" = some none) : FnOk P w K mg base CX0 1 f fd ["self", "place"] (spErr1 C "place") := by
  refine F.ok sc_Wrong_init (fun vs H Q E h => ?_) (fun cdv A outer s H vs Q E hr h => ?_)
  · obtain ⟨_, _, rfl, _⟩ := h
    rfl
  · obtain ⟨a, y, rfl, ha, k⟩ := h
    refine ⟨_, (pss_one (ps_ost (pv 0) (pv 1))), ?_⟩
    walk_at "el"
    refine ⟨a, C, rfl, O, n, .inl ⟨ha, fun dx hd ne => ?_⟩⟩
    walk_at "el"
    exact k dx hd ne
theorem ok_TooMany (F : Fun K "__init__" "TooMany.__init__" s_TooMany_init f fd) (O : OexC K C) (n : PySem.W.findIn K (.ref C) "limit" = some none) : FnOk P w K mg base CX0 1 f fd ["self", "limit"] (spErr1 C "limit") := by
  refine F.ok sc_TooMany_init (fun vs H Q E h => ?_) (fun cdv A outer s H vs Q E hr h => ?_)
  · obtain ⟨_, _, rfl, _⟩ := h
    rfl
  · obtain ⟨a, y, rfl, ha, k⟩ := h
    refine ⟨_, (pss_one (ps_ost (pv 0) (pv 1))), ?_⟩
    walk_at "el"
    refine ⟨a, C, rfl, O, n, .inl ⟨ha, fun dx hd ne => ?_⟩⟩
    walk_at "el"
    exact k dx hd ne
theorem ok_BadItem (F : Fun K "__init__" "BadItem.__init__" s_BadItem_init f fd) (O : OexC K C) (n : PySem.W.findIn K (.ref C) "place" = some none) (n2 : PySem.W.findIn K (.ref C) "index" = some none) : FnOk P w K mg base CX0 1 f fd ["self", "place", "index"] (spErr2 C "place" "index") := by
  refine F.ok sc_BadItem_init (fun vs H Q E h => ?_) (fun cdv A outer s H vs Q E hr h => ?_)
  · obtain ⟨_, _, _, rfl, _⟩ := h
    rfl
  · obtain ⟨a, y, z, rfl, ha, k⟩ := h
    refine ⟨_, (pss_cons (ps_ost (pv 0) (pv 1))
  (pss_one (ps_ost (pv 0) (pv 2)))), ?_⟩
    walk_at "el"
    refine ⟨a, C, rfl, O, n, .inl ⟨ha, fun dx hd ne => ?_⟩⟩
    walk_at "el"
    refine ⟨a, C, rfl, O, n2, .inr ⟨dx, [("place", y)], upd_same, by rw [upd_ne ne]; exact upd_same, by show 1 ≤ 900; decide, ?_⟩⟩
    walk_at "el"
    exact k dx hd ne
/-- items that are looked at: the error of the first that is none -/
def spCiX (K : Frag) (CT CB : Addr) : Sp := fun vs H Q E => ∃ (n : Int) (p : Pt) (a : Addr) (xs : List V) (ev wi : Int), vs = [.int n, .str p.name, .ref a, .int ev, .int wi] ∧ SqA K H a xs ∧ (∀ x ∈ xs, Th K H x ∧ ∀ (q : Addr) (ys : List V), x = .ref q → H q = some (.tup ys) → ∀ y ∈ ys, Th K H y) ∧
  (24 < xs.length → ∀ d, H d = none → E (.ref CT) (some d) (upd H d (.xd [("limit", .int 24)]))) ∧
  (xs.length ≤ 24 → (∀ x ∈ xs, ItemOk p H x ev wi) → ∀ H', Same H H' → Q .non H') ∧
  (xs.length ≤ 24 → ∀ i x, xs[i]? = some x → (∀ (j : Nat) y, j < i → xs[j]? = some y → ItemOk p H y ev wi) → ¬ ItemOk p H x ev wi → ∀ H' d, Same H H' → H' d = none → E (.ref CB) (some d) (upd H' d (.xd [("index", .int i), ("place", .int n)])))
theorem ItemOk.back {K : Frag} {p : Pt} {H H' : Hp} {x : V} {ev wi : Int} (h : ItemOk p H' x ev wi) (th : Th K H x) (s : Same H H') : ItemOk p H x ev wi := by
  obtain ⟨a, xs, rfl, ha, hl, hs⟩ := h
  refine ⟨a, xs, rfl, ?_, hl, hs⟩
  have go : ∀ u, H a = some u → H a = some (.tup xs) := fun u hu => by
    have q := s _ _ hu
    rw [ha] at q
    rw [hu, ← q]
  cases th with
  | lst h => exact go _ h
  | tup h => exact go _ h
  | dct h => exact go _ h
  | ins h c => exact go _ h
  | dtt h => exact go _ h
theorem th_at {K : Frag} {H H' : Hp} {xs : List V} {x : V} (th : ∀ x ∈ xs, Th K H x ∧ ∀ (q : Addr) (ys : List V), x = .ref q → H q = some (.tup ys) → ∀ y ∈ ys, Th K H y) (s : Same H H') (hx : x ∈ xs) {q : Addr} {ys : List V} (e : x = .ref q) (hq : H' q = some (.tup ys)) : ∀ y ∈ ys, Th K H' y := by
  obtain ⟨t1, t2⟩ := th x hx
  have go : ∀ u, H q = some u → H q = some (.tup ys) := fun u hu => by
    have w := s _ _ hu
    rw [hq] at w
    rw [hu, ← w]
  intro y hy
  subst e
  have h0 : H q = some (.tup ys) := by
    cases t1 with
    | lst h => exact go _ h
    | tup h => exact go _ h
    | dct h => exact go _ h
    | ins h c => exact go _ h
    | dtt h => exact go _ h
  exact (t2 q ys rfl h0 y hy).same s
theorem ok_check_itemsX {CT CB : Addr} (F : Fun K "_check_items" "_check_items" s__check_items f fd) (T : BoT K w mg aForms aParts) (c_is_item : Cal P w K mg base CX0 5 "is_item" ["part", "thing", "events", "witnesses"] (spItem K))
    (c_TooMany : ErrG P w K mg base "TooMany" CT ["self", "limit"] (spErr1 CT "limit")) (c_BadItem : ErrG P w K mg base "BadItem" CB ["self", "place", "index"] (spErr2 CB "place" "index")) :
    FnOk P w K mg base (L2.CX P w) 6 f fd ["place", "part", "items", "events", "witnesses"] (spCiX K CT CB) := by
  refine F.okX sc__check_items (fun vs H Q E h => ?_) (fun cdv A outer s H vs Q E hr h => ?_)
  · obtain ⟨_, _, _, _, _, _, rfl, _⟩ := h
    rfl
  · obtain ⟨n, p, a, xs, ev, wi, rfl, ha, th, k0, k1, k2⟩ := h
    refine ⟨_, (pss_cons (ps_if (pt_cmpR op_gt (pe_callB u_len rfl T.b.len_ boot_len (pa_cons (pv 2) pa_nil)) (pe_gc (v := .int 24) rfl T.k_MOST_ITEMS) (nomark _))
    (pss_one (ps_rz c_TooMany (hr.mono (by decide)) rfl (takes_of rfl rfl rfl rfl) (pa_cons (pe_gc (v := .int 24) rfl T.k_MOST_ITEMS) pa_nil)))
    pss_nil)
  (pss_one (ps_for (passes_of rfl) rfl (PI.alt (pi_enum rfl T.b.enumerate_ (pa_cons (pv 2) pa_nil)) (pi_e1 rfl T.b.enumerate_ (pa_cons (pv 2) pa_nil))) (pg_tup rfl (pgs_cons (pg_name (i := 5) sc__check_items.nd rfl (Or.inl rfl)) (pgs_cons (pg_name (i := 6) sc__check_items.nd rfl (Or.inl rfl)) pgs_nil)))
    (pss_one (ps_if (pt_not (pt_val (pe_cal c_is_item (hr.mono (by decide)) pass0 (pa_cons (pv 1) (pa_cons (pv 6) (pa_cons (pv 3) (pa_cons (pv 4) pa_nil)))))))
    (pss_one (ps_rz c_BadItem (hr.mono (by decide)) rfl (takes_of rfl rfl rfl rfl) (pa_cons (pv 0) (pa_cons (pv 5) pa_nil))))
    pss_nil))))), ?_⟩
    walk_at "el"
    refine n_len ha.len ?_
    walk_at "el"
    refine ite2 (fun h0 => ?_) (fun h0 => ?_)
    · walk_at "el"
      refine a_rz ?_
      walk_at "el"
      refine n_err1 fun d hd => ?_
      have q : (xs.length : Int) > 24 := by simpa using h0
      exact k0 (by omega) d hd
    · have hl : xs.length ≤ 24 := by
        have q : ¬ (xs.length : Int) > 24 := by simpa using h0
        omega
      walk_at "el"
      rcases ha with ha | ha
      · refine Or.inl ?_
        walk_at "el"
        refine ⟨a, xs, rfl, SqL.of ha, ?_⟩
        refine lp_it walk_enum (fun i σ H3 => Same H H3 ∧ (∀ (j : Nat) y, j < i → xs[j]? = some y → ItemOk p H y ev wi) ∧ ∃ v3 v4, σ = [some (.int n), some (.str p.name), some (.ref a), some (.int ev), some (.int wi), v3, v4]) ⟨Same.refl _, fun j y h => absurd h (Nat.not_lt_zero j), _, _, rfl⟩ (fun i σ H3 hi h => SqL.of (h.1 _ _ ha)) ?_ ?_
        · rintro i x σ H3 H4 hi ⟨s3, hok, v3, v4, rfl⟩ ⟨r, _, y, rfl, hr, rfl, ei, hy⟩
          cases ei
          have hy : xs[i]? = some y := hy
          have s4 := L2.Same.nw (o := .tup [.int i, y]) s3 hr
          obtain ⟨t1, t2⟩ := th y (List.mem_of_getElem? hy)
          refine a_gtup (SqT.of upd_same) rfl ?_
          walk_at "el"
          refine ⟨p, y, ev, wi, rfl, t1.same s4, ?_, fun H5 b s5 hb => ?_⟩
          · exact fun q ys e hq z hz => th_at th s4 (List.mem_of_getElem? hy) e hq z hz
          · cases b with
            | true =>
              walk_at "el"
              refine ⟨s4.trans s5, fun j z hj hz => ?_, _, _, rfl⟩
              by_cases e : j = i
              · subst e
                rw [hy] at hz
                cases hz
                exact (hb.mp rfl).back t1 s4
              · exact hok j z (by omega) hz
            | false =>
              walk_at "el"
              refine a_rz ?_
              walk_at "el"
              refine n_err2 fun d hd => ?_
              exact k2 hl i y hy hok (fun z => by have q := hb.mpr (z.same s4); cases q) H5 d (s4.trans s5) hd
        · rintro σ H3 ⟨s3, hok, v3, v4, rfl⟩
          walk_at "el"
          exact k1 hl (fun x hx => by
            obtain ⟨j, hj, rfl⟩ := List.getElem_of_mem hx
            exact hok j _ hj (List.getElem?_eq_getElem hj)) _ s3
      · refine Or.inr ?_
        walk_at "el"
        refine ⟨a, xs, rfl, ha, ?_⟩
        refine lp_it walk_es (fun i σ H3 => Same H H3 ∧ (∀ (j : Nat) y, j < i → xs[j]? = some y → ItemOk p H y ev wi) ∧ ∃ v3 v4, σ = [some (.int n), some (.str p.name), some (.ref a), some (.int ev), some (.int wi), v3, v4]) ⟨Same.refl _, fun j y h => absurd h (Nat.not_lt_zero j), _, _, rfl⟩ (fun i σ H3 hi h => ha.same h.1) ?_ ?_
        · rintro i x σ H3 H4 hi ⟨s3, hok, v3, v4, rfl⟩ ⟨r, y, rfl, hr, rfl, hy⟩
          have s4 := L2.Same.nw (o := .tup [.int ((0 : Int) + i), y]) s3 hr
          obtain ⟨t1, t2⟩ := th y (List.mem_of_getElem? hy)
          refine a_gtup (SqT.of upd_same) rfl ?_
          walk_at "el"
          refine ⟨p, y, ev, wi, rfl, t1.same s4, ?_, fun H5 b s5 hb => ?_⟩
          · exact fun q ys e hq z hz => th_at th s4 (List.mem_of_getElem? hy) e hq z hz
          · cases b with
            | true =>
              walk_at "el"
              refine ⟨s4.trans s5, fun j z hj hz => ?_, _, _, rfl⟩
              by_cases e : j = i
              · subst e
                rw [hy] at hz
                cases hz
                exact (hb.mp rfl).back t1 s4
              · exact hok j z (by omega) hz
            | false =>
              walk_at "el"
              refine a_rz ?_
              walk_at "el"
              refine n_err2 fun d hd => ?_
              rw [Int.zero_add]
              exact k2 hl i y hy hok (fun z => by have q := hb.mpr (z.same s4); cases q) H5 d (s4.trans s5) hd
        · rintro σ H3 ⟨s3, hok, v3, v4, rfl⟩
          walk_at "el"
          exact k1 hl (fun x hx => by
            obtain ⟨j, hj, rfl⟩ := List.getElem_of_mem hx
            exact hok j _ hj (List.getElem?_eq_getElem hj)) _ s3
end
end EL

/- part XN -/
namespace EL
open PySem PySem.Spec PyProof.Rows L2
open PySem.W (Frag)
abbrev s_NoFit_init : Stmt := inClass (top 6) 0
abbrev N_NoFit_init : List Str := ["self", "reason"]
theorem sc_NoFit_init : FnScope N_NoFit_init ["self", "reason"] (defScope s_NoFit_init) := ⟨rfl, rfl, rfl, by decide +kernel, rfl, by decide +kernel, by decide +kernel⟩
abbrev s_sure_ways : Stmt := top 27
abbrev N_sure_ways : List Str := ["book", "ways", "around"]
theorem sc_sure_ways : FnScope N_sure_ways ["book"] (defScope s_sure_ways) := ⟨rfl, rfl, rfl, by decide +kernel, rfl, by decide +kernel, by decide +kernel⟩
abbrev s_way : Stmt := top 28
abbrev N_way : List Str := ["book", "a", "b"]
theorem sc_way : FnScope N_way ["book", "a", "b"] (defScope s_way) := ⟨rfl, rfl, rfl, by decide +kernel, rfl, by decide +kernel, by decide +kernel⟩
local macro_rules | `(tactic| walk_at "el1") => `(tactic| with_reducible first
  | refine a_sasg ?_ | refine a_sdrop ?_ | refine a_saugS ?_ | refine a_spar ?_ | refine a_seq ?_ | refine a_asg ?_ | refine a_drop ?_ | refine a_ret ?_ | refine a_if ?_ | refine a_next ?_
  | refine a_op ?_ | refine a_cons ?_ | refine a_nil ?_ | refine a_cb ?_ | refine a_call ?_ | refine a_c ?_ | refine a_gn ?_ | refine a_nx ?_ | refine a_rt ?_ | refine a_un ?_
  | refine a_test ?_ | refine a_B ?_ | refine a_bl ?_ | refine a_and ?_ | refine a_or ?_ | refine a_not ?_ | refine a_andV ?_ | refine a_orV ?_ | refine a_notV ?_ | refine a_ifx ?_ | refine a_chain ?_
  | refine a_nT ?_ | refine a_nF ?_ | refine a_fld ?_ | refine a_getF ?_ | refine a_T ?_ | refine a_F ?_ | refine a_tup ?_ | refine a_lst ?_ | refine a_sub ?_ | refine a_augS ?_ | refine a_two ?_ | refine a_I0 ?_ | refine a_U ?_ | refine n_add ?_ | refine n_int ?_ | refine n_ib ?_ | refine a_ip ?_ | refine a_rng1 ?_ | refine a_rng2 ?_ | refine a_bm ?_ | refine a_abs ?_ | refine a_pairs ?_ | refine a_pairs0 ?_ | refine a_bk ?_ | refine a_prp ?_ | refine a_lc ?_ | refine a_yes ?_ | refine a_sl ?_ | refine a_nop ?_ | refine a_prt ?_ | refine a_ex1 ?_ | refine a_for ?_ | refine a_sfor ?_ | refine a_iE1 ?_ | refine a_iEs ?_ | refine a_iEz ?_ | refine a_iEnum ?_ | refine a_iTup ?_ | refine a_iList ?_ | refine a_gcons ?_ | refine a_gnil ?_ | refine a_revT ?_ | refine a_spar3 ?_ | refine a_par3 ?_ | refine a_three ?_)
local macro_rules | `(tactic| walk_at "el2") => `(tactic| first
  | (refine a_var (by rfl) ?_)
  | (refine n_ixL (SqL.of (by assumption)) (by rfl) ?_) | (refine n_ixT (SqT.of (by assumption)) (by rfl) ?_) | (refine n_eq (by rfl) ?_) | (refine n_ne (by rfl) ?_)
  | (refine n_isN ?_) | (refine n_notN ?_) | (refine n_isB ?_) | (refine n_notB ?_) | (refine n_isBI ?_) | (refine n_notBI ?_) | (refine n_len (.inl (SqL.of (by assumption))) ?_) | (refine n_len (.inr (SqT.of (by assumption))) ?_)
  | (refine a_getL (SqL.of (by assumption)) (by rfl) ?_)
  | (refine n_isInt (by assumption) ?_) | (refine n_isBool (by assumption) ?_) | (refine n_isStr (by assumption) ?_) | (refine n_isTup (by assumption) ?_) | (refine n_isLst (by assumption) ?_))
local macro_rules | `(tactic| walk_at "el") => `(tactic| repeat (first | walk_at "el1" | walk_at "el2"))

/-! ### NoFit; the sure ways, or NoFit with a way round -/
def spSure (K : Frag) (C CN : Addr) : Sp := fun vs H Q E => ∃ (A : BA) (D : PD), vs = [.ref A.o] ∧ BkW K C H A D ∧
  (ringN D.G A.ev.toNat A.ev.toNat = none → ∀ H' r, Same H H' → WaysAt H' r D.G A.ev.toNat → Q (.ref r) H') ∧
  ∀ is, ringN D.G A.ev.toNat A.ev.toNat = some is → ∀ H' q r d, Same H H' → H' r = some (.tup (ixs is)) → H' q = some (.tup [.str "gaps", .ref r]) → H' d = none → E (.ref CN) (some d) (upd H' d (.xd [("reason", .ref q)]))
def spWayF (K : Frag) (C CN : Addr) : Sp := fun vs H Q E => ∃ (A : BA) (D : PD) (a b : Nat), vs = [.ref A.o, .int (a : Int), .int (b : Int)] ∧ BkW K C H A D ∧ a < A.ev.toNat ∧ b < A.ev.toNat ∧
  (ringN D.G A.ev.toNat A.ev.toNat = none → ∀ H' v, Same H H' → CellIs H' v (WM.bf D.G a A.ev.toNat b) → Q v H') ∧
  ∀ is, ringN D.G A.ev.toNat A.ev.toNat = some is → ∀ H' q r d, Same H H' → H' r = some (.tup (ixs is)) → H' q = some (.tup [.str "gaps", .ref r]) → H' d = none → E (.ref CN) (some d) (upd H' d (.xd [("reason", .ref q)]))
section
variable {P : Program} {w : World} {K : Frag} {mg : Str → Option Value} {base : Heap} {f : Addr} {fd : FuncData} {C CN : Addr}
theorem ok_NoFit (F : Fun K "__init__" "NoFit.__init__" s_NoFit_init f fd) (O : OexC K CN) (n : PySem.W.findIn K (.ref CN) "reason" = some none) : FnOk P w K mg base CX0 1 f fd ["self", "reason"] (spErr1 CN "reason") := by
  refine F.ok sc_NoFit_init (fun vs H Q E h => ?_) (fun cdv A outer s H vs Q E hr h => ?_)
  · obtain ⟨_, _, rfl, _⟩ := h
    rfl
  · obtain ⟨a, y, rfl, ha, k⟩ := h
    refine ⟨_, (pss_one (ps_ost (pv 0) (pv 1))), ?_⟩
    walk_at "el"
    refine ⟨a, CN, rfl, O, n, .inl ⟨ha, fun dx hd ne => ?_⟩⟩
    walk_at "el"
    exact k dx hd ne
theorem ok_sure_ways (F : Fun K "sure_ways" "sure_ways" s_sure_ways f fd) (T : Tb mg) (c_all_ways : Cal P w K mg base CX0 4 "all_ways" ["book"] (spAll K C)) (c_ring_in : Cal P w K mg base CX0 1 "ring_in" ["ways"] (spRingIn K)) (c_NoFit : ErrG P w K mg base "NoFit" CN ["self", "reason"] (spErr1 CN "reason")) :
    FnOk P w K mg base (L2.CX P w) 5 f fd ["book"] (spSure K C CN) := by
  refine F.okX sc_sure_ways (fun vs H Q E h => ?_) (fun cdv A outer s H vs Q E hr h => ?_)
  · obtain ⟨_, _, rfl, _⟩ := h
    rfl
  · obtain ⟨B, D, rfl, hB, k0, k1⟩ := h
    refine ⟨_, (pss_cons (ps_set (i := 1) sc_sure_ways.nd rfl (Or.inl rfl) (pe_cal c_all_ways (hr.mono (by decide)) pass0 (pa_cons (pv 0) pa_nil)))
  (pss_cons (ps_set (i := 2) sc_sure_ways.nd rfl (Or.inl rfl) (pe_cal c_ring_in (hr.mono (by decide)) pass0 (pa_cons (pv 1) pa_nil)))
  (pss_cons (ps_if (pt_cmpR u_isnot (pv 2) pe_non (nomark _))
    (pss_one (ps_rz c_NoFit (hr.mono (by decide)) rfl (takes_of rfl rfl rfl rfl) (pa_cons (pe_tup (pa_cons pe_str (pa_cons (pv 2) pa_nil))) pa_nil)))
    pss_nil)
  (pss_one (ps_ret (pv 1)))))), ?_⟩
    walk_at "el"
    refine ⟨B, D, rfl, hB, fun H1 r s1 _ hW => ?_⟩
    walk_at "el"
    refine ⟨r, D.G, B.ev.toNat, rfl, hW, by have := hB.e8; omega, fun H2 v s2 hv => ?_⟩
    have hW2 := hW.same s2
    rcases hv with ⟨e, rfl⟩ | ⟨is, q, e, rfl, hq⟩
    · walk_at "el"
      exact k0 e H2 r (s1.trans s2) hW2
    · walk_at "el"
      refine ⟨by show 2 ≤ sizeLine; decide, fun p hp => ?_⟩
      have e3 := nw_of hp (.tup [.str "gaps", .ref q])
      walk_at "el"
      refine n_err1 fun d hd => ?_
      exact k1 is e _ p q d (fun a o h => e3 a o (s2 _ _ (s1 _ _ h))) (e3 _ _ hq) upd_same hd
theorem ok_way (F : Fun K "way" "way" s_way f fd) (T : Tb mg) (c_sure_ways : Cal P w K mg base (L2.CX P w) 5 "sure_ways" ["book"] (spSure K C CN)) : FnOk P w K mg base (L2.CX P w) 6 f fd ["book", "a", "b"] (spWayF K C CN) := by
  refine F.okX sc_way (fun vs H Q E h => ?_) (fun cdv A outer s H vs Q E hr h => ?_)
  · obtain ⟨_, _, _, _, rfl, _⟩ := h
    rfl
  · obtain ⟨B, D, a, b, rfl, hB, la, lb, k0, k1⟩ := h
    refine ⟨_, (pss_one (ps_ret (pe_ix ix_seq (pe_ix ix_seq (pe_cal c_sure_ways (hr.mono (by decide)) (passE (takes_of rfl rfl rfl rfl)) (pa_cons (pv 0) pa_nil)) (pv 1) (fun _ _ => rfl)) (pv 2) (fun _ _ => rfl)))), ?_⟩
    walk_at "el"
    refine ⟨B, D, rfl, hB, fun e H1 r s1 hW => ?_, k1⟩
    obtain ⟨rs, hw, hl, hat⟩ := hW
    have ha : a < rs.length := by omega
    obtain ⟨ws, h2, h3⟩ := hat a _ (List.getElem?_eq_getElem ha)
    obtain ⟨v, hv, cv⟩ := h3.get (a := (b : Int)) (by omega) (by omega)
    walk_at "el"
    refine n_ixL (SqL.of hw) (atI_nat (j := a) (by rw [List.getElem?_map, List.getElem?_eq_getElem ha]; rfl)) ?_
    walk_at "el"
    refine n_ixL (SqL.of h2) hv ?_
    walk_at "el"
    exact k0 e H1 v s1 cv
end
end EL

/- part FW -/
namespace EL
open PySem PySem.Spec PyProof.Rows L2
open PySem.W (Frag)
abbrev s_sums : Stmt := top 45
abbrev N_sums : List Str := ["_law_events", "_law_edges", "_law_best", "_law_u", "_law_v", "_law_g", "_law_mid"]
theorem sc_sums : FnScope N_sums ["_law_events", "_law_edges"] (defScope s_sums) := ⟨rfl, rfl, rfl, by decide +kernel, rfl, by decide +kernel, by decide +kernel⟩
local macro_rules | `(tactic| walk_at "el1") => `(tactic| with_reducible first
  | refine a_sasg ?_ | refine a_sdrop ?_ | refine a_saugS ?_ | refine a_spar ?_ | refine a_seq ?_ | refine a_asg ?_ | refine a_drop ?_ | refine a_ret ?_ | refine a_if ?_ | refine a_next ?_
  | refine a_op ?_ | refine a_cons ?_ | refine a_nil ?_ | refine a_cb ?_ | refine a_call ?_ | refine a_c ?_ | refine a_gn ?_ | refine a_nx ?_ | refine a_rt ?_ | refine a_un ?_
  | refine a_test ?_ | refine a_B ?_ | refine a_bl ?_ | refine a_and ?_ | refine a_or ?_ | refine a_not ?_ | refine a_andV ?_ | refine a_orV ?_ | refine a_notV ?_ | refine a_ifx ?_ | refine a_chain ?_
  | refine a_nT ?_ | refine a_nF ?_ | refine a_fld ?_ | refine a_getF ?_ | refine a_T ?_ | refine a_F ?_ | refine a_tup ?_ | refine a_lst ?_ | refine a_sub ?_ | refine a_augS ?_ | refine a_two ?_ | refine a_I0 ?_ | refine a_U ?_ | refine n_add ?_ | refine n_int ?_ | refine n_ib ?_ | refine a_ip ?_ | refine a_rng1 ?_ | refine a_rng2 ?_ | refine a_bm ?_ | refine a_abs ?_ | refine a_pairs ?_ | refine a_pairs0 ?_ | refine a_bk ?_ | refine a_prp ?_ | refine a_lc ?_ | refine a_yes ?_ | refine a_sl ?_ | refine a_nop ?_ | refine a_prt ?_ | refine a_ex1 ?_ | refine a_for ?_ | refine a_sfor ?_ | refine a_iE1 ?_ | refine a_iEs ?_ | refine a_iEz ?_ | refine a_iEnum ?_ | refine a_iTup ?_ | refine a_iList ?_ | refine a_gcons ?_ | refine a_gnil ?_ | refine a_revT ?_ | refine a_spar3 ?_ | refine a_par3 ?_ | refine a_three ?_)
local macro_rules | `(tactic| walk_at "el2") => `(tactic| first
  | (refine a_var (by rfl) ?_)
  | (refine n_ixL (SqL.of (by assumption)) (by rfl) ?_) | (refine n_ixT (SqT.of (by assumption)) (by rfl) ?_) | (refine n_eq (by rfl) ?_) | (refine n_ne (by rfl) ?_)
  | (refine n_isN ?_) | (refine n_notN ?_) | (refine n_isB ?_) | (refine n_notB ?_) | (refine n_isBI ?_) | (refine n_notBI ?_) | (refine n_len (.inl (SqL.of (by assumption))) ?_) | (refine n_len (.inr (SqT.of (by assumption))) ?_)
  | (refine a_getL (SqL.of (by assumption)) (by rfl) ?_)
  | (refine n_isInt (by assumption) ?_) | (refine n_isBool (by assumption) ?_) | (refine n_isStr (by assumption) ?_) | (refine n_isTup (by assumption) ?_) | (refine n_isLst (by assumption) ?_))
local macro_rules | `(tactic| walk_at "el") => `(tactic| repeat (first | walk_at "el1" | walk_at "el2"))

/-! ### a law's own sums -/
def optV : Option Int → V
  | none => .non
  | some i => .int i
abbrev rowL (N : Nat) (f : Int → Option Int) : List V := (List.range N).map fun (v : Nat) => optV (f (v : Int))
structure MatAt (H : Hp) (p : Addr) (rw : Nat → Addr) (N : Nat) (M : WM.Mat) : Prop where
  hp : H p = some (.lst ((List.range N).map fun u => V.ref (rw u)))
  inj : ∀ u v, u < N → v < N → u ≠ v → rw u ≠ rw v
  ne : ∀ u, u < N → rw u ≠ p
  row : ∀ u, u < N → H (rw u) = some (.lst (rowL N (M u)))
theorem range_at {α : Type} {N k : Nat} {f : Nat → α} (h : k < N) : ((List.range N).map f)[k]? = some (f k) := by rw [List.getElem?_map, List.getElem?_range h]; rfl
theorem range_atI {N : Nat} {f : Nat → V} {a : Int} (h0 : 0 ≤ a) (h1 : a < N) : atI ((List.range N).map f) a = some (f a.toNat) := by
  obtain ⟨k, rfl⟩ : ∃ k : Nat, a = k := ⟨a.toNat, by omega⟩
  exact atI_nat (range_at (by omega))
theorem rowL_len {N : Nat} {f : Int → Option Int} : (rowL N f).length = N := by rw [List.length_map, List.length_range]
theorem rowL_at {N : Nat} {f : Int → Option Int} {a : Int} (h0 : 0 ≤ a) (h1 : a < N) : atI (rowL N f) a = some (optV (f a)) := by
  have := range_atI (f := fun (v : Nat) => optV (f (v : Int))) h0 h1
  have e : ((a.toNat : Nat) : Int) = a := by omega
  rw [e] at this
  exact this
theorem rowL_set {N : Nat} {M : WM.Mat} {u v t : Int} (h0 : 0 ≤ v) (h1 : v < N) : (rowL N (M u)).set v.toNat (.int t) = rowL N (WM.putM M u v t u) := by
  refine List.ext_getElem? fun i => ?_
  rw [List.getElem?_set]
  by_cases e : v.toNat = i
  · have hi : i < N := by omega
    rw [if_pos e, if_pos (by rw [List.length_map, List.length_range]; exact e ▸ (by omega)), range_at hi]
    have : (i : Int) = v := by omega
    rw [this, WM.putM_at]; rfl
  · rw [if_neg e]
    by_cases hi : i < N
    · rw [range_at hi, range_at hi, WM.putM_ne (fun z => e (by have := z.2; omega))]
    · rw [List.getElem?_eq_none (by rw [List.length_map, List.length_range]; omega), List.getElem?_eq_none (by rw [List.length_map, List.length_range]; omega)]
section
variable {H H' : Hp} {p : Addr} {rw : Nat → Addr} {N : Nat} {M M' : WM.Mat}
theorem MatAt.congr (h : MatAt H p rw N M) (e : ∀ u v : Nat, u < N → v < N → M u v = M' u v) : MatAt H p rw N M' := ⟨h.hp, h.inj, h.ne, fun u hu => by
  rw [h.row u hu]
  congr 2
  exact List.map_congr_left fun v hv => by rw [e u v hu (List.mem_range.mp hv)]⟩
theorem MatAt.same (h : MatAt H p rw N M) (s : Same H H') : MatAt H' p rw N M := ⟨s _ _ h.hp, h.inj, h.ne, fun u hu => s _ _ (h.row u hu)⟩
theorem MatAt.kp {b c : Addr} (h : MatAt H p rw N M) (nb : p ≠ b) (nr : ∀ u, u < N → rw u ≠ b) (k : Kp b H H') : MatAt H' p rw N M := ⟨k _ _ nb h.hp, h.inj, h.ne, fun u hu => k _ _ (nr u hu) (h.row u hu)⟩
theorem MatAt.put (h : MatAt H p rw N M) {u v : Int} (u0 : 0 ≤ u) (u1 : u < N) (v0 : 0 ≤ v) (v1 : v < N) (t : Int) : MatAt (upd H (rw u.toNat) (.lst ((rowL N (M u)).set v.toNat (.int t)))) p rw N (WM.putM M u v t) := by
  refine ⟨by rw [upd_ne (h.ne _ (by omega)).symm]; exact h.hp, h.inj, h.ne, fun a ha => ?_⟩
  by_cases e : a = u.toNat
  · subst e
    rw [upd_same, rowL_set v0 v1]
    have : ((u.toNat : Nat) : Int) = u := by omega
    rw [this]
  · rw [upd_ne (h.inj _ _ ha (by omega) e), h.row a ha]
    congr 2
    exact List.map_congr_left fun w _ => by rw [WM.putM_ne (fun z => e (by have := z.1; omega))]
theorem MatAt.at_ (h : MatAt H p rw N M) {u : Int} (u0 : 0 ≤ u) (u1 : u < N) : atI ((List.range N).map fun u => V.ref (rw u)) u = some (.ref (rw u.toNat)) ∧ H (rw u.toNat) = some (.lst (rowL N (M u))) := by
  refine ⟨range_atI u0 u1, ?_⟩
  have := h.row u.toNat (by omega)
  have e : ((u.toNat : Nat) : Int) = u := by omega
  rw [e] at this
  exact this
end
theorem int_no {i : Int} : decide (V.int i = V.non) = false := decide_eq_false (fun h => nomatch h)
theorem mx_none {M : WM.Mat} {u v t : Int} (h : M u v = none) : WM.mx M u v t = WM.putM M u v t := by unfold WM.mx; rw [h]
theorem mx_lt {M : WM.Mat} {u v t z : Int} (h : M u v = some z) (lt : z < t) : WM.mx M u v t = WM.putM M u v t := by unfold WM.mx; rw [h]; simp only; rw [if_pos lt]
theorem mx_ge {M : WM.Mat} {u v t z : Int} (h : M u v = some z) (lt : ¬ z < t) : WM.mx M u v t = M := by unfold WM.mx; rw [h]; simp only; rw [if_neg lt]
theorem rel_1 {M : WM.Mat} {m u v : Int} (h : M u m = none) : WM.rel M m u v = M := by unfold WM.rel; rw [h]
theorem rel_2 {M : WM.Mat} {m u v x : Int} (h : M u m = some x) (h2 : M m v = none) : WM.rel M m u v = M := by unfold WM.rel; rw [h, h2]
theorem rel_3 {M : WM.Mat} {m u v x y : Int} (h : M u m = some x) (h2 : M m v = some y) : WM.rel M m u v = WM.mx M u v (x + y) := by unfold WM.rel; rw [h, h2]
def dgM : Nat → WM.Mat
  | 0 => fun _ _ => none
  | i + 1 => WM.putM (dgM i) i i 0
theorem dgM_is : ∀ (i : Nat) (u v : Nat), dgM i u v = if u = v ∧ u < i then some 0 else none
  | 0, u, v => by rw [if_neg (by omega)]; rfl
  | i + 1, u, v => by
    show WM.putM (dgM i) i i 0 u v = _
    by_cases e : u = i ∧ v = i
    · rw [e.1, e.2, WM.putM_at, if_pos (by omega)]
    · rw [WM.putM_ne (by omega), dgM_is i u v]
      by_cases z : u = v ∧ u < i
      · rw [if_pos z, if_pos (by omega)]
      · rw [if_neg z, if_neg (by omega)]
theorem dgM_diag {N u v : Nat} (hu : u < N) : dgM N u v = WM.diagM u v := by
  rw [dgM_is]
  unfold WM.diagM
  by_cases e : u = v
  · rw [if_pos ⟨e, hu⟩, if_pos (by omega)]
  · rw [if_neg (fun z => e z.1), if_neg (by omega)]
def spSums (K : Frag) : Sp := fun vs H Q _ => ∃ (n : Nat) (e : Addr) (gs : List V) (G : List (Int × Int × Int)), vs = [.int (n : Int), .ref e] ∧ H e = some (.lst gs) ∧ RowsAre encT H gs G ∧ WM.InG G n ∧ n ≤ 1000 ∧
  (∀ H', Same H H' → WM.Pos G → Q .non H') ∧ ∀ H' p rw, Same H H' → H p = none → (∀ u, u < n + 1 → H (rw u) = none) → ¬ WM.Pos G → MatAt H' p rw (n + 1) (WM.finM G n) → Q (.ref p) H'
section
variable {P : Program} {w : World} {K : Frag} {mg : Str → Option Value} {base : Heap} {f : Addr} {fd : FuncData} {C : Addr}
set_option maxHeartbeats 8000000 in
theorem ok_sums (F : Fun K "_law_sums" "_law_sums" s_sums f fd) (T : Tb mg) : FnOk P w K mg base CX0 1 f fd ["_law_events", "_law_edges"] (spSums K) := by
  refine F.ok sc_sums (fun vs H Q E h => ?_) (fun cdv A outer s H vs Q E hr h => ?_)
  · obtain ⟨_, _, _, _, rfl, _⟩ := h
    rfl
  · obtain ⟨n, e, gs, G, rfl, he, hR, hG, n8, kN, kM⟩ := h
    refine ⟨_, (pss_cons (ps_setLc (i := 2) (own := [("_law_u", 3)]) rfl sc_sums.nd rfl rfl (sw_true rfl rfl rfl (by decide +kernel)) (pi_range1 rfl T.b.range_ (pa_cons (pe_op u_add (pv 0) pe_int) pa_nil)) (blkOk_by (own := [("_law_u", 3)]) (N := N_sums) (sc := defScope s_sums) (by decide +kernel)) (fun _ _ _ _ _ => (pg_name (i := 3) sc_sums.nd rfl (Or.inl rfl))) (fun _ _ _ _ _ => pts_nil) (fun _ _ _ _ _ => (pe_op u_mul (pe_lst (pa_cons pe_non pa_nil)) (pe_op (show OpR _ (binaryOp .Add) (rAdd K) from u_add) (pv 0) pe_int))))
  (pss_cons (ps_for PassesOwn.never rfl (pi_range1 rfl T.b.range_ (pa_cons (pe_op u_add (pv 0) pe_int) pa_nil)) (pg_name (i := 3) sc_sums.nd rfl (Or.inl rfl))
    (pss_one (ps_asg pe_int (pg_sub (pe_ix ix_seq (pv 2) (pv 3) (fun _ _ => rfl)) (pv 3) set_list))))
  (pss_cons (ps_for PassesOwn.never rfl (u_iter (pv 1)) (pg_tup rfl (pgs_cons (pg_name (i := 3) sc_sums.nd rfl (Or.inl rfl)) (pgs_cons (pg_name (i := 4) sc_sums.nd rfl (Or.inl rfl)) (pgs_cons (pg_name (i := 5) sc_sums.nd rfl (Or.inl rfl)) pgs_nil))))
    (pss_one (ps_if (PW.pt (pw_or (pt_cmpR u_is (pe_ix ix_seq (pe_ix ix_seq (pv 2) (pv 3) (fun _ _ => rfl)) (pv 4) (fun _ _ => rfl)) pe_non (nomark _)) (pw_or1 (pt_cmpR op_lt (pe_ix ix_seq (pe_ix ix_seq (pv 2) (pv 3) (fun _ _ => rfl)) (pv 4) (fun _ _ => rfl)) (pv 5) (nomark _)))))
    (pss_one (ps_asg (pv 5) (pg_sub (pe_ix ix_seq (pv 2) (pv 3) (fun _ _ => rfl)) (pv 4) set_list)))
    pss_nil)))
  (pss_cons (ps_for PassesOwn.never rfl (pi_range1 rfl T.b.range_ (pa_cons (pe_op u_add (pv 0) pe_int) pa_nil)) (pg_name (i := 6) sc_sums.nd rfl (Or.inl rfl))
    (pss_one (ps_for PassesOwn.never rfl (pi_range1 rfl T.b.range_ (pa_cons (pe_op u_add (pv 0) pe_int) pa_nil)) (pg_name (i := 3) sc_sums.nd rfl (Or.inl rfl))
    (pss_one (ps_for PassesOwn.never rfl (pi_range1 rfl T.b.range_ (pa_cons (pe_op u_add (pv 0) pe_int) pa_nil)) (pg_name (i := 4) sc_sums.nd rfl (Or.inl rfl))
    (pss_one (ps_if (PW.pt (pw_and (pt_cmpR u_isnot (pe_ix ix_seq (pe_ix ix_seq (pv 2) (pv 3) (fun _ _ => rfl)) (pv 6) (fun _ _ => rfl)) pe_non (nomark _)) (pw_and1 (pt_cmpR u_isnot (pe_ix ix_seq (pe_ix ix_seq (pv 2) (pv 6) (fun _ _ => rfl)) (pv 4) (fun _ _ => rfl)) pe_non (nomark _)))))
    (pss_one (ps_if (PW.pt (pw_or (pt_cmpR u_is (pe_ix ix_seq (pe_ix ix_seq (pv 2) (pv 3) (fun _ _ => rfl)) (pv 4) (fun _ _ => rfl)) pe_non (nomark _)) (pw_or1 (pt_cmpR op_lt (pe_ix ix_seq (pe_ix ix_seq (pv 2) (pv 3) (fun _ _ => rfl)) (pv 4) (fun _ _ => rfl)) (pe_op u_add (pe_ix ix_seq (pe_ix ix_seq (pv 2) (pv 3) (fun _ _ => rfl)) (pv 6) (fun _ _ => rfl)) (pe_ix ix_seq (pe_ix ix_seq (pv 2) (pv 6) (fun _ _ => rfl)) (pv 4) (fun _ _ => rfl))) (nomark _)))))
    (pss_one (ps_asg (pe_op u_add (pe_ix ix_seq (pe_ix ix_seq (pv 2) (pv 3) (fun _ _ => rfl)) (pv 6) (fun _ _ => rfl)) (pe_ix ix_seq (pe_ix ix_seq (pv 2) (pv 6) (fun _ _ => rfl)) (pv 4) (fun _ _ => rfl))) (pg_sub (pe_ix ix_seq (pv 2) (pv 3) (fun _ _ => rfl)) (pv 4) set_list)))
    pss_nil))
    pss_nil)))))))
  (pss_cons (ps_for PassesOwn.never rfl (pi_range1 rfl T.b.range_ (pa_cons (pe_op u_add (pv 0) pe_int) pa_nil)) (pg_name (i := 3) sc_sums.nd rfl (Or.inl rfl))
    (pss_one (ps_if (pt_cmpR op_gt (pe_ix ix_seq (pe_ix ix_seq (pv 2) (pv 3) (fun _ _ => rfl)) (pv 3) (fun _ _ => rfl)) pe_int (nomark _))
    (pss_one (ps_ret pe_non))
    pss_nil)))
  (pss_one (ps_ret (pv 2)))))))), ?_⟩
    have eN : ((n : Int) + 1).toNat = n + 1 := by omega
    walk_at "el"
    refine ⟨by omega, by omega, fun D0 hD0 => ?_⟩
    rw [eN]
    have e0 := nw_of hD0 (.lst [])
    refine lc_of walk_range (fun i H3 => Same H H3 ∧ ∃ rs : List Addr, H3 D0 = some (.lst (rs.map V.ref)) ∧ rs.length = i ∧ rs.Nodup ∧ ∀ r ∈ rs, r ≠ D0 ∧ H r = none ∧ H3 r = some (.lst (rowL (n + 1) fun _ => none))) ⟨e0, [], upd_same, rfl, List.nodup_nil, fun _ h => nomatch h⟩ (fun _ _ _ _ => trivial) ?_ ?_
    · rintro i x H3 H4 hi ⟨s3, rs, hD3, hl3, nd3, at3⟩ ⟨rfl, rfl⟩
      walk_at "el"
      refine ⟨rfl, ?_⟩
      walk_at "el"
      refine ⟨by show 1 ≤ sizeLine; decide, fun p1 hp1 => ?_⟩
      have e1 := nw_of hp1 (.lst [.non])
      have g1 := upd_at hp1 (.lst [.non])
      walk_at "el"
      refine .inr ⟨p1, (n : Int) + 1, [.non], rfl, rfl, g1, by omega, by omega, by show 1 * ((n : Int) + 1).toNat ≤ sizeLine; exact Nat.le_trans (m := 1001) (by omega) (by decide), fun r hr0 => ?_⟩
      have el : (List.replicate ((n : Int) + 1).toNat [V.non]).flatten = rowL (n + 1) fun _ => none := by
        rw [eN]
        generalize n + 1 = m
        refine List.ext_getElem? fun j => ?_
        have fl : (List.replicate m [V.non]).flatten = List.replicate m V.non := by
          induction m with
          | zero => rfl
          | succ m ih => rw [List.replicate_succ, List.flatten_cons, ih, List.replicate_succ]; rfl
        rw [fl]
        by_cases hj : j < m
        · rw [range_at hj, List.getElem?_replicate, if_pos hj]; rfl
        · rw [List.getElem?_eq_none (by rw [List.length_replicate]; omega), List.getElem?_eq_none (by rw [List.length_map, List.length_range]; omega)]
      rw [el]
      have e2 := nw_of hr0 (.lst (rowL (n + 1) fun _ => none))
      have g2 := upd_at hr0 (.lst (rowL (n + 1) fun _ => none))
      have s2 : Same _ _ := fun a o h => e2 a o (e1 a o h)
      have hD2 := s2 _ _ hD3
      have r3 := e1.free hr0
      have rD : r ≠ D0 := fun z => by rw [z, hD3] at r3; cases r3
      have rr : ∀ a ∈ rs, a ≠ r := fun a ha z => by
        have := (at3 a ha).2.2
        rw [z, r3] at this; cases this
      refine ⟨_, hD2, by rw [List.length_map, hl3]; exact Nat.lt_of_lt_of_le (m := 1001) (by omega) (by decide), (s3.trans s2).mu hD0, rs ++ [r], by rw [upd_same, List.map_append]; rfl, by rw [List.length_append, hl3]; rfl, ?_, fun a ha => ?_⟩
      · rw [List.nodup_append]
        refine ⟨nd3, by simp, fun a ha z hz => ?_⟩
        rw [List.mem_singleton] at hz
        subst hz
        exact rr a ha
      · rcases List.mem_append.mp ha with ha | ha
        · obtain ⟨z1, z2, z3⟩ := at3 a ha
          exact ⟨z1, z2, by rw [upd_ne z1]; exact s2 _ _ z3⟩
        · rw [List.mem_singleton] at ha
          subst ha
          exact ⟨rD, s3.free r3, by rw [upd_ne rD]; exact g2⟩
    · rintro H3 ⟨s3, rs, hD3, hl3, nd3, at3⟩
      obtain ⟨rw, hrw⟩ : ∃ rw : Nat → Addr, ∀ u (h : u < rs.length), rw u = rs[u] := ⟨fun u => if h : u < rs.length then rs[u] else 0, fun u h => dif_pos h⟩
      have mem : ∀ u, u < n + 1 → rw u ∈ rs := fun u hu => by rw [hrw u (by omega)]; exact List.getElem_mem _
      have new : ∀ u, u < n + 1 → H (rw u) = none := fun u hu => (at3 _ (mem u hu)).2.1
      have M3 : MatAt H3 D0 rw (n + 1) (dgM 0) := by
        refine ⟨?_, fun u v hu hv ne z => ?_, fun u hu => (at3 _ (mem u hu)).1, fun u hu => (at3 _ (mem u hu)).2.2⟩
        · rw [hD3]
          congr 2
          refine List.ext_getElem? fun i => ?_
          by_cases hi : i < n + 1
          · rw [List.getElem?_map, List.getElem?_eq_getElem (by omega), range_at hi, hrw i (by omega)]; rfl
          · rw [List.getElem?_eq_none (by rw [List.length_map]; omega), List.getElem?_eq_none (by rw [List.length_map, List.length_range]; omega)]
        · rw [hrw u (by omega), hrw v (by omega)] at z
          have pw := List.pairwise_iff_getElem.mp nd3
          rcases Nat.lt_or_ge u v with q | q
          · exact pw u v (by omega) (by omega) q z
          · exact pw v u (by omega) (by omega) (by omega) z.symm
      clear hD3 hl3 nd3 at3 hrw mem e0
      walk_at "el"
      refine ⟨by omega, by omega, ?_⟩
      rw [eN]
      refine lp_range (fun i σ H4 => Same H H4 ∧ MatAt H4 D0 rw (n + 1) (dgM i) ∧ ∃ v3 v4 v5 v6, σ = [some (.int (n : Int)), some (.ref e), some (.ref D0), v3, v4, v5, v6]) ⟨s3, M3, _, _, _, _, rfl⟩ ?_ ?_
      · clear M3 s3
        rintro i σ H4 hi ⟨s4, M4, v3, v4, v5, v6, rfl⟩
        rw [Int.zero_add]
        obtain ⟨r1, c1⟩ := M4.at_ (u := (i : Int)) (by omega) (by omega)
        walk_at "el"
        refine n_ixL (SqL.of M4.hp) r1 ?_
        walk_at "el"
        refine a_set c1 (ixnW (by omega) (by rw [rowL_len]; omega)) ?_
        walk_at "el"
        exact ⟨s4.mu (new _ (by omega)), M4.put (by omega) (by omega) (by omega) (by omega) 0, _, _, _, _, rfl⟩
      · clear M3 s3
        rintro σ H4 ⟨s4, M4, v3, v4, v5, v6, rfl⟩
        have M5 : MatAt H4 D0 rw (n + 1) (WM.edM G 0) := M4.congr fun u v hu hv => dgM_diag hu
        clear M4
        walk_at "el"
        refine a_iSeq (.inl ?_)
        walk_at "el"
        refine ⟨e, rfl, ⟨_, SqL.of (s4 _ _ he)⟩, ?_⟩
        refine lp_it (walk_list (xs := gs)) (fun i σ H5 => Same H H5 ∧ MatAt H5 D0 rw (n + 1) (WM.edM G i) ∧ ∃ v3 v4 v5 v6, σ = [some (.int (n : Int)), some (.ref e), some (.ref D0), v3, v4, v5, v6]) ⟨s4, M5, _, _, _, _, rfl⟩ (fun i σ H5 hi h => SqL.of (h.1 _ _ he)) ?_ ?_
        · clear M5 s4
          rintro i x σ H5 H6 hi ⟨s5, M5, v3, v4, v5, v6, rfl⟩ ⟨rfl, hx⟩
          obtain ⟨u, z, rfl, hz, hu⟩ := (hR.same s5).at_ i x hx
          obtain ⟨⟨a0, a1⟩, ⟨b0, b1⟩⟩ := hG z (List.mem_of_getElem? hz)
          obtain ⟨r1, c1⟩ := M5.at_ (u := z.1) (by omega) (by omega)
          have hs := WM.edM_succ hz
          refine a_gtup (SqT.of hu) rfl ?_
          walk_at "el"
          refine n_ixL (SqL.of M5.hp) r1 ?_
          walk_at "el"
          cases ez : WM.edM G i z.1 z.2.1 with
          | none =>
            have hat : atI (rowL (n + 1) (WM.edM G i z.1)) z.2.1 = some .non := by rw [rowL_at b0 (by omega), ez]; rfl
            refine n_ixL (SqL.of c1) hat ?_
            walk_at "el"
            rw [decide_eq_true rfl]
            walk_at "el"
            refine n_ixL (SqL.of M5.hp) r1 ?_
            walk_at "el"
            refine a_set c1 (ixnW b0 (by rw [rowL_len]; omega)) ?_
            walk_at "el"
            exact ⟨s5.mu (new _ (by omega)), by rw [hs, mx_none ez]; exact M5.put a0 (by omega) b0 (by omega) z.2.2, _, _, _, _, rfl⟩
          | some y =>
            have hat : atI (rowL (n + 1) (WM.edM G i z.1)) z.2.1 = some (.int y) := by rw [rowL_at b0 (by omega), ez]; rfl
            refine n_ixL (SqL.of c1) hat ?_
            walk_at "el"
            rw [int_no]
            walk_at "el"
            refine n_ixL (SqL.of M5.hp) r1 ?_
            walk_at "el"
            refine n_ixL (SqL.of c1) hat ?_
            walk_at "el"
            refine ite2 (fun g => ?_) (fun g => ?_)
            · walk_at "el"
              refine n_ixL (SqL.of M5.hp) r1 ?_
              walk_at "el"
              refine a_set c1 (ixnW b0 (by rw [rowL_len]; omega)) ?_
              walk_at "el"
              exact ⟨s5.mu (new _ (by omega)), by rw [hs, mx_lt ez (of_decide_eq_true g)]; exact M5.put a0 (by omega) b0 (by omega) z.2.2, _, _, _, _, rfl⟩
            · walk_at "el"
              exact ⟨s5, by rw [hs, mx_ge ez (fun q => g (decide_eq_true q))]; exact M5, _, _, _, _, rfl⟩
        · clear M5 s4
          rintro σ H5 ⟨s5, M5, v3, v4, v5, v6, rfl⟩
          have lg : gs.length = G.length := hR.len
          rw [lg] at M5
          walk_at "el"
          refine ⟨by omega, by omega, ?_⟩
          rw [eN]
          refine lp_range (fun k σ H6 => Same H H6 ∧ MatAt H6 D0 rw (n + 1) (WM.fwK (WM.edM G G.length) (n + 1) k) ∧ ∃ v3 v4 v5 v6, σ = [some (.int (n : Int)), some (.ref e), some (.ref D0), v3, v4, v5, v6]) ⟨s5, M5, _, _, _, _, rfl⟩ ?_ ?_
          · clear M5 s5
            rintro k σ H6 hk ⟨s6, M6, v3, v4, v5, v6, rfl⟩
            rw [Int.zero_add]
            walk_at "el"
            refine ⟨by omega, by omega, ?_⟩
            rw [eN]
            refine lp_range (fun i σ H7 => Same H H7 ∧ MatAt H7 D0 rw (n + 1) (WM.fwU (WM.fwK (WM.edM G G.length) (n + 1) k) k (n + 1) i) ∧ ∃ v3 v4 v5, σ = [some (.int (n : Int)), some (.ref e), some (.ref D0), v3, v4, v5, some (.int (k : Int))]) ⟨s6, M6, _, _, _, rfl⟩ ?_ ?_
            · clear M6 s6
              rintro i σ H7 hi ⟨s7, M7, v3, v4, v5, rfl⟩
              rw [Int.zero_add]
              walk_at "el"
              refine ⟨by omega, by omega, ?_⟩
              rw [eN]
              refine lp_range (fun j σ H8 => Same H H8 ∧ MatAt H8 D0 rw (n + 1) (WM.fwV (WM.fwU (WM.fwK (WM.edM G G.length) (n + 1) k) k (n + 1) i) k i j) ∧ ∃ v4 v5, σ = [some (.int (n : Int)), some (.ref e), some (.ref D0), some (.int (i : Int)), v4, v5, some (.int (k : Int))]) ⟨s7, M7, _, _, rfl⟩ ?_ ?_
              · clear M7 s7
                rintro j σ H8 hj ⟨s8, M8, v4, v5, rfl⟩
                rw [Int.zero_add]
                have hs : WM.fwV (WM.fwU (WM.fwK (WM.edM G G.length) (n + 1) k) k (n + 1) i) k i (j + 1) = WM.rel (WM.fwV (WM.fwU (WM.fwK (WM.edM G G.length) (n + 1) k) k (n + 1) i) k i j) k i j := rfl
                rw [hs]
                generalize WM.fwV (WM.fwU (WM.fwK (WM.edM G G.length) (n + 1) k) k (n + 1) i) k i j = M at M8 ⊢
                clear hs
                obtain ⟨ri, ci⟩ := M8.at_ (u := (i : Int)) (by omega) (by omega)
                obtain ⟨rk, ck⟩ := M8.at_ (u := (k : Int)) (by omega) (by omega)
                walk_at "el"
                refine n_ixL (SqL.of M8.hp) ri ?_
                walk_at "el"
                cases ex : M i k with
                | none =>
                  have hik : atI (rowL (n + 1) (M i)) (k : Int) = some .non := by rw [rowL_at (by omega) (by omega), ex]; rfl
                  refine n_ixL (SqL.of ci) hik ?_
                  walk_at "el"
                  rw [decide_eq_true rfl]
                  walk_at "el"
                  exact ⟨s8, by rw [rel_1 ex]; exact M8, _, _, rfl⟩
                | some x =>
                  have hik : atI (rowL (n + 1) (M i)) (k : Int) = some (.int x) := by rw [rowL_at (by omega) (by omega), ex]; rfl
                  refine n_ixL (SqL.of ci) hik ?_
                  walk_at "el"
                  rw [int_no]
                  walk_at "el"
                  refine n_ixL (SqL.of M8.hp) rk ?_
                  walk_at "el"
                  cases ey : M k j with
                  | none =>
                    have hkj : atI (rowL (n + 1) (M k)) (j : Int) = some .non := by rw [rowL_at (by omega) (by omega), ey]; rfl
                    refine n_ixL (SqL.of ck) hkj ?_
                    walk_at "el"
                    rw [decide_eq_true rfl]
                    walk_at "el"
                    exact ⟨s8, by rw [rel_2 ex ey]; exact M8, _, _, rfl⟩
                  | some y =>
                    have hkj : atI (rowL (n + 1) (M k)) (j : Int) = some (.int y) := by rw [rowL_at (by omega) (by omega), ey]; rfl
                    refine n_ixL (SqL.of ck) hkj ?_
                    walk_at "el"
                    rw [int_no]
                    walk_at "el"
                    refine n_ixL (SqL.of M8.hp) ri ?_
                    walk_at "el"
                    rw [rel_3 ex ey]
                    cases ez : M i j with
                    | none =>
                      have hij : atI (rowL (n + 1) (M i)) (j : Int) = some .non := by rw [rowL_at (by omega) (by omega), ez]; rfl
                      refine n_ixL (SqL.of ci) hij ?_
                      walk_at "el"
                      rw [decide_eq_true rfl]
                      walk_at "el"
                      refine n_ixL (SqL.of M8.hp) ri ?_
                      walk_at "el"
                      refine n_ixL (SqL.of ci) hik ?_
                      walk_at "el"
                      refine n_ixL (SqL.of M8.hp) rk ?_
                      walk_at "el"
                      refine n_ixL (SqL.of ck) hkj ?_
                      walk_at "el"
                      refine n_ixL (SqL.of M8.hp) ri ?_
                      walk_at "el"
                      refine a_set ci (ixnW (by omega) (by rw [rowL_len]; omega)) ?_
                      walk_at "el"
                      exact ⟨s8.mu (new _ (by omega)), by rw [mx_none ez]; exact M8.put (by omega) (by omega) (by omega) (by omega) (x + y), _, _, rfl⟩
                    | some z =>
                      have hij : atI (rowL (n + 1) (M i)) (j : Int) = some (.int z) := by rw [rowL_at (by omega) (by omega), ez]; rfl
                      refine n_ixL (SqL.of ci) hij ?_
                      walk_at "el"
                      rw [int_no]
                      walk_at "el"
                      refine n_ixL (SqL.of M8.hp) ri ?_
                      walk_at "el"
                      refine n_ixL (SqL.of ci) hij ?_
                      walk_at "el"
                      refine n_ixL (SqL.of M8.hp) ri ?_
                      walk_at "el"
                      refine n_ixL (SqL.of ci) hik ?_
                      walk_at "el"
                      refine n_ixL (SqL.of M8.hp) rk ?_
                      walk_at "el"
                      refine n_ixL (SqL.of ck) hkj ?_
                      walk_at "el"
                      refine ite2 (fun g => ?_) (fun g => ?_)
                      · walk_at "el"
                        refine n_ixL (SqL.of M8.hp) ri ?_
                        walk_at "el"
                        refine n_ixL (SqL.of ci) hik ?_
                        walk_at "el"
                        refine n_ixL (SqL.of M8.hp) rk ?_
                        walk_at "el"
                        refine n_ixL (SqL.of ck) hkj ?_
                        walk_at "el"
                        refine n_ixL (SqL.of M8.hp) ri ?_
                        walk_at "el"
                        refine a_set ci (ixnW (by omega) (by rw [rowL_len]; omega)) ?_
                        walk_at "el"
                        exact ⟨s8.mu (new _ (by omega)), by rw [mx_lt ez (of_decide_eq_true g)]; exact M8.put (by omega) (by omega) (by omega) (by omega) (x + y), _, _, rfl⟩
                      · walk_at "el"
                        exact ⟨s8, by rw [mx_ge ez (fun q => g (decide_eq_true q))]; exact M8, _, _, rfl⟩
              · clear M7 s7
                rintro σ H8 ⟨s8, M8, v4, v5, rfl⟩
                exact ⟨s8, M8, _, _, _, rfl⟩
            · clear M6 s6
              rintro σ H7 ⟨s7, M7, v3, v4, v5, rfl⟩
              exact ⟨s7, M7, _, _, _, _, rfl⟩
          · clear M5 s5
            rintro σ H6 ⟨s6, M6, v3, v4, v5, v6, rfl⟩
            have M7 : MatAt H6 D0 rw (n + 1) (WM.finM G n) := M6
            clear M6
            walk_at "el"
            refine ⟨by omega, by omega, ?_⟩
            rw [eN]
            refine lp_range (fun i σ H7 => H7 = H6 ∧ (∀ u : Nat, u < i → ∀ t, WM.finM G n u u = some t → ¬ 0 < t) ∧ ∃ v3, σ = [some (.int (n : Int)), some (.ref e), some (.ref D0), v3, v4, v5, v6]) ⟨rfl, fun u h => absurd h (Nat.not_lt_zero u), _, rfl⟩ ?_ ?_
            · rintro i σ H7 hi ⟨rfl, hn, v3, rfl⟩
              rw [Int.zero_add]
              obtain ⟨ri, ci⟩ := M7.at_ (u := (i : Int)) (by omega) (by omega)
              obtain ⟨t, ht, _⟩ := WM.finM_diag (G := G) (n := n) (u := (i : Int))
              have hii : atI (rowL (n + 1) (WM.finM G n i)) (i : Int) = some (.int t) := by rw [rowL_at (by omega) (by omega), ht]; rfl
              walk_at "el"
              refine n_ixL (SqL.of M7.hp) ri ?_
              walk_at "el"
              refine n_ixL (SqL.of ci) hii ?_
              walk_at "el"
              refine ite2 (fun g => ?_) (fun g => ?_)
              · walk_at "el"
                exact kN _ s6 ((WM.fin_pos hG).mp ⟨i, by omega, t, ht, of_decide_eq_true g⟩)
              · walk_at "el"
                refine ⟨rfl, fun u hu s hs => ?_, _, rfl⟩
                by_cases z : u = i
                · subst z
                  rw [ht] at hs
                  cases hs
                  exact fun q => g (decide_eq_true q)
                · exact hn u (by omega) s hs
            · rintro σ H7 ⟨rfl, hn, v3, rfl⟩
              walk_at "el"
              exact kM _ D0 rw s6 hD0 new (fun q => by
                obtain ⟨u, hu, t, ht, lt⟩ := (WM.fin_pos hG).mpr q
                exact hn u hu t ht lt) M7
end
end EL

/- part WK -/
namespace EL
open PySem PySem.Spec PyProof.Rows L2
open PySem.W (Frag)
/-! ### a law's own walk, and the walks of the mathematics -/
theorem step_wk {G : List (Int × Int × Int)} {h : Int} {i : Nat} {r : List Nat} : WM.wk G h (i :: r) = (stepW G h (.int (i : Int))).bind fun b => WM.wk G b r := by
  cases e : G[i]? with
  | none =>
    have l : ¬ i < G.length := fun z => by rw [List.getElem?_eq_getElem z] at e; cases e
    have : stepW G h (.int (i : Int)) = none := by
      show (if 0 ≤ (i : Int) ∧ (i : Int) < G.length then _ else none) = _
      rw [if_neg (by omega)]
    rw [this]
    unfold WM.wk
    rw [e]
    rfl
  | some x =>
    have l := (List.getElem?_eq_some_iff.mp e).1
    have : stepW G h (.int (i : Int)) = if x.1 = h then some x.2.1 else none := by
      show (if 0 ≤ (i : Int) ∧ (i : Int) < G.length then (G[((i : Nat) : Int).toNat]?).bind _ else none) = _
      rw [if_pos (by omega), Int.toNat_natCast, e]
      rfl
    rw [this]
    by_cases z : x.1 = h
    · subst z
      rw [if_pos rfl, WM.wk_mk e]
      rfl
    · rw [if_neg z]
      unfold WM.wk
      rw [e]
      simp only
      rw [if_neg z]
      rfl
theorem way_wk0 {G : List (Int × Int × Int)} : ∀ (is : List Nat) (o : Option Int), (ixs is).foldl (fun o v => o.bind fun h => stepW G h v) o = o.bind fun a => WM.wk G a is
  | [], o => by cases o <;> rfl
  | i :: r, o => by
    show (ixs r).foldl _ (o.bind fun h => stepW G h (.int (i : Int))) = _
    rw [way_wk0 r]
    cases o with
    | none => rfl
    | some h =>
      show (stepW G h (.int (i : Int))).bind _ = WM.wk G h (i :: r)
      rw [step_wk]
theorem way_wk {G : List (Int × Int × Int)} {a : Int} {is : List Nat} : wayTo G a (ixs is) = WM.wk G a is := way_wk0 is (some a)
theorem sm_sum {G : List (Int × Int × Int)} : ∀ (is : List Nat), WM.sm G is = (is.map (WM.gw G)).sum
  | [] => rfl
  | i :: r => by
    show WM.gw G i + WM.sm G r = _
    rw [sm_sum r, List.map_cons, List.sum_cons]
theorem wk_mem {G : List (Int × Int × Int)} : ∀ (is : List Nat) (a b : Int), WM.wk G a is = some b → ∀ i ∈ is, i < G.length
  | [], _, _, _, _, h => nomatch h
  | j :: r, a, b, h, i, hi => by
    obtain ⟨x, e, _, h2⟩ := WM.wk_cons h
    rcases List.mem_cons.mp hi with rfl | hi
    · exact (List.getElem?_eq_some_iff.mp e).1
    · exact wk_mem r _ b h2 i hi
abbrev jxs (is : List Nat) : List Int := is.map fun (i : Nat) => (i : Int)
theorem ixs_eq (is : List Nat) : ixs is = (jxs is).map V.int := by rw [List.map_map]; rfl
theorem shp_intsT (js : List Int) : SeqAt.shaped (.tuple (js.map PyData.int)) = true := by
  show (PyData.canLayAll0 _ && decide (PyData.depthAll _ + 1 ≤ 64)) = true
  exact shp_ints js
theorem eqvT_nil (ds : List PyData) : PyData.eqv (.tuple ds) (.tuple []) = decide (ds = []) := by
  cases ds with
  | nil => simp [PyData.eqv, PyData.eqvAll]
  | cons d r => simp [PyData.eqv, PyData.eqvAll]
end EL

/- part K22A -/
namespace EL
open PySem PySem.Spec PyProof.Rows L2
open PySem.W (Frag)
abbrev s_ring_right : Stmt := top 46
abbrev N_ring_right : List Str := ["_law_gaps_here", "_law_thing", "_law_a", "_law_index"]
theorem sc_ring_right : FnScope N_ring_right ["_law_gaps_here", "_law_thing"] (defScope s_ring_right) := ⟨rfl, rfl, rfl, by decide +kernel, rfl, by decide +kernel, by decide +kernel⟩
abbrev s_refused : Stmt := top 47
abbrev N_refused : List Str := ["_law_book", "_law_gaps_here", "_law_a", "_law_b", "e"]
theorem sc_refused : FnScope N_refused ["_law_book", "_law_gaps_here", "_law_a", "_law_b"] (defScope s_refused) := ⟨rfl, rfl, rfl, by decide +kernel, rfl, by decide +kernel, by decide +kernel⟩
abbrev s_gaps : Stmt := top 48
abbrev N_gaps : List Str := ["_law_bag_here", "_law_events", "_law_parts_here", "_law_gaps_here", "_law_a", "_law_b", "_law_g"]
theorem sc_gaps : FnScope N_gaps ["_law_bag_here", "_law_events", "_law_parts_here"] (defScope s_gaps) := ⟨rfl, rfl, rfl, by decide +kernel, rfl, by decide +kernel, by decide +kernel⟩
local macro_rules | `(tactic| walk_at "el1") => `(tactic| with_reducible first
  | refine a_sasg ?_ | refine a_sdrop ?_ | refine a_saugS ?_ | refine a_spar ?_ | refine a_seq ?_ | refine a_asg ?_ | refine a_drop ?_ | refine a_ret ?_ | refine a_if ?_ | refine a_next ?_
  | refine a_op ?_ | refine a_cons ?_ | refine a_nil ?_ | refine a_cb ?_ | refine a_call ?_ | refine a_c ?_ | refine a_gn ?_ | refine a_nx ?_ | refine a_rt ?_ | refine a_un ?_
  | refine a_test ?_ | refine a_B ?_ | refine a_bl ?_ | refine a_and ?_ | refine a_or ?_ | refine a_not ?_ | refine a_andV ?_ | refine a_orV ?_ | refine a_notV ?_ | refine a_ifx ?_ | refine a_chain ?_
  | refine a_nT ?_ | refine a_nF ?_ | refine a_fld ?_ | refine a_getF ?_ | refine a_T ?_ | refine a_F ?_ | refine a_tup ?_ | refine a_lst ?_ | refine a_sub ?_ | refine a_augS ?_ | refine a_two ?_ | refine a_I0 ?_ | refine a_U ?_ | refine n_add ?_ | refine n_int ?_ | refine n_ib ?_ | refine a_ip ?_ | refine a_rng1 ?_ | refine a_rng2 ?_ | refine a_bm ?_ | refine a_abs ?_ | refine a_pairs ?_ | refine a_pairs0 ?_ | refine a_bk ?_ | refine a_prp ?_ | refine a_lc ?_ | refine a_yes ?_ | refine a_sl ?_ | refine a_nop ?_ | refine a_prt ?_ | refine a_ex1 ?_ | refine a_for ?_ | refine a_sfor ?_ | refine a_iE1 ?_ | refine a_iEs ?_ | refine a_iEz ?_ | refine a_iEnum ?_ | refine a_iTup ?_ | refine a_iList ?_ | refine a_gcons ?_ | refine a_gnil ?_ | refine a_revT ?_ | refine a_spar3 ?_ | refine a_par3 ?_ | refine a_three ?_)
local macro_rules | `(tactic| walk_at "el2") => `(tactic| first
  | (refine a_var (by rfl) ?_)
  | (refine n_ixL (SqL.of (by assumption)) (by rfl) ?_) | (refine n_ixT (SqT.of (by assumption)) (by rfl) ?_) | (refine n_eq (by rfl) ?_) | (refine n_ne (by rfl) ?_)
  | (refine n_isN ?_) | (refine n_notN ?_) | (refine n_isB ?_) | (refine n_notB ?_) | (refine n_isBI ?_) | (refine n_notBI ?_) | (refine n_len (.inl (SqL.of (by assumption))) ?_) | (refine n_len (.inr (SqT.of (by assumption))) ?_)
  | (refine a_getL (SqL.of (by assumption)) (by rfl) ?_)
  | (refine n_isInt (by assumption) ?_) | (refine n_isBool (by assumption) ?_) | (refine n_isStr (by assumption) ?_) | (refine n_isTup (by assumption) ?_) | (refine n_isLst (by assumption) ?_))
local macro_rules | `(tactic| walk_at "el") => `(tactic| repeat (first | walk_at "el1" | walk_at "el2"))

def spRR (K : Frag) : Sp := fun vs H Q _ => ∃ (g r : Addr) (gs : List V) (G : List (Int × Int × Int)) (is : List Nat) (e : Int), vs = [.ref g, .ref r] ∧ H g = some (.lst gs) ∧ RowsAre encT H gs G ∧ H r = some (.tup (ixs is)) ∧ WM.wk G e is = some e ∧ 0 < WM.sm G is ∧ is.length ≤ 1000 ∧ gs.length ≤ 1000 ∧
  ∀ H', Same H H' → Q (.bl true) H'
/-- what the law asks of a way round for each pair of events -/
def spRefused (K : Frag) (C : Addr) : Sp := fun vs H Q _ => ∃ (A : BA) (D : PD) (g : Addr) (gs : List V) (a b : Nat) (is : List Nat), vs = [.ref A.o, .ref g, .int (a : Int), .int (b : Int)] ∧ BkW K C H A D ∧ H g = some (.lst gs) ∧ RowsAre encT H gs D.G ∧ gs.length ≤ 1000 ∧ a < A.ev.toNat ∧ b < A.ev.toNat ∧
  ringN D.G A.ev.toNat A.ev.toNat = some is ∧ ∀ H', Same H H' → Q (.bl true) H'
def spGapsL (K : Frag) : Sp := fun vs H Q _ => ∃ (b c p : Addr) (l : Pt → Addr) (xs : List V) (ev wi : Int), vs = [.ref b, .int ev, .ref p] ∧ Bag H b c ∧ p ≠ b ∧ l .gap ≠ b ∧ H p = some (.lst [.ref (l .tel), .ref (l .gap), .ref (l .sur), .ref (l .cla)]) ∧ H (l .gap) = some (.lst xs) ∧ (∀ x ∈ xs, ItemOk .gap H x ev wi) ∧ (∀ x ∈ xs, GapSm H x) ∧ xs.length ≤ 23 ∧
  ∀ H' r ys, Bag H' b c → Kp b H H' → H r = none → H' r = some (.lst ys) → (∀ x ∈ ys, ItemOk .gap H' x ev wi) → ys.length ≤ 24 → Q (.ref r) H'
section
variable {P : Program} {w : World} {K : Frag} {mg : Str → Option Value} {base : Heap} {f : Addr} {fd : FuncData} {C C_NoFit C_CaseError : Addr}
theorem ok_ring_right (F : Fun K "_law_ring_right" "_law_ring_right" s_ring_right f fd) (T : Tb mg) (c_l_is_way : Cal P w K mg base CX0 1 "_law_is_way" ["_law_gaps_here", "_law_a", "_law_b", "_law_thing"] (spWayL K)) : FnOk P w K mg base CX0 2 f fd ["_law_gaps_here", "_law_thing"] (spRR K) := by
  refine F.ok sc_ring_right (fun vs H Q E h => ?_) (fun cdv A outer s H vs Q E hr h => ?_)
  · obtain ⟨_, _, _, _, _, _, rfl, _⟩ := h
    rfl
  · obtain ⟨g, r, gs, G, is, e, rfl, hg, hR, hrr, hw, hp, hl, hgl, k⟩ := h
    refine ⟨_, (pss_cons (ps_if (PW.pt (pw_or (pt_not (pt_val (pe_callB u_isi rfl T.b.isinstance_ boot_isinstance (pa_cons (pv 1) (pa_cons (pe_bltn (v := V.ty "tuple") rfl T.b.tuple_ (by decide +kernel) rfl) pa_nil))))) (pw_or (pt_cmpR (u_eq hr.units) (pv 1) (pe_tup pa_nil) (nomark _)) (pw_or1 (pt_not (pt_val (pe_callB u_isi rfl T.b.isinstance_ boot_isinstance (pa_cons (pe_ix ix_seq (pv 1) pe_int (fun _ _ => rfl)) (pa_cons (pe_bltn (v := V.ty "int") rfl T.b.int_ (by decide +kernel) rfl) pa_nil)))))))))
    (pss_one (ps_ret pe_bl))
    pss_nil)
  (pss_cons (ps_if (pt_not (pt_chain op_le op_lt pe_int (pe_ix ix_seq (pv 1) pe_int (fun _ _ => rfl)) (pe_callB u_len rfl T.b.len_ boot_len (pa_cons (pv 0) pa_nil))))
    (pss_one (ps_ret pe_bl))
    pss_nil)
  (pss_cons (ps_set (i := 2) sc_ring_right.nd rfl (Or.inl rfl) (pe_ix ix_seq (pe_ix ix_seq (pv 0) (pe_ix ix_seq (pv 1) pe_int (fun _ _ => rfl)) (fun _ _ => rfl)) pe_int (fun _ _ => rfl)))
  (pss_one (ps_ret (pe_and (pe_cal c_l_is_way (hr.mono (by decide)) pass0 (pa_cons (pv 0) (pa_cons (pv 2) (pa_cons (pv 2) (pa_cons (pv 1) pa_nil))))) (pe_one (pe_cmpR op_gt (pe_callB (cr_sum rfl) rfl T.b.sum_ (by decide +kernel) (pa_cons (pe_lc (own := [("_law_index", 3)]) rfl sc_ring_right.nd (u_iter (pv 1)) (blkOk_by (own := [("_law_index", 3)]) (N := N_ring_right) (sc := defScope s_ring_right) (by decide +kernel)) (fun _ _ _ _ _ => (pg_name (i := 3) sc_ring_right.nd rfl (Or.inl rfl))) (fun _ _ _ _ _ => pts_nil) (fun _ _ _ _ _ => (pe_ix (show IxR _ (rIx K) from ix_seq) (pe_ix (show IxR _ (rIx K) from ix_seq) (pv 0) (pv 3) (fun _ _ => rfl)) pe_int (fun _ _ => rfl)))) pa_nil)) pe_int (nomark _))))))))), ?_⟩
    match is, hw, hp with
    | [], _, hp => exact absurd hp (by show ¬ (0 : Int) < 0; omega)
    | i :: t, hw, hp =>
    obtain ⟨x, ex, xe, hw2⟩ := WM.wk_cons hw
    have il : i < G.length := (List.getElem?_eq_some_iff.mp ex).1
    obtain ⟨u, hu, hxu⟩ := hR.get ex
    obtain ⟨ty, kt⟩ := (Th.tup (K := K) hrr).kit
    have eT : isT H (.ref r) = true := by show obT (H r) = true; rw [hrr]; rfl
    walk_at "el"
    rw [eT]
    walk_at "el"
    refine ⟨by decide, fun z hz => ?_⟩
    have e1 := nw_of hz (.tup [])
    rw [ixs_eq] at hrr
    refine n_eqD (.tup (SqT.of (e1 _ _ hrr)) (dp_ints _)) (.tup (SqT.of upd_same) .nil) (shp_intsT _) rfl ?_
    rw [eqvT_nil, decide_eq_false (by simp)]
    rw [← ixs_eq] at hrr
    have hr1 := e1 _ _ hrr
    have hg1 := e1 _ _ hg
    have hR1 := hR.same e1
    have hx1 := e1 _ _ hxu
    generalize upd H z (.tup []) = H1 at e1 hr1 hg1 hR1 hx1 ⊢
    walk_at "el"
    obtain ⟨ty2, kt2⟩ := (Th.int (K := K) (H := H1) (i : Int)).kit
    have eI : isI (.int (i : Int)) = true := rfl
    walk_at "el"
    have h0 : atI (ixs (i :: t)) 0 = some (.int (i : Int)) := by
      show atI (ixs (i :: t)) ((0 : Nat) : Int) = _
      exact atI_nat rfl
    refine n_ixT (SqT.of hr1) h0 ?_
    walk_at "el"
    rw [eI]
    walk_at "el"
    refine n_ixT (SqT.of hr1) h0 ?_
    walk_at "el"
    rw [decide_eq_true (by have := hR.len; omega : (i : Int) < (gs.length : Int))]
    walk_at "el"
    refine n_ixT (SqT.of hr1) h0 ?_
    refine n_ixL (SqL.of hg1) (atI_nat hu) ?_
    walk_at "el"
    rw [xe]
    refine ⟨g, gs, G, e, e, .ref r, rfl, hR1.gaps (.inl hg1), .tup hr1, fun q xs hq hxs y hy => ?_, fun b hb => ?_⟩
    · cases hq
      rw [hr1] at hxs
      cases hxs
      obtain ⟨j, _, rfl⟩ := List.mem_map.mp hy
      exact .int _
    have bt : b = true := hb.mpr ⟨r, _, rfl, hr1, by rw [way_wk]; exact hw⟩
    subst bt
    walk_at "el"
    refine a_iSeq (.inr ?_)
    walk_at "el"
    refine ⟨r, rfl, ⟨_, SqT.of hr1⟩, fun D0 hD0 => ?_⟩
    have e2 := nw_of hD0 (.lst [])
    have im := wk_mem _ _ _ hw
    refine lc_of (walk_tup (xs := ixs (i :: t))) (fun m H3 => Same H1 H3 ∧ H3 D0 = some (.lst ((((i :: t).take m).map (WM.gw G)).map V.int))) ⟨e2, upd_same⟩ (fun m H3 hm h => SqT.of (h.1 _ _ hr1)) ?_ ?_
    · rintro m y H3 H4 hm ⟨s3, hD3⟩ ⟨rfl, hy⟩
      rw [List.getElem?_map] at hy
      have hm2 : m < (i :: t).length := by rw [List.length_map] at hm; exact hm
      rw [List.getElem?_eq_getElem hm2] at hy
      cases hy
      have jl := im _ (List.getElem_mem hm2)
      obtain ⟨v, hv, hxv⟩ := (hR1.same s3).get (List.getElem?_eq_getElem jl)
      have hg3 := s3 _ _ hg1
      walk_at "el"
      refine ⟨rfl, ?_⟩
      walk_at "el"
      refine n_ixL (SqL.of hg3) (atI_nat hv) ?_
      walk_at "el"
      refine ⟨_, hD3, by rw [List.length_map, List.length_map, List.length_take]; exact Nat.lt_of_le_of_lt (m := 1000) (by omega) (by decide), s3.mu hD0, ?_⟩
      rw [upd_same, List.take_add_one, List.getElem?_eq_getElem hm2, List.map_append, List.map_append]
      show some (HO.lst (_ ++ [V.int G[(i :: t)[m]].2.2])) = some (HO.lst (_ ++ [V.int (WM.gw G (i :: t)[m])]))
      rw [WM.gw_at (List.getElem?_eq_getElem jl)]
    · rintro H3 ⟨s3, hD3⟩
      rw [List.length_map, List.take_length] at hD3
      walk_at "el"
      refine ⟨D0, _, rfl, SqL.of hD3, ?_⟩
      rw [← sm_sum]
      walk_at "el"
      rw [decide_eq_true hp]
      exact k _ (fun a o h => s3 _ _ (e1 _ _ h))
end
end EL

/- part K22H -/
namespace EL
open PySem PySem.Spec PyProof.Rows L2
open PySem.W (Frag)
local macro_rules | `(tactic| walk_at "el1") => `(tactic| with_reducible first
  | refine a_sasg ?_ | refine a_sdrop ?_ | refine a_saugS ?_ | refine a_spar ?_ | refine a_seq ?_ | refine a_asg ?_ | refine a_drop ?_ | refine a_ret ?_ | refine a_if ?_ | refine a_next ?_
  | refine a_op ?_ | refine a_cons ?_ | refine a_nil ?_ | refine a_cb ?_ | refine a_call ?_ | refine a_c ?_ | refine a_gn ?_ | refine a_nx ?_ | refine a_rt ?_ | refine a_un ?_
  | refine a_test ?_ | refine a_B ?_ | refine a_bl ?_ | refine a_and ?_ | refine a_or ?_ | refine a_not ?_ | refine a_andV ?_ | refine a_orV ?_ | refine a_notV ?_ | refine a_ifx ?_ | refine a_chain ?_
  | refine a_nT ?_ | refine a_nF ?_ | refine a_fld ?_ | refine a_getF ?_ | refine a_T ?_ | refine a_F ?_ | refine a_tup ?_ | refine a_lst ?_ | refine a_sub ?_ | refine a_augS ?_ | refine a_two ?_ | refine a_I0 ?_ | refine a_U ?_ | refine n_add ?_ | refine n_int ?_ | refine n_ib ?_ | refine a_ip ?_ | refine a_rng1 ?_ | refine a_rng2 ?_ | refine a_bm ?_ | refine a_abs ?_ | refine a_pairs ?_ | refine a_pairs0 ?_ | refine a_bk ?_ | refine a_prp ?_ | refine a_lc ?_ | refine a_yes ?_ | refine a_sl ?_ | refine a_nop ?_ | refine a_prt ?_ | refine a_ex1 ?_ | refine a_for ?_ | refine a_sfor ?_ | refine a_iE1 ?_ | refine a_iEs ?_ | refine a_iEz ?_ | refine a_iEnum ?_ | refine a_iTup ?_ | refine a_iList ?_ | refine a_gcons ?_ | refine a_gnil ?_ | refine a_revT ?_ | refine a_spar3 ?_ | refine a_par3 ?_ | refine a_three ?_)
local macro_rules | `(tactic| walk_at "el2") => `(tactic| first
  | (refine a_var (by rfl) ?_)
  | (refine n_ixL (SqL.of (by assumption)) (by rfl) ?_) | (refine n_ixT (SqT.of (by assumption)) (by rfl) ?_) | (refine n_eq (by rfl) ?_) | (refine n_ne (by rfl) ?_)
  | (refine n_isN ?_) | (refine n_notN ?_) | (refine n_isB ?_) | (refine n_notB ?_) | (refine n_isBI ?_) | (refine n_notBI ?_) | (refine n_len (.inl (SqL.of (by assumption))) ?_) | (refine n_len (.inr (SqT.of (by assumption))) ?_)
  | (refine a_getL (SqL.of (by assumption)) (by rfl) ?_)
  | (refine n_isInt (by assumption) ?_) | (refine n_isBool (by assumption) ?_) | (refine n_isStr (by assumption) ?_) | (refine n_isTup (by assumption) ?_) | (refine n_isLst (by assumption) ?_))
local macro_rules | `(tactic| walk_at "el") => `(tactic| repeat (first | walk_at "el1" | walk_at "el2"))

theorem ps_rzC {X : Cx} {W : WX} {x : Str} {C : Addr} {ps : List Str} {sp : Sp} {e : Expr} {es : List Expr} {ta : TA} {p pos pos' : Pos} (G : ErrG X.prog X.w X.K X.mg X.base x C ps sp) (hr : Room 2 X.A) (hc : X.calm = true) (tk : L2N.Takes X W) (ha : PA X (e :: es) ta)
    (hg : Gl X x := by rfl) (hb : (x == ("__debug__" : Str)) = false := by decide) (he : starEach (e :: es) X.env = (false, eval e X.env) :: starEach es X.env := by rfl) (hpl : (backTo pos (starEach es X.env)).any (·.1) = false := by rfl) :
    PS X (.Raise (some (.Call (.Name x p) (e :: es) [] pos)) none pos') (tRz C sp ta W) := by
  obtain ⟨fI, fd, i, t, F, b⟩ := G.ex
  exact L2N.ps_raise hc tk (pmk_oexC (pos := pos) (p := p) G.o i t F hr b pass0 hg G.g ha hb he hpl)
section
variable {P : Program} {w : World} {K : Frag} {mg : Str → Option Value} {base : Heap} {f : Addr} {fd : FuncData} {C CN : Addr}
theorem ok_sure_waysN (F : Fun K "sure_ways" "sure_ways" s_sure_ways f fd) (T : Tb mg) (c_all_ways : Cal P w K mg base CX0 4 "all_ways" ["book"] (spAll K C)) (c_ring_in : Cal P w K mg base CX0 1 "ring_in" ["ways"] (spRingIn K)) (c_NoFit : ErrG P w K mg base "NoFit" CN ["self", "reason"] (spErr1 CN "reason")) :
    FnOk P w K mg base (L2N.CX P w) 5 f fd ["book"] (spSure K C CN) := by
  refine okXN F sc_sure_ways (fun vs H Q E h => ?_) (fun cdv A outer s H vs Q E hr h => ?_)
  · obtain ⟨_, _, rfl, _⟩ := h
    rfl
  · obtain ⟨B, D, rfl, hB, k0, k1⟩ := h
    refine ⟨_, (pss_cons (ps_set (i := 1) sc_sure_ways.nd rfl (Or.inl rfl) (pe_cal c_all_ways (hr.mono (by decide)) pass0 (pa_cons (pv 0) pa_nil)))
  (pss_cons (ps_set (i := 2) sc_sure_ways.nd rfl (Or.inl rfl) (pe_cal c_ring_in (hr.mono (by decide)) pass0 (pa_cons (pv 1) pa_nil)))
  (pss_cons (ps_if (pt_cmpR u_isnot (pv 2) pe_non (nomark _))
    (pss_one (ps_rzC c_NoFit (hr.mono (by decide)) rfl (L2N.takes_of rfl rfl rfl rfl) (pa_cons (pe_tup (pa_cons pe_str (pa_cons (pv 2) pa_nil))) pa_nil)))
    pss_nil)
  (pss_one (ps_ret (pv 1)))))), ?_⟩
    walk_at "el"
    refine ⟨B, D, rfl, hB, fun H1 r s1 _ hW => ?_⟩
    walk_at "el"
    refine ⟨r, D.G, B.ev.toNat, rfl, hW, by have := hB.e8; omega, fun H2 v s2 hv => ?_⟩
    have hW2 := hW.same s2
    rcases hv with ⟨e, rfl⟩ | ⟨is, q, e, rfl, hq⟩
    · walk_at "el"
      exact k0 e H2 r (s1.trans s2) hW2
    · walk_at "el"
      refine ⟨by show 2 ≤ sizeLine; decide, fun p hp => ?_⟩
      have e3 := nw_of hp (.tup [.str "gaps", .ref q])
      walk_at "el"
      refine n_err1 fun d hd => ?_
      exact k1 is e _ p q d (fun a o h => e3 a o (s2 _ _ (s1 _ _ h))) (e3 _ _ hq) upd_same hd
theorem ok_wayN (F : Fun K "way" "way" s_way f fd) (T : Tb mg) (c_sure_ways : Cal P w K mg base (L2N.CX P w) 5 "sure_ways" ["book"] (spSure K C CN)) : FnOk P w K mg base (L2N.CX P w) 6 f fd ["book", "a", "b"] (spWayF K C CN) := by
  refine okXN F sc_way (fun vs H Q E h => ?_) (fun cdv A outer s H vs Q E hr h => ?_)
  · obtain ⟨_, _, _, _, rfl, _⟩ := h
    rfl
  · obtain ⟨B, D, a, b, rfl, hB, la, lb, k0, k1⟩ := h
    refine ⟨_, (pss_one (ps_ret (pe_ix ix_seq (pe_ix ix_seq (pe_cal c_sure_ways (hr.mono (by decide)) (passEN (L2N.takes_of rfl rfl rfl rfl)) (pa_cons (pv 0) pa_nil)) (pv 1) (fun _ _ => rfl)) (pv 2) (fun _ _ => rfl)))), ?_⟩
    walk_at "el"
    refine ⟨B, D, rfl, hB, fun e H1 r s1 hW => ?_, k1⟩
    obtain ⟨rs, hw, hl, hat⟩ := hW
    have ha : a < rs.length := by omega
    obtain ⟨ws, h2, h3⟩ := hat a _ (List.getElem?_eq_getElem ha)
    obtain ⟨v, hv, cv⟩ := h3.get (a := (b : Int)) (by omega) (by omega)
    walk_at "el"
    refine n_ixL (SqL.of hw) (atI_nat (j := a) (by rw [List.getElem?_map, List.getElem?_eq_getElem ha]; rfl)) ?_
    walk_at "el"
    refine n_ixL (SqL.of h2) hv ?_
    walk_at "el"
    exact k0 e H1 v s1 cv
theorem ok_l_is_wayH (F : Fun K "_law_is_way" "_law_is_way" s_l_is_way f fd) (T : Tb mg) : L2H.FnH P w K mg base CX0 1 f fd ["_law_gaps_here", "_law_a", "_law_b", "_law_thing"] (spWayL K) := by
  refine fnH_of F sc_l_is_way (fun vs H Q E h => ?_) (fun cdv A outer s H vs Q E p hot hr h => ?_)
  · obtain ⟨_, _, _, _, _, _, rfl, _⟩ := h
    rfl
  · obtain ⟨g, gs, G, a, b, x, rfl, hG, th, te, k⟩ := h
    have hc := hotDef (P := P) (w := w) (K := K) (mg := mg) (base := base) (CX := CX0) (N := N_l_is_way) (qual := "_law_is_way") (sc := defScope s_l_is_way) (f := f) (cd := cdv) (outer := outer) (s := s) (H := H) (E := E) hot
    refine ⟨_, (pss_cons (ps_if (pt_not (pt_val (pe_callB u_isi rfl T.b.isinstance_ boot_isinstance (pa_cons (pv 3) (pa_cons (pe_bltn (v := V.ty "tuple") rfl T.b.tuple_ (by decide +kernel) rfl) pa_nil)))))
    (pss_one (ps_ret pe_bl))
    pss_nil)
  (pss_cons (ps_set (i := 4) sc_l_is_way.nd rfl (Or.inl rfl) (pv 1))
  (pss_cons (L2H.ps_forH (passes_of rfl) hc (pi_tupH (pv 3)) (pg_name (i := 5) sc_l_is_way.nd rfl (Or.inl rfl))
    (pss_cons (ps_if (PW.pt (pw_or (pt_not (pt_val (pe_callB u_isi rfl T.b.isinstance_ boot_isinstance (pa_cons (pv 5) (pa_cons (pe_bltn (v := V.ty "int") rfl T.b.int_ (by decide +kernel) rfl) pa_nil))))) (pw_or (pt_val (pe_callB u_isi rfl T.b.isinstance_ boot_isinstance (pa_cons (pv 5) (pa_cons (pe_bltn (v := V.ty "bool") rfl T.b.bool_ (by decide +kernel) rfl) pa_nil)))) (pw_or1 (pt_cmpR op_lt (pv 5) pe_int (nomark _))))))
    (pss_one (ps_ret pe_bl))
    pss_nil)
  (pss_cons (ps_if (pt_cmpR op_ge (pv 5) (pe_callB u_len rfl T.b.len_ boot_len (pa_cons (pv 0) pa_nil)) (nomark _))
    (pss_one (ps_ret pe_bl))
    pss_nil)
  (pss_cons (ps_if (pt_cmpR (u_ne hr.units) (pe_ix ix_seq (pe_ix ix_seq (pv 0) (pv 5) (fun _ _ => rfl)) pe_int (fun _ _ => rfl)) (pv 4) (nomark _))
    (pss_one (ps_ret pe_bl))
    pss_nil)
  (pss_one (ps_set (i := 4) sc_l_is_way.nd rfl (Or.inl rfl) (pe_ix ix_seq (pe_ix ix_seq (pv 0) (pv 5) (fun _ _ => rfl)) pe_int (fun _ _ => rfl))))))))
  (pss_one (ps_ret (pe_cmpR (u_eq hr.units) (pv 4) (pv 2) (nomark _))))))), ?_⟩
    obtain ⟨ty, kt⟩ := th.kit
    walk_at "el"
    refine ite2 (fun h0 => ?_) (fun h0 => ?_)
    · walk_at "el"
      refine k _ ⟨(fun h => by cases h), ?_⟩
      rintro ⟨q, xs, rfl, hq, _⟩
      have e : isT H (.ref q) = true := by show obT (H q) = true; rw [hq]; rfl
      rw [e] at h0
      cases h0
    · obtain ⟨q, xs, rfl, hq⟩ := isT_tup th (by simpa using h0)
      walk_at "el"
      refine ⟨q, rfl, ⟨_, SqT.of hq⟩, ?_⟩
      refine lp_it (walk_tup (xs := xs)) (fun i σ H1 => H = H1 ∧ ∃ h, wayTo G a (xs.take i) = some h ∧ ∃ v5, σ = [some (.ref g), some (.int a), some (.int b), some (.ref q), some (.int h), v5]) ⟨rfl, a, rfl, _, rfl⟩ (fun i σ H1 hi h => SqT.of (h.1 ▸ hq)) ?_ ?_
      · rintro i y σ H1 H2 hi ⟨rfl, h, hw, v5, rfl⟩ ⟨rfl, hy⟩
        have tk : xs.take (i + 1) = xs.take i ++ [y] := by rw [List.take_add_one, hy]; rfl
        have sp : xs = xs.take (i + 1) ++ xs.drop (i + 1) := (List.take_append_drop _ _).symm
        have bad : stepW G h y = none → ∀ z, wayTo G a xs ≠ some z := fun hn z e => by
          have q : wayTo G a (xs.take (i + 1)) = none := by rw [tk, way_snoc, hw]; exact hn
          rw [sp, way_off q] at e
          cases e
        have no : stepW G h y = none → ¬ isWay H2 G a b (.ref q) := fun hn ⟨q', xs', e, hq', hz⟩ => by
          cases e
          rw [hq] at hq'
          cases hq'
          exact bad hn _ hz
        obtain ⟨ty2, kt2⟩ := (te q xs rfl hq y (List.mem_of_getElem? hy)).kit
        walk_at "el"
        have out : stepW G h y = none → Q (.bl false) H2 := fun hn => k _ ⟨(fun z => by cases z), fun z => absurd z (no hn)⟩
        refine ite2 (fun h1 => ?_) (fun h1 => ?_)
        · walk_at "el"
          exact out (by cases y <;> first | rfl | cases h1)
        · rcases isI_cases (by simpa using h1) with ⟨j, rfl⟩ | ⟨z, rfl⟩
          · walk_at "el"
            refine ite2 (fun h2 => by cases h2) (fun _ => ?_)
            walk_at "el"
            refine ite2 (fun h2 => ?_) (fun h2 => ?_)
            · have q : j < 0 := by simpa using h2
              walk_at "el"
              exact out (step_off (by show (decide _ && decide _) = false; rw [decide_eq_false (by omega)]; rfl))
            · have q : ¬ j < 0 := by simpa using h2
              walk_at "el"
              refine n_len hG.seq.len ?_
              walk_at "el"
              refine ite2 (fun h3 => ?_) (fun h3 => ?_)
              · have q3 : (gs.length : Int) ≤ j := by simpa using h3
                walk_at "el"
                exact out (step_off (by show (decide _ && decide _) = false; rw [decide_eq_false (show ¬ j < (G.length : Int) by rw [← hG.len]; omega), Bool.and_false]))
              · have q3 : ¬ (gs.length : Int) ≤ j := by simpa using h3
                obtain ⟨n, rfl⟩ : ∃ n : Nat, j = n := ⟨j.toNat, by omega⟩
                have hn : n < gs.length := by omega
                obtain ⟨u, x, hv, hx, hu⟩ := hG.at_ n gs[n] (List.getElem?_eq_getElem hn)
                have hgn : gs[n]? = some (.ref u) := by rw [List.getElem?_eq_getElem hn, hv]
                walk_at "el"
                refine n_ixA hG.seq (atI_nat hgn) ?_
                walk_at "el"
                refine ite2 (fun h4 => ?_) (fun h4 => ?_)
                · have ne : ¬ x.1 = h := by simpa using h4
                  walk_at "el"
                  exact out ((step_at hx).trans (if_neg ne))
                · have e : x.1 = h := by simpa using h4
                  walk_at "el"
                  refine n_ixA hG.seq (atI_nat hgn) ?_
                  walk_at "el"
                  exact ⟨rfl, x.2.1, by rw [tk, way_snoc, hw]; exact (step_at hx).trans (if_pos e), _, rfl⟩
          · walk_at "el"
            refine ite2 (fun _ => ?_) (fun h2 => absurd rfl h2)
            walk_at "el"
            exact out rfl
      · rintro σ H1 ⟨rfl, h, hw, v5, rfl⟩
        rw [List.take_length] at hw
        walk_at "el"
        refine k _ ⟨fun z => ⟨q, xs, rfl, hq, ?_⟩, ?_⟩
        · have e : h = b := by simpa using z
          rw [← e]
          exact hw
        · rintro ⟨q', xs', e, hq', hz⟩
          cases e
          rw [hq] at hq'
          cases hq'
          rw [hw] at hz
          cases hz
          exact decide_eq_true rfl
theorem ok_ring_rightH (F : Fun K "_law_ring_right" "_law_ring_right" s_ring_right f fd) (T : Tb mg) (c_l_is_way : CalH P w K mg base 1 "_law_is_way" ["_law_gaps_here", "_law_a", "_law_b", "_law_thing"] (spWayL K)) : L2H.FnH P w K mg base CX0 2 f fd ["_law_gaps_here", "_law_thing"] (spRR K) := by
  refine fnH_of F sc_ring_right (fun vs H Q E h => ?_) (fun cdv A outer s H vs Q E p hot hr h => ?_)
  · obtain ⟨_, _, _, _, _, _, rfl, _⟩ := h
    rfl
  · obtain ⟨g, r, gs, G, is, e, rfl, hg, hR, hrr, hw, hp, hl, hgl, k⟩ := h
    have hc := hotDef (P := P) (w := w) (K := K) (mg := mg) (base := base) (CX := CX0) (N := N_ring_right) (qual := "_law_ring_right") (sc := defScope s_ring_right) (f := f) (cd := cdv) (outer := outer) (s := s) (H := H) (E := E) hot
    refine ⟨_, (pss_cons (ps_if (PW.pt (pw_or (pt_not (pt_val (pe_callB u_isi rfl T.b.isinstance_ boot_isinstance (pa_cons (pv 1) (pa_cons (pe_bltn (v := V.ty "tuple") rfl T.b.tuple_ (by decide +kernel) rfl) pa_nil))))) (pw_or (pt_cmpR (u_eq hr.units) (pv 1) (pe_tup pa_nil) (nomark _)) (pw_or1 (pt_not (pt_val (pe_callB u_isi rfl T.b.isinstance_ boot_isinstance (pa_cons (pe_ix ix_seq (pv 1) pe_int (fun _ _ => rfl)) (pa_cons (pe_bltn (v := V.ty "int") rfl T.b.int_ (by decide +kernel) rfl) pa_nil)))))))))
    (pss_one (ps_ret pe_bl))
    pss_nil)
  (pss_cons (ps_if (pt_not (pt_chain op_le op_lt pe_int (pe_ix ix_seq (pv 1) pe_int (fun _ _ => rfl)) (pe_callB u_len rfl T.b.len_ boot_len (pa_cons (pv 0) pa_nil))))
    (pss_one (ps_ret pe_bl))
    pss_nil)
  (pss_cons (ps_set (i := 2) sc_ring_right.nd rfl (Or.inl rfl) (pe_ix ix_seq (pe_ix ix_seq (pv 0) (pe_ix ix_seq (pv 1) pe_int (fun _ _ => rfl)) (fun _ _ => rfl)) pe_int (fun _ _ => rfl)))
  (pss_one (ps_ret (pe_and (pe_calH c_l_is_way (hr.mono (by decide)) hc (pa_cons (pv 0) (pa_cons (pv 2) (pa_cons (pv 2) (pa_cons (pv 1) pa_nil))))) (pe_one (pe_cmpR op_gt (pe_callB (cr_sumH hc) rfl T.b.sum_ (by decide +kernel) (pa_cons (pe_lcH (own := [("_law_index", 3)]) hc sc_ring_right.nd (pi_tupH (pv 1)) (blkOk_by (own := [("_law_index", 3)]) (N := N_ring_right) (sc := defScope s_ring_right) (by decide +kernel)) (fun _ _ _ _ _ => (pg_name (i := 3) sc_ring_right.nd rfl (Or.inl rfl))) (fun _ _ _ _ _ => pts_nil) (fun _ _ _ _ _ => (pe_ix (show IxR _ (rIx K) from ix_seq) (pe_ix (show IxR _ (rIx K) from ix_seq) (pv 0) (pv 3) (fun _ _ => rfl)) pe_int (fun _ _ => rfl)))) pa_nil)) pe_int (nomark _))))))))), ?_⟩
    match is, hw, hp with
    | [], _, hp => exact absurd hp (by show ¬ (0 : Int) < 0; omega)
    | i :: t, hw, hp =>
    obtain ⟨x, ex, xe, hw2⟩ := WM.wk_cons hw
    have il : i < G.length := (List.getElem?_eq_some_iff.mp ex).1
    obtain ⟨u, hu, hxu⟩ := hR.get ex
    obtain ⟨ty, kt⟩ := (Th.tup (K := K) hrr).kit
    have eT : isT H (.ref r) = true := by show obT (H r) = true; rw [hrr]; rfl
    walk_at "el"
    rw [eT]
    walk_at "el"
    refine ⟨by decide, fun z hz => ?_⟩
    have e1 := nw_of hz (.tup [])
    rw [ixs_eq] at hrr
    refine n_eqD (.tup (SqT.of (e1 _ _ hrr)) (dp_ints _)) (.tup (SqT.of upd_same) .nil) (shp_intsT _) rfl ?_
    rw [eqvT_nil, decide_eq_false (by simp)]
    rw [← ixs_eq] at hrr
    have hr1 := e1 _ _ hrr
    have hg1 := e1 _ _ hg
    have hR1 := hR.same e1
    have hx1 := e1 _ _ hxu
    generalize upd H z (.tup []) = H1 at e1 hr1 hg1 hR1 hx1 ⊢
    walk_at "el"
    obtain ⟨ty2, kt2⟩ := (Th.int (K := K) (H := H1) (i : Int)).kit
    have eI : isI (.int (i : Int)) = true := rfl
    walk_at "el"
    have h0 : atI (ixs (i :: t)) 0 = some (.int (i : Int)) := by
      show atI (ixs (i :: t)) ((0 : Nat) : Int) = _
      exact atI_nat rfl
    refine n_ixT (SqT.of hr1) h0 ?_
    walk_at "el"
    rw [eI]
    walk_at "el"
    refine n_ixT (SqT.of hr1) h0 ?_
    walk_at "el"
    rw [decide_eq_true (by have := hR.len; omega : (i : Int) < (gs.length : Int))]
    walk_at "el"
    refine n_ixT (SqT.of hr1) h0 ?_
    refine n_ixL (SqL.of hg1) (atI_nat hu) ?_
    walk_at "el"
    rw [xe]
    refine ⟨g, gs, G, e, e, .ref r, rfl, hR1.gaps (.inl hg1), .tup hr1, fun q xs hq hxs y hy => ?_, fun b hb => ?_⟩
    · cases hq
      rw [hr1] at hxs
      cases hxs
      obtain ⟨j, _, rfl⟩ := List.mem_map.mp hy
      exact .int _
    have bt : b = true := hb.mpr ⟨r, _, rfl, hr1, by rw [way_wk]; exact hw⟩
    subst bt
    walk_at "el"
    refine ⟨r, rfl, ⟨_, SqT.of hr1⟩, fun D0 hD0 => ?_⟩
    have e2 := nw_of hD0 (.lst [])
    have im := wk_mem _ _ _ hw
    refine lc_of (walk_tup (xs := ixs (i :: t))) (fun m H3 => Same H1 H3 ∧ H3 D0 = some (.lst ((((i :: t).take m).map (WM.gw G)).map V.int))) ⟨e2, upd_same⟩ (fun m H3 hm h => SqT.of (h.1 _ _ hr1)) ?_ ?_
    · rintro m y H3 H4 hm ⟨s3, hD3⟩ ⟨rfl, hy⟩
      rw [List.getElem?_map] at hy
      have hm2 : m < (i :: t).length := by rw [List.length_map] at hm; exact hm
      rw [List.getElem?_eq_getElem hm2] at hy
      cases hy
      have jl := im _ (List.getElem_mem hm2)
      obtain ⟨v, hv, hxv⟩ := (hR1.same s3).get (List.getElem?_eq_getElem jl)
      have hg3 := s3 _ _ hg1
      walk_at "el"
      refine ⟨rfl, ?_⟩
      walk_at "el"
      refine n_ixL (SqL.of hg3) (atI_nat hv) ?_
      walk_at "el"
      refine ⟨_, hD3, by rw [List.length_map, List.length_map, List.length_take]; exact Nat.lt_of_le_of_lt (m := 1000) (by omega) (by decide), s3.mu hD0, ?_⟩
      rw [upd_same, List.take_add_one, List.getElem?_eq_getElem hm2, List.map_append, List.map_append]
      show some (HO.lst (_ ++ [V.int G[(i :: t)[m]].2.2])) = some (HO.lst (_ ++ [V.int (WM.gw G (i :: t)[m])]))
      rw [WM.gw_at (List.getElem?_eq_getElem jl)]
    · rintro H3 ⟨s3, hD3⟩
      rw [List.length_map, List.take_length] at hD3
      walk_at "el"
      refine ⟨D0, _, rfl, SqL.of hD3, ?_⟩
      rw [← sm_sum]
      walk_at "el"
      rw [decide_eq_true hp]
      exact k _ (fun a o h => s3 _ _ (e1 _ _ h))
end
end EL

/- part K22B -/
namespace EL
open PySem PySem.Spec PyProof.Rows L2
open PySem.W (Frag)
local macro_rules | `(tactic| walk_at "el1") => `(tactic| with_reducible first
  | refine a_sasg ?_ | refine a_sdrop ?_ | refine a_saugS ?_ | refine a_spar ?_ | refine a_seq ?_ | refine a_asg ?_ | refine a_drop ?_ | refine a_ret ?_ | refine a_if ?_ | refine a_next ?_
  | refine a_op ?_ | refine a_cons ?_ | refine a_nil ?_ | refine a_cb ?_ | refine a_call ?_ | refine a_c ?_ | refine a_gn ?_ | refine a_nx ?_ | refine a_rt ?_ | refine a_un ?_
  | refine a_test ?_ | refine a_B ?_ | refine a_bl ?_ | refine a_and ?_ | refine a_or ?_ | refine a_not ?_ | refine a_andV ?_ | refine a_orV ?_ | refine a_notV ?_ | refine a_ifx ?_ | refine a_chain ?_
  | refine a_nT ?_ | refine a_nF ?_ | refine a_fld ?_ | refine a_getF ?_ | refine a_T ?_ | refine a_F ?_ | refine a_tup ?_ | refine a_lst ?_ | refine a_sub ?_ | refine a_augS ?_ | refine a_two ?_ | refine a_I0 ?_ | refine a_U ?_ | refine n_add ?_ | refine n_int ?_ | refine n_ib ?_ | refine a_ip ?_ | refine a_rng1 ?_ | refine a_rng2 ?_ | refine a_bm ?_ | refine a_abs ?_ | refine a_pairs ?_ | refine a_pairs0 ?_ | refine a_bk ?_ | refine a_prp ?_ | refine a_lc ?_ | refine a_yes ?_ | refine a_sl ?_ | refine a_nop ?_ | refine a_prt ?_ | refine a_ex1 ?_ | refine a_for ?_ | refine a_sfor ?_ | refine a_iE1 ?_ | refine a_iEs ?_ | refine a_iEz ?_ | refine a_iEnum ?_ | refine a_iTup ?_ | refine a_iList ?_ | refine a_gcons ?_ | refine a_gnil ?_ | refine a_revT ?_ | refine a_spar3 ?_ | refine a_par3 ?_ | refine a_three ?_)
local macro_rules | `(tactic| walk_at "el2") => `(tactic| first
  | (refine a_var (by rfl) ?_)
  | (refine n_ixL (SqL.of (by assumption)) (by rfl) ?_) | (refine n_ixT (SqT.of (by assumption)) (by rfl) ?_) | (refine n_eq (by rfl) ?_) | (refine n_ne (by rfl) ?_)
  | (refine n_isN ?_) | (refine n_notN ?_) | (refine n_isB ?_) | (refine n_notB ?_) | (refine n_isBI ?_) | (refine n_notBI ?_) | (refine n_len (.inl (SqL.of (by assumption))) ?_) | (refine n_len (.inr (SqT.of (by assumption))) ?_)
  | (refine a_getL (SqL.of (by assumption)) (by rfl) ?_)
  | (refine n_isInt (by assumption) ?_) | (refine n_isBool (by assumption) ?_) | (refine n_isStr (by assumption) ?_) | (refine n_isTup (by assumption) ?_) | (refine n_isLst (by assumption) ?_))
local macro_rules | `(tactic| walk_at "el") => `(tactic| repeat (first | walk_at "el1" | walk_at "el2"))

theorem a_callS {sp : Sp} {E : L2.St → XK} {t : TA} {σ : L2.St} {H : Hp} {Q : VK} (q : t σ H fun vs H1 => sp vs H1 Q (E σ)) : tCallS sp E t σ H Q := q
section
variable {P : Program} {w : World} {K : Frag} {mg : Str → Option Value} {base : Heap} {f : Addr} {fd : FuncData} {C C_NoFit C_CaseError : Addr}
theorem ok_refused (F : Fun K "_law_refused" "_law_refused" s_refused f fd) (T : Tb mg) (c_way : Cal P w K mg base (L2N.CX P w) 6 "way" ["book", "a", "b"] (spWayF K C C_NoFit)) (c_ring_right : CalH P w K mg base 2 "_law_ring_right" ["_law_gaps_here", "_law_thing"] (spRR K))
    (g_CaseError : mg "CaseError" = some (.ref C_CaseError)) (g_NoFit : mg "NoFit" = some (.ref C_NoFit)) (xm : PySem.W.exmOne K (.ref C_NoFit) (.ref C_CaseError) = some true) (xc : ExcC K C_NoFit) (xf : XfC K C_NoFit) (xn : PySem.W.findIn K (.ref C_NoFit) "reason" = some none) (xk : PySem.W.kitOne K (.ref C_NoFit) (.ref C_NoFit) = some true) :
    FnOk P w K mg base CX0 7 f fd ["_law_book", "_law_gaps_here", "_law_a", "_law_b"] (spRefused K C) := by
  refine F.ok sc_refused (fun vs H Q E h => ?_) (fun cdv A outer s H vs Q E hr h => ?_)
  · obtain ⟨_, _, _, _, _, _, _, rfl, _⟩ := h
    rfl
  · obtain ⟨B, D, g, gs, a, b, is, rfl, hB, hg, hR, gl, la, lb, hring, k⟩ := h
    refine ⟨_, (pss_cons (L2N.ps_try_as (i := 4) rfl rfl sc_refused.nd rfl rfl ⟨rfl, by decide, .inl g_CaseError⟩ takes0N (fun W pn xe tk _ => (pss_one (ps_expr (pe_calXN c_way (show Room 6 _ from hr.mono (by decide)) tk (pa_cons (pv 0) (pa_cons (pv 2) (pa_cons (pv 3) pa_nil)))))))
    (fun a oe cls d pn hz hf => (pss_cons (ps_if (PW.pt (pw_or (pt_not (pt_val (pe_callB (call_isX (L2N.Zn.zc hz) hf) rfl T.b.isinstance_ boot_isinstance (pa_cons (pv 4) (pa_cons (pe_glob (v := .ref C_NoFit) rfl g_NoFit rfl) pa_nil))))) (pw_or (pt_not (pt_val (pe_callB (show CallR _ (.builtin "isinstance") (rIsiU K) from u_isi) rfl T.b.isinstance_ boot_isinstance (pa_cons (pe_xfR (L2N.Zn.zc hz) hf (pv 4)) (pa_cons (pe_bltn (v := V.ty "tuple") rfl T.b.tuple_ (by decide +kernel) rfl) pa_nil))))) (pw_or1 (pt_cmpR (show OpR _ (compareOp .NotEq) (rNeU K) from (u_ne hr.units)) (pe_callB (show CallR _ (.builtin "len") (rLen K) from u_len) rfl T.b.len_ boot_len (pa_cons (pe_xfR (L2N.Zn.zc hz) hf (pv 4)) pa_nil)) pe_int (nomark _))))))
    (pss_one (ps_ret pe_bl))
    pss_nil)
  (pss_one (ps_ret (pe_and (pe_cmpR (show OpR _ (compareOp .Eq) (rEqU K) from (u_eq hr.units)) (pe_ix (show IxR _ (rIx K) from ix_seq) (pe_xfR (L2N.Zn.zc hz) hf (pv 4)) pe_int (fun _ _ => rfl)) pe_str (nomark _)) (pe_one (pe_calH c_ring_right (L2H.roomH_mark (show Room 2 _ from hr.mono (by decide)) _) (hotSuite hz hf) (pa_cons (pv 1) (pa_cons (pe_ix (show IxR _ (rIx K) from ix_seq) (pe_xfR (L2N.Zn.zc hz) hf (pv 4)) pe_int (fun _ _ => rfl)) pa_nil))))))))))
  (pss_one (ps_ret pe_bl))), ?_⟩
    walk_at "el"
    refine a_callS ?_
    walk_at "el"
    refine ⟨B, D, a, b, rfl, hB, la, lb, fun e => ?_, fun js e H1 q r d s1 hr1 hq1 hd => ?_⟩
    · rw [hring] at e
      cases e
    rw [hring] at e
    cases e
    have e2 := nw_of hd (.xd [("reason", .ref q)])
    have g2 := upd_at hd (.xd [("reason", .ref q)])
    have s2 : Same H _ := s1.trans e2
    have hr2 := e2 _ _ hr1
    have hq2 := e2 _ _ hq1
    generalize upd H1 d (.xd [("reason", .ref q)]) = H2 at e2 g2 s2 hr2 hq2 ⊢
    refine ⟨true, xm, fun _ a0 ha0 => ?_, fun z => nomatch z⟩
    have tq : isT H2 (.ref q) = true := by show obT (H2 q) = true; rw [hq2]; rfl
    obtain ⟨tyq, ktq⟩ := (Th.tup (K := K) hq2).kit
    obtain ⟨e0, en, hw, hs0, hl⟩ := ringN_some _ hring
    have is0 : ∀ (R : VK), R (.bl true) H2 → rIsX K a0 (.ref C_NoFit) (some d) [.ref a0, .ref C_NoFit] H2 R := fun R q => ⟨C_NoFit, .ref C_NoFit, .ref C_NoFit, true, d, _, rfl, rfl, xc, rfl, g2, fun u r => r, xk, q⟩
    walk_at "el"
    refine is0 _ ?_
    walk_at "el"
    refine ⟨rfl, C_NoFit, d, _, _, rfl, xf, xn, rfl, g2, rfl, ?_⟩
    walk_at "el"
    rw [tq]
    walk_at "el"
    refine ⟨rfl, C_NoFit, d, _, _, rfl, xf, xn, rfl, g2, rfl, ?_⟩
    walk_at "el"
    rw [show (decide (V.int (([V.str "gaps", V.ref r] : List V).length : Int) = V.int 2)) = true from rfl]
    walk_at "el"
    refine ⟨rfl, C_NoFit, d, _, _, rfl, xf, xn, rfl, g2, rfl, ?_⟩
    walk_at "el"
    walk_at "el"
    rw [decide_eq_true rfl]
    walk_at "el"
    refine ⟨rfl, C_NoFit, d, _, _, rfl, xf, xn, rfl, g2, rfl, ?_⟩
    walk_at "el"
    refine ⟨g, r, gs, D.G, is, _, rfl, s2 _ _ hg, hR.same s2, hr2, hw, hs0, ?_, gl, fun H3 s3 => ?_⟩
    · have := hB.e8
      omega
    walk_at "el"
    exact k _ (s2.trans s3)
end
end EL

/- part K22C -/
namespace EL
open PySem PySem.Spec PyProof.Rows L2
open PySem.W (Frag)
local macro_rules | `(tactic| walk_at "el1") => `(tactic| with_reducible first
  | refine a_sasg ?_ | refine a_sdrop ?_ | refine a_saugS ?_ | refine a_spar ?_ | refine a_seq ?_ | refine a_asg ?_ | refine a_drop ?_ | refine a_ret ?_ | refine a_if ?_ | refine a_next ?_
  | refine a_op ?_ | refine a_cons ?_ | refine a_nil ?_ | refine a_cb ?_ | refine a_call ?_ | refine a_c ?_ | refine a_gn ?_ | refine a_nx ?_ | refine a_rt ?_ | refine a_un ?_
  | refine a_test ?_ | refine a_B ?_ | refine a_bl ?_ | refine a_and ?_ | refine a_or ?_ | refine a_not ?_ | refine a_andV ?_ | refine a_orV ?_ | refine a_notV ?_ | refine a_ifx ?_ | refine a_chain ?_
  | refine a_nT ?_ | refine a_nF ?_ | refine a_fld ?_ | refine a_getF ?_ | refine a_T ?_ | refine a_F ?_ | refine a_tup ?_ | refine a_lst ?_ | refine a_sub ?_ | refine a_augS ?_ | refine a_two ?_ | refine a_I0 ?_ | refine a_U ?_ | refine n_add ?_ | refine n_int ?_ | refine n_ib ?_ | refine a_ip ?_ | refine a_rng1 ?_ | refine a_rng2 ?_ | refine a_bm ?_ | refine a_abs ?_ | refine a_pairs ?_ | refine a_pairs0 ?_ | refine a_bk ?_ | refine a_prp ?_ | refine a_lc ?_ | refine a_yes ?_ | refine a_sl ?_ | refine a_nop ?_ | refine a_prt ?_ | refine a_ex1 ?_ | refine a_for ?_ | refine a_sfor ?_ | refine a_iE1 ?_ | refine a_iEs ?_ | refine a_iEz ?_ | refine a_iEnum ?_ | refine a_iTup ?_ | refine a_iList ?_ | refine a_gcons ?_ | refine a_gnil ?_ | refine a_revT ?_ | refine a_spar3 ?_ | refine a_par3 ?_ | refine a_three ?_)
local macro_rules | `(tactic| walk_at "el2") => `(tactic| first
  | (refine a_var (by rfl) ?_)
  | (refine n_ixL (SqL.of (by assumption)) (by rfl) ?_) | (refine n_ixT (SqT.of (by assumption)) (by rfl) ?_) | (refine n_eq (by rfl) ?_) | (refine n_ne (by rfl) ?_)
  | (refine n_isN ?_) | (refine n_notN ?_) | (refine n_isB ?_) | (refine n_notB ?_) | (refine n_isBI ?_) | (refine n_notBI ?_) | (refine n_len (.inl (SqL.of (by assumption))) ?_) | (refine n_len (.inr (SqT.of (by assumption))) ?_)
  | (refine a_getL (SqL.of (by assumption)) (by rfl) ?_)
  | (refine n_isInt (by assumption) ?_) | (refine n_isBool (by assumption) ?_) | (refine n_isStr (by assumption) ?_) | (refine n_isTup (by assumption) ?_) | (refine n_isLst (by assumption) ?_))
local macro_rules | `(tactic| walk_at "el") => `(tactic| repeat (first | walk_at "el1" | walk_at "el2"))

theorem bagMu {H : Hp} {b c q : Addr} {o : HO} (h : Bag H b c) (nb : q ≠ b) (nc : q ≠ c) : Bag (upd H q o) b c := by
  obtain ⟨i, j, k, cs, h1, h2, h3, h4, h5, h6, h7, h8⟩ := h
  exact ⟨i, j, k, cs, by rw [upd_ne nb.symm]; exact h1, by rw [upd_ne nc.symm]; exact h2, h3, h4, h5, h6, h7, h8⟩
theorem bagNc {H : Hp} {b c q : Addr} (h : Bag H b c) (hq : H q = none) : q ≠ c := fun z => by
  obtain ⟨_, _, _, _, _, h2, _⟩ := h
  rw [z, h2] at hq
  cases hq
def rD (x : Int × Int × Int) : PyData := .tuple [.int x.1, .int x.2.1, .int x.2.2]
theorem rows_tl {α : Type} {enc : α → List V} {H : Hp} {v : V} {xs : List V} {y : α} {D : List α} (h : RowsAre enc H (v :: xs) (y :: D)) : RowsAre enc H xs D := ⟨by have := h.len; simpa using this, fun i w hw => h.at_ (i + 1) w hw⟩
theorem dp_rows3 {K : Frag} {H : Hp} : ∀ {xs : List V} {D : List (Int × Int × Int)}, RowsAre encT H xs D → DpAll K H xs (D.map rD)
  | [], [], _ => .nil
  | [], _ :: _, h => by have := h.len; simp at this
  | _ :: _, [], h => by have := h.len; simp at this
  | v :: xs, y :: D, h => by
    obtain ⟨q, x, rfl, hx, hq⟩ := h.at_ 0 v rfl
    cases hx
    exact .cons (.tup (SqT.of hq) (.cons (.int _) (.cons (.int _) (.cons (.int _) .nil)))) (dp_rows3 (rows_tl h))
theorem shp_rows3 (D : List (Int × Int × Int)) : SeqAt.shaped (.list (D.map rD)) = true := by
  have q : PyData.canLayAll0 (D.map rD) = true ∧ PyData.depthAll (D.map rD) ≤ 1 := by
    induction D with
    | nil => exact ⟨rfl, by decide⟩
    | cons x r ih =>
      refine ⟨?_, ?_⟩
      · show (true && PyData.canLayAll0 (r.map rD)) = true
        rw [ih.1]; rfl
      · show max (max 0 (max 0 (max 0 0)) + 1) (PyData.depthAll (r.map rD)) ≤ 1
        exact Nat.max_le.mpr ⟨by decide, ih.2⟩
  show (PyData.canLayAll0 (D.map rD) && decide (PyData.depthAll (D.map rD) + 1 ≤ 64)) = true
  rw [q.1, decide_eq_true (by omega)]; rfl
section
variable {P : Program} {w : World} {K : Frag} {mg : Str → Option Value} {base : Heap} {f : Addr} {fd : FuncData}
theorem ok_gaps (F : Fun K "_law_gaps" "_law_gaps" s_gaps f fd) (T : Tb mg) (c_take : Cal P w K mg base CX0 1 "_law_take" ["_law_bag_here", "_law_many"] spTake) (c_one : Cal P w K mg base CX0 2 "_law_one" ["_law_bag_here", "_law_menu"] (spOne K)) :
    FnOk P w K mg base CX0 3 f fd ["_law_bag_here", "_law_events", "_law_parts_here"] (spGapsL K) := by
  refine F.ok sc_gaps (fun vs H Q E h => ?_) (fun cdv A outer s H vs Q E hr h => ?_)
  · obtain ⟨_, _, _, _, _, _, _, rfl, _⟩ := h
    rfl
  · obtain ⟨b, c, p, l, xs, ev, wi, rfl, hb, np, nl, hp, hx, it, sm, lx, k⟩ := h
    refine ⟨_, (pss_cons (ps_set (i := 3) sc_gaps.nd rfl (Or.inl rfl) (pe_lst pa_nil))
  (pss_cons (ps_for PassesOwn.never rfl (u_iter (pe_ix ix_seq (pv 2) pe_int (fun _ _ => rfl))) (pg_tup rfl (pgs_cons (pg_name (i := 4) sc_gaps.nd rfl (Or.inl rfl)) (pgs_cons (pg_name (i := 5) sc_gaps.nd rfl (Or.inl rfl)) (pgs_cons (pg_name (i := 6) sc_gaps.nd rfl (Or.inl rfl)) pgs_nil))))
    (pss_one (ps_expr (pe_bm PySem.F.plainAttrs_list PySem.F.slot_list_append PySem.F.type_list_append mt_append (pv 3) (pa_cons (pe_tup (pa_cons (pv 4) (pa_cons (pv 5) (pa_cons (pe_cal c_one (hr.mono (by decide)) pass0 (pa_cons (pv 0) (pa_cons (pe_lst (pa_cons (pv 6) (pa_cons (pv 6) (pa_cons (pe_op op_sub (pv 6) pe_int) (pa_cons (pe_op u_mul (pv 6) pe_int) pa_nil))))) pa_nil))) pa_nil)))) pa_nil)))))
  (Evl.pss_cut (ps_if (PW.pt (pw_and (pt_cmpR (u_ne hr.units) (pv 3) (pe_lst pa_nil) (nomark _)) (pw_and1 (pt_cmpR (u_eq hr.units) (pe_cal c_take (hr.mono (by decide)) pass0 (pa_cons (pv 0) (pa_cons pe_int pa_nil))) pe_int (nomark _)))))
    (pss_cons (ps_asg (pe_cal c_one (hr.mono (by decide)) pass0 (pa_cons (pv 0) (pa_cons (pv 3) pa_nil))) (pg_tup rfl (pgs_cons (pg_name (i := 4) sc_gaps.nd rfl (Or.inl rfl)) (pgs_cons (pg_name (i := 5) sc_gaps.nd rfl (Or.inl rfl)) (pgs_cons (pg_name (i := 6) sc_gaps.nd rfl (Or.inl rfl)) pgs_nil)))))
  (pss_one (ps_expr (pe_bm PySem.F.plainAttrs_list PySem.F.slot_list_append PySem.F.type_list_append mt_append (pv 3) (pa_cons (pe_tup (pa_cons (pv 5) (pa_cons (pv 4) (pa_cons (pe_op op_sub pe_int (pv 6)) pa_nil)))) pa_nil)))))
    pss_nil)
  (pss_one (ps_ret (pv 3)))))), ?_⟩
    walk_at "el"
    refine ⟨by show 0 ≤ sizeLine; decide, fun r hr0 => ?_⟩
    have e1 := nw_of hr0 (.lst [])
    have g1 := upd_at hr0 (.lst [])
    have nr := hb.ne hr0
    have nrc := bagNc hb hr0
    have hb1 := hb.same e1
    generalize upd H r (.lst []) = H1 at e1 g1 hb1 ⊢
    walk_at "el"
    refine a_iSeq (.inl ?_)
    walk_at "el"
    refine n_ixL (SqL.of (e1 _ _ hp)) rfl ?_
    refine ⟨l .gap, rfl, ⟨_, SqL.of (e1 _ _ hx)⟩, ?_⟩
    have nlr : l .gap ≠ r := fun z => by rw [← z, hx] at hr0; cases hr0
    refine lp_it (walk_list (xs := xs)) (fun i σ H3 => Bag H3 b c ∧ Kp b H H3 ∧ (∃ ys, H3 r = some (.lst ys) ∧ ys.length = i ∧ ∀ x ∈ ys, ItemOk .gap H3 x ev wi) ∧ ∃ v4 v5 v6, σ = [some (.ref b), some (.int ev), some (.ref p), some (.ref r), v4, v5, v6]) ⟨hb1, same_kp e1, ⟨[], g1, rfl, all_nil⟩, _, _, _, rfl⟩ (fun i σ H3 hi h => SqL.of (h.2.1 _ _ nl hx)) ?_ ?_
    · rintro i x σ Ha H3 hi ⟨hb3, k3, ⟨ys, g3, ly, ity⟩, v4, v5, v6, rfl⟩ ⟨rfl, hxi⟩
      have mem := List.mem_of_getElem? hxi
      obtain ⟨q, a, e, n, rfl, hq, a0, a1, ee0, ee1, ne⟩ := item_gap_inv (it x mem)
      obtain ⟨n0, n4⟩ := sm _ mem q _ _ n rfl hq
      have hq3 := k3 _ _ (hb.neT hq) hq
      refine a_gtup (SqT.of hq3) rfl ?_
      walk_at "el"
      refine ⟨.inl ⟨rfl, _, SqL.of g3⟩, ?_⟩
      walk_at "el"
      refine n_mul (.inl ⟨by omega, by omega⟩) ?_
      walk_at "el"
      refine ⟨by show 4 ≤ sizeLine; decide, fun m hm => ?_⟩
      have e4 := nw_of hm (.lst [.int n, .int n, .int (n - 3), .int (n * 250000000000000)])
      have g4 := upd_at hm (.lst [.int n, .int n, .int (n - 3), .int (n * 250000000000000)])
      have nm := hb3.ne hm
      have hb4 := hb3.same e4
      generalize upd H3 m (.lst [.int n, .int n, .int (n - 3), .int (n * 250000000000000)]) = H4 at e4 g4 hb4 ⊢
      walk_at "el"
      refine ⟨b, c, m, _, rfl, hb4, nm, .inl g4, by show 0 < 4; decide, by show 4 ≤ 1000000000; decide, fun z H5 hz hb5 k5 => ?_⟩
      obtain ⟨z, rfl, z0, z1⟩ : ∃ y : Int, z = .int y ∧ -1000000000000000 ≤ y ∧ y ≤ 1000000000000000 := by
        revert z
        exact all_cons ⟨_, rfl, by omega, by omega⟩ (all_cons ⟨_, rfl, by omega, by omega⟩ (all_cons ⟨_, rfl, by omega, by omega⟩ (all_cons ⟨_, rfl, by omega, by omega⟩ all_nil)))
      walk_at "el"
      refine ⟨by show 3 ≤ sizeLine; decide, fun t ht => ?_⟩
      have e6 := nw_of ht (.tup [.int a, .int e, .int z])
      have g6 := upd_at ht (.tup [.int a, .int e, .int z])
      have hb6 := hb5.same e6
      have g3' := e6 _ _ (k5 _ _ nr (e4 _ _ g3))
      have k36 : Kp b H3 _ := (Kp.into k5 e4).trans (same_kp e6)
      generalize upd H5 t (.tup [.int a, .int e, .int z]) = H6 at e6 g6 hb6 g3' k36 ⊢
      walk_at "el"
      refine ⟨r, _, _, rfl, rfl, g3', by rw [ly]; exact Nat.lt_of_lt_of_le (m := 24) (by omega) (by decide), ?_⟩
      walk_at "el"
      refine ⟨bagMu hb6 nr nrc, (k3.trans k36).mut hr0, ⟨ys ++ [.ref t], upd_same, by rw [List.length_append, ly]; rfl, all_app (fun x hx => ((ity x hx).kp hb3 k36).lst g3') (all_cons ((item_gap g6 a0 a1 ee0 ee1 ne z0 z1).lst g3') all_nil)⟩, _, _, _, rfl⟩
    · rintro σ H3 ⟨hb3, k3, ⟨ys, g3, ly, ity⟩, v4, v5, v6, rfl⟩
      have R3 : ∃ G : List (Int × Int × Int), RowsAre encT H3 ys G ∧ ∀ y ∈ G, NumOk y.2.2 := rows_of ys fun x hx => by
        obtain ⟨q, y, h1, h2, _, _, h5⟩ := item_gap_inv2 (ity x hx)
        exact ⟨q, y, h1, h2, h5⟩
      obtain ⟨G, RG, _⟩ := R3
      walk_at "el"
      refine a_cut (fun σ' H' => (∃ v4 v5 v6, σ' = [some (.ref b), some (.int ev), some (.ref p), some (.ref r), v4, v5, v6]) ∧ Bag H' b c ∧ Kp b H H' ∧ ∃ ys, H' r = some (.lst ys) ∧ (∀ x ∈ ys, ItemOk .gap H' x ev wi) ∧ ys.length ≤ 24) ?_ ?_
      · walk_at "el"
        refine ⟨by show 0 ≤ sizeLine; decide, fun z hz => ?_⟩
        have e4 := nw_of hz (.lst [])
        refine n_neD (.lst (SqL.of (e4 _ _ g3)) (dp_sameAll e4 _ _ (dp_rows3 RG))) (.lst (SqL.of upd_same) .nil) (shp_rows3 G) rfl ?_
        rw [eqv_nil]
        have hb4 := hb3.same e4
        have k4 := k3.trans (same_kp e4)
        have g4 := e4 _ _ g3
        have it4 : ∀ x ∈ ys, ItemOk .gap _ x ev wi := fun x hx => (ity x hx).same e4
        generalize upd H3 z (.lst []) = H4 at hb4 k4 g4 it4 ⊢
        walk_at "el"
        refine ite2 (fun g => ?_) (fun g => ?_)
        · have y0 : 0 < ys.length := by
            cases ys with
            | nil =>
              have : G = [] := List.length_eq_zero_iff.mp RG.len.symm
              subst this
              exact absurd g (by simp)
            | cons _ _ => exact Nat.succ_pos _
          walk_at "el"
          refine ⟨b, c, 2, rfl, hb4, by decide, by decide, fun d H5 d0 d1 hb5 k5 => ?_⟩
          have g5 := k5 _ _ nr g4
          have it5 : ∀ x ∈ ys, ItemOk .gap _ x ev wi := fun x hx => (it4 x hx).kp hb4 k5
          have k05 := k4.trans k5
          walk_at "el"
          refine ite2 (fun g' => ?_) (fun g' => ?_)
          · walk_at "el"
            refine ⟨b, c, r, ys, rfl, hb5, nr, .inl g5, y0, by omega, fun x H6 hx hb6 k6 => ?_⟩
            have g6 := k6 _ _ nr g5
            have it6 : ∀ x ∈ ys, ItemOk .gap _ x ev wi := fun x hx => (it5 x hx).kp hb5 k6
            obtain ⟨q, ⟨a, e, n⟩, rfl, hq, ⟨a0, a1⟩, ⟨ee0, ee1⟩, n0, n1⟩ := item_gap_inv2 (it6 x hx)
            obtain ⟨q', a', e', n', eq', hq', _, _, _, _, ne⟩ := item_gap_inv (it6 _ hx)
            cases eq'
            have hq2 : H6 q = some (.tup [.int a, .int e, .int n]) := hq
            rw [hq2] at hq'
            cases hq'
            refine a_gtup (SqT.of hq2) rfl ?_
            walk_at "el"
            refine ⟨.inl ⟨rfl, _, SqL.of g6⟩, ?_⟩
            walk_at "el"
            refine ⟨by show 3 ≤ sizeLine; decide, fun t ht => ?_⟩
            have e7 := nw_of ht (.tup [.int e, .int a, .int (0 - n)])
            have g7 := upd_at ht (.tup [.int e, .int a, .int (0 - n)])
            have hb7 := hb6.same e7
            have g6' := e7 _ _ g6
            have it7 : ∀ x ∈ ys, ItemOk .gap _ x ev wi := fun x hx => (it6 x hx).same e7
            have k07 := (k05.trans k6).trans (same_kp e7)
            generalize upd H6 t (.tup [.int e, .int a, .int (0 - n)]) = H7 at g7 hb7 g6' it7 k07 ⊢
            walk_at "el"
            refine ⟨r, _, _, rfl, rfl, g6', Nat.lt_of_le_of_lt (m := 23) (by omega) (by decide), ?_⟩
            walk_at "el"
            have n0' : -1000000000000000 ≤ n := n0
            have n1' : n ≤ 1000000000000000 := n1
            exact ⟨⟨_, _, _, rfl⟩, bagMu hb7 nr nrc, k07.mut hr0, ys ++ [.ref t], upd_same, all_app (fun x hx => (it7 x hx).lst g6') (all_cons ((item_gap g7 ee0 ee1 a0 a1 (Ne.symm ne) (by omega) (by omega)).lst g6') all_nil), by rw [List.length_append]; show ys.length + 1 ≤ 24; omega⟩
          · walk_at "el"
            exact ⟨⟨_, _, _, rfl⟩, hb5, k05, ys, g5, it5, by omega⟩
        · walk_at "el"
          exact ⟨⟨_, _, _, rfl⟩, hb4, k4, ys, g4, it4, by omega⟩
      · rintro σ' H' ⟨⟨v4, v5, v6, rfl⟩, hb', k', ys', g', it', l'⟩
        walk_at "el"
        exact k _ r ys' hb' k' hr0 g' it' l'
end
end EL

/- part K22L -/
namespace EL
open PySem PySem.Spec PyProof.Rows L2
open PySem.W (Frag)
abbrev s_law : Stmt := top 49
abbrev N_law : List Str := ["_law_script", "_law_bag_here", "_law_trip", "_law_events", "_law_gaps_here", "_law_book", "_law_best", "_law_first", "_law_again", "_law_told", "_law_a", "_law_b", "_law_due", "_law_index"]
theorem sc_law : FnScope N_law ["_law_script"] (defScope s_law) := ⟨rfl, rfl, rfl, by decide +kernel, rfl, by decide +kernel, by decide +kernel⟩
local macro_rules | `(tactic| walk_at "el1") => `(tactic| with_reducible first
  | refine a_sasg ?_ | refine a_sdrop ?_ | refine a_saugS ?_ | refine a_spar ?_ | refine a_seq ?_ | refine a_asg ?_ | refine a_drop ?_ | refine a_ret ?_ | refine a_if ?_ | refine a_next ?_
  | refine a_op ?_ | refine a_cons ?_ | refine a_nil ?_ | refine a_cb ?_ | refine a_call ?_ | refine a_c ?_ | refine a_gn ?_ | refine a_nx ?_ | refine a_rt ?_ | refine a_un ?_
  | refine a_test ?_ | refine a_B ?_ | refine a_bl ?_ | refine a_and ?_ | refine a_or ?_ | refine a_not ?_ | refine a_andV ?_ | refine a_orV ?_ | refine a_notV ?_ | refine a_ifx ?_ | refine a_chain ?_
  | refine a_nT ?_ | refine a_nF ?_ | refine a_fld ?_ | refine a_getF ?_ | refine a_T ?_ | refine a_F ?_ | refine a_tup ?_ | refine a_lst ?_ | refine a_sub ?_ | refine a_augS ?_ | refine a_two ?_ | refine a_I0 ?_ | refine a_U ?_ | refine n_add ?_ | refine n_int ?_ | refine n_ib ?_ | refine a_ip ?_ | refine a_rng1 ?_ | refine a_rng2 ?_ | refine a_bm ?_ | refine a_abs ?_ | refine a_pairs ?_ | refine a_pairs0 ?_ | refine a_bk ?_ | refine a_prp ?_ | refine a_lc ?_ | refine a_yes ?_ | refine a_sl ?_ | refine a_nop ?_ | refine a_prt ?_ | refine a_ex1 ?_ | refine a_for ?_ | refine a_sfor ?_ | refine a_iE1 ?_ | refine a_iEs ?_ | refine a_iEz ?_ | refine a_iEnum ?_ | refine a_iTup ?_ | refine a_iList ?_ | refine a_gcons ?_ | refine a_gnil ?_ | refine a_revT ?_ | refine a_spar3 ?_ | refine a_par3 ?_ | refine a_three ?_)
local macro_rules | `(tactic| walk_at "el2") => `(tactic| first
  | (refine a_var (by rfl) ?_)
  | (refine n_ixL (SqL.of (by assumption)) (by rfl) ?_) | (refine n_ixT (SqT.of (by assumption)) (by rfl) ?_) | (refine n_eq (by rfl) ?_) | (refine n_ne (by rfl) ?_)
  | (refine n_isN ?_) | (refine n_notN ?_) | (refine n_isB ?_) | (refine n_notB ?_) | (refine n_isBI ?_) | (refine n_notBI ?_) | (refine n_len (.inl (SqL.of (by assumption))) ?_) | (refine n_len (.inr (SqT.of (by assumption))) ?_)
  | (refine a_getL (SqL.of (by assumption)) (by rfl) ?_)
  | (refine n_isInt (by assumption) ?_) | (refine n_isBool (by assumption) ?_) | (refine n_isStr (by assumption) ?_) | (refine n_isTup (by assumption) ?_) | (refine n_isLst (by assumption) ?_))
local macro_rules | `(tactic| walk_at "el") => `(tactic| repeat (first | walk_at "el1" | walk_at "el2"))

theorem kit_self {K : Frag} (t : Value) (h : (t == t) = true := by simp) : PySem.W.kitOne K t t = some true := by unfold PySem.W.kitOne; rw [if_pos h]
theorem exm_of {K : Frag} {N E : Addr} (he : PySem.W.subIn K (.ref E) (.type "BaseException") = some true) (hc : PySem.W.isClsIn K E = true) (ht : PySem.W.typeIn K (.ref E) = some (.type "type")) (hs : PySem.W.subIn K (.ref N) (.ref E) = some true) : PySem.W.exmOne K (.ref N) (.ref E) = some true := by
  have c1 : (PySem.W.clsIn K E).isSome = true := hc
  unfold PySem.W.exmOne
  rw [he, if_pos (by simp)]
  show (if ((PySem.W.clsIn K E).isSome && PySem.W.typeIn K (.ref E) == some (.type "type")) = true then PySem.W.subIn K (.ref N) (.ref E) else none) = _
  rw [c1, ht, if_pos (by simp)]
  exact hs
theorem passLN {X : Cx} : Passes (L2N.CX X.prog X.w) X E0 := fun _ _ _ _ _ _ _ h => by
  obtain ⟨_, _, _, _, _, _, _, _, _, _, _, _, z⟩ := h
  exact z.elim
theorem gap_wi {H : Hp} {x : V} {ev wi wi' : Int} (h : ItemOk .gap H x ev wi) : ItemOk .gap H x ev wi' := by
  obtain ⟨q, ⟨a, e, n⟩, rfl, hq, ⟨a0, a1⟩, ⟨e0, e1⟩, n0, n1⟩ := item_gap_inv2 h
  obtain ⟨q', a', e', n', eq', hq', _, _, _, _, ne⟩ := item_gap_inv h
  cases eq'
  have hq2 : H q = some (.tup [.int a, .int e, .int n]) := hq
  rw [hq2] at hq'
  cases hq'
  exact item_gap hq2 a0 a1 e0 e1 ne n0 n1
/-- what a law's sums are -/
def SumsV (H : Hp) (v : V) (G : List (Int × Int × Int)) (n : Nat) : Prop := (WM.Pos G ∧ v = .non) ∨ (¬ WM.Pos G ∧ ∃ p rw, v = .ref p ∧ MatAt H p rw (n + 1) (WM.finM G n))
theorem SumsV.same {H H' : Hp} {v : V} {G : List (Int × Int × Int)} {n : Nat} (h : SumsV H v G n) (s : Same H H') : SumsV H' v G n := h.elim .inl fun ⟨a, p, rw, e, m⟩ => .inr ⟨a, p, rw, e, m.same s⟩
theorem RingIs.same {H H' : Hp} {v : V} {o : Option (List Nat)} (h : RingIs H v o) (s : Same H H') : RingIs H' v o := h.tups (tups_same s)
theorem n_sums {K : Frag} {n : Nat} {e : Addr} {gs : List V} {G : List (Int × Int × Int)} {H : Hp} {Q : VK} {E : XK} (h1 : H e = some (.lst gs)) (h2 : RowsAre encT H gs G) (h3 : WM.InG G n) (h4 : n ≤ 1000) (q : ∀ v H', Same H H' → SumsV H' v G n → Q v H') :
    spSums K [.int (n : Int), .ref e] H Q E := ⟨n, e, gs, G, rfl, h1, h2, h3, h4, fun H' s p => q _ _ s (.inl ⟨p, rfl⟩), fun H' p rw s _ _ np m => q _ _ s (.inr ⟨np, p, rw, rfl, m⟩)⟩
/-! ### what is shown -/
def wD (is : List Nat) : PyData := .tuple ((jxs is).map PyData.int)
theorem tk_way {H : Hp} {q : Addr} {is : List Nat} (h : H q = some (.tup (ixs is))) : Tk H (.ref q) (wD is) := .tup (by rw [ixs_eq] at h; exact h) (tk_ints _)
theorem sz_way {is : List Nat} (hl : is.length ≤ 1000) (hi : ∀ i ∈ is, i ≤ 1000) : Sz 1000 1 (wD is) := by
  have q := sz_tup (n := 0) (k := 0) (ds := (jxs is).map PyData.int) fun d hd => by
    obtain ⟨j, hj, rfl⟩ := List.mem_map.mp hd
    obtain ⟨i, hi', rfl⟩ := List.mem_map.mp hj
    exact sz_int (Nat.lt_of_le_of_lt (m := 1000) (by have := hi i hi'; omega) (by decide +kernel))
  refine ⟨q.good, Nat.le_trans q.bulk ?_, q.depth, q.nod⟩
  rw [List.length_map, List.length_map]
  omega
def ringD : Option (List Nat) → PyData
  | none => .none
  | some is => wD is
theorem n_showR {v : V} {o : Option (List Nat)} {H : Hp} {Q : VK} (h : RingIs H v o) (f : ∀ is, o = some is → is.length ≤ 1000 ∧ ∀ i ∈ is, i ≤ 1000) (q : Q (.str (ringD o).shown) H) : rShowT [v] H Q := by
  rcases h with ⟨rfl, rfl⟩ | ⟨is, r, rfl, rfl, hr⟩
  · exact ⟨_, _, rfl, .non, sz_non.fine (by decide) (by decide), q⟩
  · obtain ⟨a, b⟩ := f is rfl
    exact ⟨_, _, rfl, tk_way hr, (sz_way a b).fine (by decide) (by decide), q⟩
def cellD : Option (Int × List Nat) → PyData
  | none => .none
  | some y => .tuple [.int y.1, wD y.2]
theorem n_showC {v : V} {o : Option (Int × List Nat)} {H : Hp} {Q : VK} (h : CellIs H v o) (f : ∀ y, o = some y → y.1.natAbs < 10 ^ 40 ∧ y.2.length ≤ 1000 ∧ ∀ i ∈ y.2, i ≤ 1000) (q : Q (.str (cellD o).shown) H) : rShowT [v] H Q := by
  rcases h with ⟨rfl, rfl⟩ | ⟨y, q1, r, rfl, rfl, hq, hr⟩
  · exact ⟨_, _, rfl, .non, sz_non.fine (by decide) (by decide), q⟩
  · obtain ⟨a, b, c⟩ := f y rfl
    have w := sz_way b c
    have z := sz_tup (n := 1000) (k := 1) (ds := [.int y.1, wD y.2]) (all_cons ⟨(sz_int a).good, Nat.le_trans (sz_int a).bulk (by decide), Nat.le_trans (sz_int a).depth (by decide), (sz_int a).nod⟩ (all_cons w all_nil))
    exact ⟨_, _, rfl, .tup hq (.cons (.int _) (.cons (tk_way hr) .nil)), z.fine (by show 2 * 1001 ≤ 300000; decide) (by decide), q⟩
theorem n_showI {i : Int} {H : Hp} {Q : VK} (h : i.natAbs < 10 ^ 40) (q : Q (.str (PyData.int i).shown) H) : rShowT [.int i] H Q := ⟨_, _, rfl, .int _, (sz_int h).fine (by decide) (by decide), q⟩
/-! ### how great sums are -/
theorem gw_le {G : List (Int × Int × Int)} {B : Int} (hB : 0 ≤ B) (h : ∀ x ∈ G, -B ≤ x.2.2 ∧ x.2.2 ≤ B) (i : Nat) : -B ≤ WM.gw G i ∧ WM.gw G i ≤ B := by
  unfold WM.gw
  cases e : G[i]? with
  | none => exact ⟨by show -B ≤ 0; omega, by show (0 : Int) ≤ B; omega⟩
  | some x => exact h x (List.mem_of_getElem? e)
theorem sm_le {G : List (Int × Int × Int)} {B : Int} (hB : 0 ≤ B) (h : ∀ x ∈ G, -B ≤ x.2.2 ∧ x.2.2 ≤ B) : ∀ (is : List Nat), -(B * (is.length : Int)) ≤ WM.sm G is ∧ WM.sm G is ≤ B * (is.length : Int)
  | [] => ⟨by show -(B * 0) ≤ (0 : Int); omega, by show (0 : Int) ≤ B * 0; omega⟩
  | i :: r => by
    obtain ⟨a, b⟩ := sm_le hB h r
    obtain ⟨c, d⟩ := gw_le hB h i
    have e : WM.sm G (i :: r) = WM.gw G i + WM.sm G r := rfl
    have l : (((i :: r).length : Nat) : Int) = (r.length : Int) + 1 := by simp
    rw [e, l, Int.mul_add, Int.mul_one]
    exact ⟨by omega, by omega⟩
section
variable {P : Program} {w : World} {K : Frag} {mg : Str → Option Value} {base : Heap} {f : Addr} {fd : FuncData} {C CN : Addr} {Dk : BookD}
theorem ok_law (F : Fun K "law" "law" s_law f fd) (T : Tb mg) (c_bag : Cal P w K mg base CX0 1 "_law_bag" ["_law_script"] (spBag K)) (c_take : Cal P w K mg base CX0 1 "_law_take" ["_law_bag_here", "_law_many"] spTake) (c_one : Cal P w K mg base CX0 2 "_law_one" ["_law_bag_here", "_law_menu"] (spOne K))
    (c_parts : Cal P w K mg base CX0 3 "_law_parts" ["_law_bag_here", "_law_events", "_law_witnesses", "_law_most"] spParts) (c_gaps : Cal P w K mg base CX0 3 "_law_gaps" ["_law_bag_here", "_law_events", "_law_parts_here"] (spGapsL K)) (c_sums : Cal P w K mg base CX0 1 "_law_sums" ["_law_events", "_law_edges"] (spSums K))
    (c_ring : Cal P w K mg base CX0 5 "ring" ["book"] (spRing K C)) (c_way : Cal P w K mg base (L2N.CX P w) 6 "way" ["book", "a", "b"] (spWayF K C CN)) (c_ring_right : Cal P w K mg base CX0 2 "_law_ring_right" ["_law_gaps_here", "_law_thing"] (spRR K))
    (c_refused : Cal P w K mg base CX0 7 "_law_refused" ["_law_book", "_law_gaps_here", "_law_a", "_law_b"] (spRefused K C)) (c_l_is_way : Cal P w K mg base CX0 1 "_law_is_way" ["_law_gaps_here", "_law_a", "_law_b", "_law_thing"] (spWayL K)) (c_Book : BookG P w K mg base C Dk) :
    FnG P w K mg base CX0 10 f fd ["_law_script"] (spLaw K) := by
  refine fnG_of F sc_law (fun vs H Q E h => ?_) (fun cdv A outer s H vs Q E hr hq h => ?_)
  · obtain ⟨_, _, rfl, _⟩ := h
    rfl
  · obtain ⟨a, ns, rfl, ha, k⟩ := h
    refine ⟨_, PSs.nox (pss_cons (ps_set (i := 1) sc_law.nd rfl (Or.inl rfl) (pe_cal c_bag (hr.mono (by decide)) pass0 (pa_cons (pv 0) pa_nil)))
  (pss_cons (ps_for PassesOwn.never rfl (pi_range1 rfl T.b.range_ (pa_cons pe_int pa_nil)) (pg_name (i := 2) sc_law.nd rfl (Or.inl rfl))
    (pss_cons (ps_set (i := 3) sc_law.nd rfl (Or.inl rfl) (pe_cal c_take (hr.mono (by decide)) pass0 (pa_cons (pv 1) (pa_cons pe_int pa_nil))))
  (pss_cons (ps_set (i := 4) sc_law.nd rfl (Or.inr rfl) (pe_cal c_gaps (hr.mono (by decide)) pass0 (pa_cons (pv 1) (pa_cons (pv 3) (pa_cons (pe_cal c_parts (hr.mono (by decide)) pass0 (pa_cons (pv 1) (pa_cons (pv 3) (pa_cons pe_int (pa_cons (pe_cal c_one (hr.mono (by decide)) pass0 (pa_cons (pv 1) (pa_cons (pe_lst (pa_cons pe_int (pa_cons pe_int (pa_cons pe_int pa_nil)))) pa_nil))) pa_nil))))) pa_nil)))))
  (pss_cons (ps_par (i := 5) (j := 6) rfl sc_law.nd rfl rfl (by decide) rfl rfl (pa_cons (pe_bk4 c_Book (hr.mono (by decide)) rfl (pa_cons (pv 3) (pa_cons pe_int (pa_cons (pe_lst pa_nil) (pa_cons (pv 4) pa_nil))))) (pa_cons (pe_cal c_sums (hr.mono (by decide)) pass0 (pa_cons (pv 3) (pa_cons (pv 4) pa_nil))) pa_nil)) (by with_unfolding_all rfl))
  (pss_cons (ps_set (i := 7) sc_law.nd rfl (Or.inl rfl) (pe_callB (show CallR _ (.builtin "repr") rShowT from u_showT hq hr.units) rfl T.b.repr_ (by decide +kernel) (pa_cons (pe_cal c_ring (hr.mono (by decide)) pass0 (pa_cons (pv 5) pa_nil)) pa_nil)))
  (pss_cons (ps_for PassesOwn.never rfl (pi_range1 rfl T.b.range_ (pa_cons pe_int pa_nil)) (pg_name (i := 8) sc_law.nd rfl (Or.inl rfl))
    (pss_cons (ps_set (i := 9) sc_law.nd rfl (Or.inl rfl) (pe_cal c_ring (hr.mono (by decide)) pass0 (pa_cons (pv 5) pa_nil)))
  (pss_cons (ps_if (pt_cmpR (u_ne hr.units) (pe_callB (show CallR _ (.builtin "repr") rShowT from u_showT hq hr.units) rfl T.b.repr_ (by decide +kernel) (pa_cons (pv 9) pa_nil)) (pv 7) (nomark _))
    (pss_one (ps_ret pe_bl))
    pss_nil)
  (pss_cons (ps_if (pt_cmpR (u_ne hr.units) (pe_cmpR u_is (pv 9) pe_non (nomark _)) (pe_cmpR u_isnot (pv 6) pe_non (nomark _)) (nomark _))
    (pss_one (ps_ret pe_bl))
    pss_nil)
  (pss_one (ps_if (PW.pt (pw_and (pt_cmpR u_isnot (pv 9) pe_non (nomark _)) (pw_and1 (pt_not (pt_val (pe_cal c_ring_right (hr.mono (by decide)) pass0 (pa_cons (pv 4) (pa_cons (pv 9) pa_nil))))))))
    (pss_one (ps_ret pe_bl))
    pss_nil))))))
  (pss_one (ps_for PassesOwn.never rfl (pi_range1 rfl T.b.range_ (pa_cons (pv 3) pa_nil)) (pg_name (i := 10) sc_law.nd rfl (Or.inl rfl))
    (pss_one (ps_for PassesOwn.never rfl (pi_range1 rfl T.b.range_ (pa_cons (pv 3) pa_nil)) (pg_name (i := 11) sc_law.nd rfl (Or.inl rfl))
    (pss_one (ps_if (pt_cmpR u_is (pv 6) pe_non (nomark _))
    (pss_one (ps_if (pt_not (pt_val (pe_cal c_refused (hr.mono (by decide)) pass0 (pa_cons (pv 5) (pa_cons (pv 4) (pa_cons (pv 10) (pa_cons (pv 11) pa_nil)))))))
    (pss_one (ps_ret pe_bl))
    pss_nil))
    (pss_cons (ps_par (i := 9) (j := 12) rfl sc_law.nd rfl rfl (by decide) rfl rfl (pa_cons (pe_cal c_way (hr.mono (by decide)) passLN (pa_cons (pv 5) (pa_cons (pv 10) (pa_cons (pv 11) pa_nil)))) (pa_cons (pe_ix ix_seq (pe_ix ix_seq (pv 6) (pv 10) (fun _ _ => rfl)) (pv 11) (fun _ _ => rfl)) pa_nil)) (by with_unfolding_all rfl))
  (pss_cons (ps_if (PW.pt (pw_and (pt_cmpR (u_eq hr.units) (pv 10) pe_int (nomark _)) (pw_and1 (pt_cmpR (u_ne hr.units) (pe_callB (show CallR _ (.builtin "repr") rShowT from u_showT hq hr.units) rfl T.b.repr_ (by decide +kernel) (pa_cons (pe_cal c_way (hr.mono (by decide)) passLN (pa_cons (pv 5) (pa_cons (pv 10) (pa_cons (pv 11) pa_nil)))) pa_nil)) (pe_callB (show CallR _ (.builtin "repr") rShowT from u_showT hq hr.units) rfl T.b.repr_ (by decide +kernel) (pa_cons (pv 9) pa_nil)) (nomark _)))))
    (pss_one (ps_ret pe_bl))
    pss_nil)
  (pss_cons (ps_if (pt_cmpR (u_ne hr.units) (pe_cmpR u_is (pv 9) pe_non (nomark _)) (pe_cmpR u_is (pv 12) pe_non (nomark _)) (nomark _))
    (pss_one (ps_ret pe_bl))
    pss_nil)
  (pss_one (ps_if (pt_cmpR u_isnot (pv 9) pe_non (nomark _))
    (pss_cons (ps_if (PW.pt (pw_or (pt_not (pt_val (pe_callB u_isi rfl T.b.isinstance_ boot_isinstance (pa_cons (pv 9) (pa_cons (pe_bltn (v := V.ty "tuple") rfl T.b.tuple_ (by decide +kernel) rfl) pa_nil))))) (pw_or1 (pt_cmpR (u_ne hr.units) (pe_callB u_len rfl T.b.len_ boot_len (pa_cons (pv 9) pa_nil)) pe_int (nomark _)))))
    (pss_one (ps_ret pe_bl))
    pss_nil)
  (pss_cons (ps_if (pt_cmpR (u_ne hr.units) (pe_callB (show CallR _ (.builtin "repr") rShowT from u_showT hq hr.units) rfl T.b.repr_ (by decide +kernel) (pa_cons (pe_ix ix_seq (pv 9) pe_int (fun _ _ => rfl)) pa_nil)) (pe_callB (show CallR _ (.builtin "repr") rShowT from u_showT hq hr.units) rfl T.b.repr_ (by decide +kernel) (pa_cons (pv 12) pa_nil)) (nomark _))
    (pss_one (ps_ret pe_bl))
    pss_nil)
  (pss_cons (ps_if (pt_not (pt_val (pe_cal c_l_is_way (hr.mono (by decide)) pass0 (pa_cons (pv 4) (pa_cons (pv 10) (pa_cons (pv 11) (pa_cons (pe_ix ix_seq (pv 9) pe_int (fun _ _ => rfl)) pa_nil)))))))
    (pss_one (ps_ret pe_bl))
    pss_nil)
  (pss_one (ps_if (pt_cmpR (u_ne hr.units) (pe_callB (cr_sum rfl) rfl T.b.sum_ (by decide +kernel) (pa_cons (pe_lc (own := [("_law_index", 13)]) rfl sc_law.nd (u_iter (pe_ix ix_seq (pv 9) pe_int (fun _ _ => rfl))) (blkOk_by (own := [("_law_index", 13)]) (N := N_law) (sc := defScope s_law) (by decide +kernel)) (fun _ _ _ _ _ => (pg_name (i := 13) sc_law.nd rfl (Or.inl rfl))) (fun _ _ _ _ _ => pts_nil) (fun _ _ _ _ _ => (pe_ix (show IxR _ (rIx K) from ix_seq) (pe_ix (show IxR _ (rIx K) from ix_seq) (pv 4) (pv 13) (fun _ _ => rfl)) pe_int (fun _ _ => rfl)))) pa_nil)) (pv 12) (nomark _))
    (pss_one (ps_ret pe_bl))
    pss_nil)))))
    pss_nil)))))))))))))))))
  (pss_one (ps_ret pe_bl)))), ?_⟩
    walk_at "el"
    refine ⟨a, ns, rfl, ha, fun b c H1 hb0 hc0 hb1 s1 => ?_⟩
    walk_at "el"
    refine ⟨by decide, by decide, ?_⟩
    refine lp_range (fun i σ H2 => Bag H2 b c ∧ ∃ v2 v3 v4 v5 v6 v7 v8 v9 v10 v11 v12 v13, σ = [some (.ref a), some (.ref b), v2, v3, v4, v5, v6, v7, v8, v9, v10, v11, v12, v13]) ⟨hb1, _, _, _, _, _, _, _, _, _, _, _, _, rfl⟩ ?_ ?_
    · rintro i σ H2 hi ⟨hb2, v2, v3, v4, v5, v6, v7, v8, v9, v10, v11, v12, v13, rfl⟩
      walk_at "el"
      refine ⟨b, c, 9, rfl, hb2, by decide, by decide, fun ev H3 ev0 ev8 hb3 _ => ?_⟩
      walk_at "el"
      refine ⟨by show 3 ≤ sizeLine; decide, fun mn hmn => ?_⟩
      have nm := hb3.ne hmn
      have hb4 := hb3.same (nw_of hmn (.lst [.int 20, .int 12, .int 44]))
      walk_at "el"
      refine ⟨b, c, mn, _, rfl, hb4, nm, .inl upd_same, by show 0 < 3; decide, by show 3 ≤ 1000000000; decide, fun x H5 hx hb5 _ => ?_⟩
      obtain ⟨most, rfl, mo0, mo1⟩ : ∃ m : Int, x = .int m ∧ 0 ≤ m ∧ m ≤ 44 := by
        revert x
        exact all_cons ⟨_, rfl, by decide, by decide⟩ (all_cons ⟨_, rfl, by decide, by decide⟩ (all_cons ⟨_, rfl, by decide, by decide⟩ all_nil))
      walk_at "el"
      refine ⟨ev, 1, most, b, c, rfl, hb5, ev0, by omega, by decide, by decide, mo0, by omega, fun p l H6 xs S I6 lt lg ls lc => ?_⟩
      walk_at "el"
      refine ⟨b, c, p, l, xs .gap, ev, 1, rfl, I6.bag, S.pb, S.lb .gap, I6.hp, I6.hl .gap, I6.it .gap, I6.ng, by omega, fun H7 r ys hb7 k7 _ hr7 it7 ly => ?_⟩
      clear I6 S lt lg ls lc hb5 hb4 nm hmn hb3 hb2 mo0 mo1 k7
      obtain ⟨n, rfl⟩ : ∃ n : Nat, ev = n := ⟨ev.toNat, by omega⟩
      walk_at "el"
      refine ⟨by show 0 ≤ sizeLine; decide, fun te hte => ?_⟩
      have e8 := nw_of hte (.lst [])
      have g8 := upd_at hte (.lst [])
      have hr8 := e8 _ _ hr7
      have it8 : ∀ x ∈ ys, ItemOk .gap _ x n 0 := fun x hx => gap_wi ((it7 x hx).same e8)
      have hb8 := hb7.same e8
      generalize upd H7 te (.lst []) = H8 at g8 hr8 it8 hb8 ⊢
      clear it7 hr7 e8 hte hb7
      walk_at "el"
      refine n_bk4 c_Book.dflt (by omega) (by omega) (by decide) (by decide) ⟨.inl g8, by show 0 ≤ 24; decide, all_nil⟩ ⟨.inl hr8, ly, it8⟩ fun o dx t' g' s' c' H9 s9 ho ho9 ht9 hg9 hs9 hc9 => ?_
      have it9 : ∀ x ∈ ys, ItemOk .gap H9 x n 0 := fun x hx => (it8 x hx).same s9
      obtain ⟨D, pr9, okD⟩ := pr_of (xs := fun t => match t with | .gap => ys | _ => []) (ev := n) (wi := 0) (H := H9) (fun t => match t with
        | .gap => it9
        | .tel => all_nil
        | .sur => all_nil
        | .cla => all_nil)
      have W9 : BkW K C H9 ⟨o, dx, t', g', s', c', n, 0, fun t => match t with | .gap => ys | _ => []⟩ D := ⟨⟨ho9, ht9, hg9, hs9, hc9, pr9⟩, ok_inG okD (by omega), by show (0 : Int) ≤ n; omega, by show (n : Int) ≤ 8; omega⟩
      have hR9 : RowsAre encT H9 ys D.G := pr9.g
      have nB : ∀ x ∈ D.G, -1000000000000000 ≤ x.2.2 ∧ x.2.2 ≤ 1000000000000000 := fun x hx => (okD.g x hx).2.2
      have hr9 := s9 _ _ hr8
      have hb9 := hb8.same s9
      have hG : WM.InG D.G n := by have := W9.g; exact this
      clear it8 it9 pr9 okD ht9 hg9 hs9 hc9 ho9 hr8 hb8 g8 s9 ho
      generalize hA : (⟨o, dx, t', g', s', c', n, 0, fun t => match t with | .gap => ys | _ => []⟩ : BA) = A9 at W9
      have eo : A9.o = o := by rw [← hA]
      have en : A9.ev.toNat = n := by rw [← hA]; exact Int.toNat_natCast n
      clear hA
      subst eo
      walk_at "el"
      refine n_sums hr9 hR9 hG (by omega) fun best H10 s10 hS => ?_
      have W10 := W9.same s10
      have hR10 := hR9.same s10
      have hr10 := s10 _ _ hr9
      have hb10 := hb9.same s10
      clear W9 hR9 hr9 hb9 s10
      walk_at "el"
      refine ⟨A9, D, rfl, W10, fun H11 v s11 rg => ?_⟩
      rw [en] at rg
      have fR : ∀ is, ringN D.G n n = some is → is.length ≤ 1000 ∧ ∀ i ∈ is, i ≤ 1000 := fun is e => by
        obtain ⟨e0, en0, hw, hs0, hl⟩ := ringN_some n e
        exact ⟨by omega, fun i hi => by have := wk_mem _ _ _ hw i hi; have := hR10.len; omega⟩
      have W11 := W10.same s11
      have hR11 := hR10.same s11
      have hr11 := s11 _ _ hr10
      have hb11 := hb10.same s11
      have hS11 := hS.same s11
      clear W10 hR10 hr10 hb10 hS s11
      walk_at "el"
      refine n_showR rg fR ?_
      clear rg
      walk_at "el"
      refine ⟨by decide, by decide, ?_⟩
      cases hrn : ringN D.G n n with
      | none =>
        have np : ¬ WM.Pos D.G := (ring_pos hG).mp hrn
        obtain ⟨bp, rw', rfl, M11⟩ : ∃ p rw, best = .ref p ∧ MatAt H11 p rw (n + 1) (WM.finM D.G n) := hS11.elim (fun h => absurd h.1 np) fun h => h.2
        clear hS11
        refine lp_range (lo := 0) (n := 2) (fun j σ H12 => Same H11 H12 ∧ ∃ v8 v9 v10 v11 v12 v13, σ = [some (.ref a), some (.ref b), some (.int (0 + (i : Int))), some (.int n), some (.ref r), some (.ref A9.o), some (.ref bp), some (.str (ringD none).shown), v8, v9, v10, v11, v12, v13]) ⟨Same.refl _, _, _, _, _, _, _, rfl⟩ ?_ ?_
        · rintro j σ H12 hj ⟨s12, w8, w9, w10, w11, w12, w13, rfl⟩
          walk_at "el"
          refine ⟨A9, D, rfl, W11.same s12, fun H13 v s13 rg => ?_⟩
          rw [en] at rg
          have rg' := rg
          rw [hrn] at rg'
          obtain rfl : v = .non := rg'.elim (fun h => h.2) fun ⟨_, _, h, _⟩ => nomatch h
          walk_at "el"
          refine n_showR rg fR ?_
          rw [hrn]
          walk_at "el"
          rw [decide_eq_true rfl]
          walk_at "el"
          rw [non_no, decide_eq_true (rfl : V.non = V.non)]
          walk_at "el"
          rw [decide_eq_true (show V.bl true = V.bl (!false) from rfl)]
          walk_at "el"
          rw [decide_eq_true (rfl : V.non = V.non)]
          walk_at "el"
          exact ⟨s12.trans s13, _, _, _, _, _, _, rfl⟩
        · rintro σ H12 ⟨s12, w8, w9, w10, w11, w12, w13, rfl⟩
          have W12 := W11.same s12
          have hR12 := hR11.same s12
          have hr12 := s12 _ _ hr11
          have hb12 := hb11.same s12
          have M12 := M11.same s12
          clear W11 hR11 hr11 hb11 M11 s12
          walk_at "el"
          refine ⟨by omega, by omega, ?_⟩
          rw [Int.toNat_natCast]
          refine lp_range (lo := 0) (n := n) (fun j σ H13 => Same H12 H13 ∧ ∃ v8 v9 v10 v11 v12 v13, σ = [some (.ref a), some (.ref b), some (.int (0 + (i : Int))), some (.int n), some (.ref r), some (.ref A9.o), some (.ref bp), some (.str (ringD none).shown), v8, v9, v10, v11, v12, v13]) ⟨Same.refl _, _, _, _, _, _, _, rfl⟩ ?_ ?_
          · rintro u σ H13 hu ⟨s13, x8, x9, x10, x11, x12, x13, rfl⟩
            rw [Int.zero_add]
            walk_at "el"
            refine ⟨by omega, by omega, ?_⟩
            rw [Int.toNat_natCast]
            refine lp_range (lo := 0) (n := n) (fun j σ H14 => Same H12 H14 ∧ ∃ v8 v9 v11 v12 v13, σ = [some (.ref a), some (.ref b), some (.int (0 + (i : Int))), some (.int n), some (.ref r), some (.ref A9.o), some (.ref bp), some (.str (ringD none).shown), v8, v9, some (.int u), v11, v12, v13]) ⟨s13, _, _, _, _, _, rfl⟩ ?_ ?_
            · rintro v σ H14 hv ⟨s14, y8, y9, y11, y12, y13, rfl⟩
              rw [Int.zero_add]
              walk_at "el"
              rw [non_no]
              walk_at "el"
              have W14 := W12.same s14
              have M14 := M12.same s14
              refine ⟨A9, D, u, v, rfl, W14, by rw [en]; exact hu, by rw [en]; exact hv, fun _ H15 t s15 cv => ?_, fun is e => by rw [en, hrn] at e; cases e⟩
              rw [en] at cv
              have W15 := W14.same s15
              have M15 := M14.same s15
              have s1215 := s14.trans s15
              clear W14 M14 s14 s15
              obtain ⟨m1, m2⟩ := M15.at_ (u := (u : Int)) (by omega) (by omega)
              walk_at "el"
              refine n_ixL (SqL.of M15.hp) m1 ?_
              walk_at "el"
              refine n_ixL (SqL.of m2) (rowL_at (a := (v : Int)) (by omega) (by omega)) ?_
              have ag := WM.agree hG np hu hv
              have fC : ∀ y, WM.bf D.G u n v = some y → y.1.natAbs < 10 ^ 40 ∧ y.2.length ≤ 1000 ∧ ∀ i ∈ y.2, i ≤ 1000 := fun y hy => by
                obtain ⟨h1, h2, h3⟩ := WM.bf_sound n _ _ hy
                obtain ⟨b1, b2⟩ := sm_le (by decide) nB y.2
                exact ⟨Nat.lt_of_le_of_lt (m := 8000000000000000) (by omega) (by decide +kernel), by omega, fun i hi => by have := wk_mem _ _ _ h1 i hi; have := hR12.len; omega⟩
              walk_at "el"
              refine ite2 (fun g0 => ?_) (fun g0 => ?_)
              · walk_at "el"
                refine ⟨A9, D, u, v, rfl, W15, by rw [en]; exact hu, by rw [en]; exact hv, fun _ H16 t2 s16 cv2 => ?_, fun is e => by rw [en, hrn] at e; cases e⟩
                rw [en] at cv2
                have s1216 := s1215.trans s16
                walk_at "el"
                refine n_showC cv2 fC ?_
                walk_at "el"
                refine n_showC (cv.tups (tups_same s16)) fC ?_
                walk_at "el"
                rw [decide_eq_true rfl]
                walk_at "el"

                cases hbf : WM.bf D.G u n v with
                | none =>
                  have fm : WM.finM D.G n u v = none := by rw [← ag, hbf]; rfl
                  obtain rfl : t = .non := (cv).elim (fun h => h.2) fun ⟨_, _, _, h, _⟩ => by rw [hbf] at h; cases h
                  rw [fm]
                  walk_at "el"
                  rw [decide_eq_true (rfl : V.non = V.non), decide_eq_true (show optV none = V.non from rfl), decide_eq_true (rfl : V.bl true = V.bl true)]
                  walk_at "el"
                  rw [decide_eq_true (rfl : V.non = V.non)]
                  walk_at "el"
                  exact ⟨s1216, _, _, _, _, _, rfl⟩
                | some y =>
                  have fm : WM.finM D.G n u v = some y.1 := by rw [← ag, hbf]; rfl
                  obtain ⟨q, r2, rfl, hq, hr2⟩ : ∃ q r2, t = .ref q ∧ _ = some (HO.tup [.int y.1, .ref r2]) ∧ _ = some (HO.tup (ixs y.2)) := (cv.tups (tups_same s16)).elim (fun h => by rw [hbf] at h; cases h.1) fun ⟨y', q, r2, h, e, h1, h2⟩ => by
                    rw [hbf] at h
                    cases h
                    exact ⟨q, r2, e, h1, h2⟩
                  obtain ⟨w1, w2, w3⟩ := WM.bf_sound n _ _ hbf
                  obtain ⟨f1, f2, f3⟩ := fC y hbf
                  rw [fm]
                  have hrk := s1216 _ _ hr12
                  have hRk := hR12.same (s1216)
                  obtain ⟨tyq, ktq⟩ := (Th.tup (K := K) hq).kit
                  have tq : isT H16 (.ref q) = true := by show obT (H16 q) = true; rw [hq]; rfl
                  walk_at "el"
                  rw [non_no, decide_eq_false (show optV (some y.1) ≠ V.non from fun z => nomatch z), decide_eq_true (rfl : V.bl false = V.bl false)]
                  walk_at "el"
                  rw [tq]
                  walk_at "el"
                  rw [show (decide (V.int (([V.int y.1, V.ref r2] : List V).length : Int) = V.int 2)) = true from rfl]
                  walk_at "el"
                  refine n_showI f1 ?_
                  walk_at "el"
                  refine n_showI f1 ?_
                  walk_at "el"
                  rw [decide_eq_true rfl]
                  walk_at "el"
                  refine ⟨r, ys, D.G, u, v, .ref r2, rfl, hRk.gaps (.inl hrk), .tup hr2, fun q' xs' hq' hxs z hz => ?_, fun b' hb' => ?_⟩
                  · cases hq'
                    rw [hr2] at hxs
                    cases hxs
                    obtain ⟨j, _, rfl⟩ := List.mem_map.mp hz
                    exact .int _
                  have bt : b' = true := hb'.mpr ⟨r2, _, rfl, hr2, by rw [way_wk]; exact w1⟩
                  subst bt
                  walk_at "el"
                  refine a_iSeq (.inr ?_)
                  walk_at "el"
                  refine ⟨r2, rfl, ⟨_, SqT.of hr2⟩, fun D0 hD0 => ?_⟩
                  have im := wk_mem _ _ _ w1
                  refine lc_of (walk_tup (xs := ixs y.2)) (fun m H17 => Same H16 H17 ∧ H17 D0 = some (.lst (((y.2.take m).map (WM.gw D.G)).map V.int))) ⟨nw_of hD0 _, upd_same⟩ (fun m H17 hm h => SqT.of (h.1 _ _ hr2)) ?_ ?_
                  · rintro m z H17 H18 hm ⟨s17, hD17⟩ ⟨rfl, hz⟩
                    rw [List.getElem?_map] at hz
                    have hm2 : m < y.2.length := by rw [List.length_map] at hm; exact hm
                    rw [List.getElem?_eq_getElem hm2] at hz
                    cases hz
                    have jl := im _ (List.getElem_mem hm2)
                    obtain ⟨zv, hzv, hxv⟩ := (hRk.same s17).get (List.getElem?_eq_getElem jl)
                    have hg17 := s17 _ _ hrk
                    walk_at "el"
                    refine ⟨rfl, ?_⟩
                    walk_at "el"
                    refine n_ixL (SqL.of hg17) (atI_nat hzv) ?_
                    walk_at "el"
                    refine ⟨_, hD17, by rw [List.length_map, List.length_map, List.length_take]; exact Nat.lt_of_le_of_lt (m := 1000) (by omega) (by decide), s17.mu hD0, ?_⟩
                    rw [upd_same, List.take_add_one, List.getElem?_eq_getElem hm2, List.map_append, List.map_append]
                    show some (HO.lst (_ ++ [V.int D.G[y.2[m]].2.2])) = some (HO.lst (_ ++ [V.int (WM.gw D.G y.2[m])]))
                    rw [WM.gw_at (List.getElem?_eq_getElem jl)]
                  · rintro H17 ⟨s17, hD17⟩
                    rw [List.length_map, List.take_length] at hD17
                    walk_at "el"
                    refine ⟨D0, _, rfl, SqL.of hD17, ?_⟩
                    rw [← sm_sum, show WM.sm D.G y.2 = y.1 by omega]
                    walk_at "el"
                    rw [decide_eq_true (show V.int y.1 = optV (some y.1) from rfl)]
                    walk_at "el"
                    exact ⟨s1216.trans s17, _, _, _, _, _, rfl⟩
              · walk_at "el"

                cases hbf : WM.bf D.G u n v with
                | none =>
                  have fm : WM.finM D.G n u v = none := by rw [← ag, hbf]; rfl
                  obtain rfl : t = .non := (cv).elim (fun h => h.2) fun ⟨_, _, _, h, _⟩ => by rw [hbf] at h; cases h
                  rw [fm]
                  walk_at "el"
                  rw [decide_eq_true (rfl : V.non = V.non), decide_eq_true (show optV none = V.non from rfl), decide_eq_true (rfl : V.bl true = V.bl true)]
                  walk_at "el"
                  rw [decide_eq_true (rfl : V.non = V.non)]
                  walk_at "el"
                  exact ⟨s1215, _, _, _, _, _, rfl⟩
                | some y =>
                  have fm : WM.finM D.G n u v = some y.1 := by rw [← ag, hbf]; rfl
                  obtain ⟨q, r2, rfl, hq, hr2⟩ : ∃ q r2, t = .ref q ∧ _ = some (HO.tup [.int y.1, .ref r2]) ∧ _ = some (HO.tup (ixs y.2)) := (cv).elim (fun h => by rw [hbf] at h; cases h.1) fun ⟨y', q, r2, h, e, h1, h2⟩ => by
                    rw [hbf] at h
                    cases h
                    exact ⟨q, r2, e, h1, h2⟩
                  obtain ⟨w1, w2, w3⟩ := WM.bf_sound n _ _ hbf
                  obtain ⟨f1, f2, f3⟩ := fC y hbf
                  rw [fm]
                  have hrk := s1215 _ _ hr12
                  have hRk := hR12.same (s1215)
                  obtain ⟨tyq, ktq⟩ := (Th.tup (K := K) hq).kit
                  have tq : isT H15 (.ref q) = true := by show obT (H15 q) = true; rw [hq]; rfl
                  walk_at "el"
                  rw [non_no, decide_eq_false (show optV (some y.1) ≠ V.non from fun z => nomatch z), decide_eq_true (rfl : V.bl false = V.bl false)]
                  walk_at "el"
                  rw [tq]
                  walk_at "el"
                  rw [show (decide (V.int (([V.int y.1, V.ref r2] : List V).length : Int) = V.int 2)) = true from rfl]
                  walk_at "el"
                  refine n_showI f1 ?_
                  walk_at "el"
                  refine n_showI f1 ?_
                  walk_at "el"
                  rw [decide_eq_true rfl]
                  walk_at "el"
                  refine ⟨r, ys, D.G, u, v, .ref r2, rfl, hRk.gaps (.inl hrk), .tup hr2, fun q' xs' hq' hxs z hz => ?_, fun b' hb' => ?_⟩
                  · cases hq'
                    rw [hr2] at hxs
                    cases hxs
                    obtain ⟨j, _, rfl⟩ := List.mem_map.mp hz
                    exact .int _
                  have bt : b' = true := hb'.mpr ⟨r2, _, rfl, hr2, by rw [way_wk]; exact w1⟩
                  subst bt
                  walk_at "el"
                  refine a_iSeq (.inr ?_)
                  walk_at "el"
                  refine ⟨r2, rfl, ⟨_, SqT.of hr2⟩, fun D0 hD0 => ?_⟩
                  have im := wk_mem _ _ _ w1
                  refine lc_of (walk_tup (xs := ixs y.2)) (fun m H17 => Same H15 H17 ∧ H17 D0 = some (.lst (((y.2.take m).map (WM.gw D.G)).map V.int))) ⟨nw_of hD0 _, upd_same⟩ (fun m H17 hm h => SqT.of (h.1 _ _ hr2)) ?_ ?_
                  · rintro m z H17 H18 hm ⟨s17, hD17⟩ ⟨rfl, hz⟩
                    rw [List.getElem?_map] at hz
                    have hm2 : m < y.2.length := by rw [List.length_map] at hm; exact hm
                    rw [List.getElem?_eq_getElem hm2] at hz
                    cases hz
                    have jl := im _ (List.getElem_mem hm2)
                    obtain ⟨zv, hzv, hxv⟩ := (hRk.same s17).get (List.getElem?_eq_getElem jl)
                    have hg17 := s17 _ _ hrk
                    walk_at "el"
                    refine ⟨rfl, ?_⟩
                    walk_at "el"
                    refine n_ixL (SqL.of hg17) (atI_nat hzv) ?_
                    walk_at "el"
                    refine ⟨_, hD17, by rw [List.length_map, List.length_map, List.length_take]; exact Nat.lt_of_le_of_lt (m := 1000) (by omega) (by decide), s17.mu hD0, ?_⟩
                    rw [upd_same, List.take_add_one, List.getElem?_eq_getElem hm2, List.map_append, List.map_append]
                    show some (HO.lst (_ ++ [V.int D.G[y.2[m]].2.2])) = some (HO.lst (_ ++ [V.int (WM.gw D.G y.2[m])]))
                    rw [WM.gw_at (List.getElem?_eq_getElem jl)]
                  · rintro H17 ⟨s17, hD17⟩
                    rw [List.length_map, List.take_length] at hD17
                    walk_at "el"
                    refine ⟨D0, _, rfl, SqL.of hD17, ?_⟩
                    rw [← sm_sum, show WM.sm D.G y.2 = y.1 by omega]
                    walk_at "el"
                    rw [decide_eq_true (show V.int y.1 = optV (some y.1) from rfl)]
                    walk_at "el"
                    exact ⟨s1215.trans s17, _, _, _, _, _, rfl⟩
            · rintro σ H14 ⟨s14, y8, y9, y11, y12, y13, rfl⟩
              exact ⟨s14, _, _, _, _, _, _, rfl⟩
          · rintro σ H13 ⟨s13, x8, x9, x10, x11, x12, x13, rfl⟩
            exact ⟨hb12.same s13, _, _, _, _, _, _, _, _, _, _, _, _, rfl⟩
      | some is =>
        have ps : WM.Pos D.G := by
          by_cases z : WM.Pos D.G
          · exact z
          · rw [(ring_pos hG).mpr z] at hrn; cases hrn
        obtain rfl : best = .non := hS11.elim (fun h => h.2) fun h => absurd ps h.1
        clear hS11
        obtain ⟨e0, en0, hw, hs0, hl⟩ := ringN_some n hrn
        refine lp_range (lo := 0) (n := 2) (fun j σ H12 => Same H11 H12 ∧ ∃ v8 v9 v10 v11 v12 v13, σ = [some (.ref a), some (.ref b), some (.int (0 + (i : Int))), some (.int n), some (.ref r), some (.ref A9.o), some .non, some (.str (ringD (some is)).shown), v8, v9, v10, v11, v12, v13]) ⟨Same.refl _, _, _, _, _, _, _, rfl⟩ ?_ ?_
        · rintro j σ H12 hj ⟨s12, w8, w9, w10, w11, w12, w13, rfl⟩
          walk_at "el"
          refine ⟨A9, D, rfl, W11.same s12, fun H13 v s13 rg => ?_⟩
          rw [en] at rg
          have rg' := rg
          rw [hrn] at rg'
          obtain ⟨q, rfl, hq⟩ : ∃ q, v = .ref q ∧ H13 q = some (.tup (ixs is)) := rg'.elim (fun h => nomatch h.1) fun ⟨is', r', h, e, hh⟩ => by cases h; exact ⟨r', e, hh⟩
          have s1113 := s12.trans s13
          walk_at "el"
          refine n_showR rg fR ?_
          rw [hrn]
          walk_at "el"
          rw [decide_eq_true rfl]
          walk_at "el"
          rw [non_no, decide_eq_true (rfl : V.non = V.non)]
          walk_at "el"
          rw [decide_eq_true (show V.bl false = V.bl (!true) from rfl)]
          walk_at "el"
          rw [non_no]
          walk_at "el"
          refine ⟨r, q, ys, D.G, is, e0, rfl, s1113 _ _ hr11, hR11.same s1113, hq, hw, hs0, by omega, by omega, fun H14 s14 => ?_⟩
          walk_at "el"
          exact ⟨s1113.trans s14, _, _, _, _, _, _, rfl⟩
        · rintro σ H12 ⟨s12, w8, w9, w10, w11, w12, w13, rfl⟩
          have W12 := W11.same s12
          have hR12 := hR11.same s12
          have hr12 := s12 _ _ hr11
          have hb12 := hb11.same s12
          clear W11 hR11 hr11 hb11 s12
          walk_at "el"
          refine ⟨by omega, by omega, ?_⟩
          rw [Int.toNat_natCast]
          refine lp_range (lo := 0) (n := n) (fun j σ H13 => Same H12 H13 ∧ ∃ v8 v9 v10 v11 v12 v13, σ = [some (.ref a), some (.ref b), some (.int (0 + (i : Int))), some (.int n), some (.ref r), some (.ref A9.o), some .non, some (.str (ringD (some is)).shown), v8, v9, v10, v11, v12, v13]) ⟨Same.refl _, _, _, _, _, _, _, rfl⟩ ?_ ?_
          · rintro u σ H13 hu ⟨s13, x8, x9, x10, x11, x12, x13, rfl⟩
            rw [Int.zero_add]
            walk_at "el"
            refine ⟨by omega, by omega, ?_⟩
            rw [Int.toNat_natCast]
            refine lp_range (lo := 0) (n := n) (fun j σ H14 => Same H12 H14 ∧ ∃ v8 v9 v11 v12 v13, σ = [some (.ref a), some (.ref b), some (.int (0 + (i : Int))), some (.int n), some (.ref r), some (.ref A9.o), some .non, some (.str (ringD (some is)).shown), v8, v9, some (.int u), v11, v12, v13]) ⟨s13, _, _, _, _, _, rfl⟩ ?_ ?_
            · rintro v σ H14 hv ⟨s14, y8, y9, y11, y12, y13, rfl⟩
              rw [Int.zero_add]
              walk_at "el"
              rw [decide_eq_true (rfl : V.non = V.non)]
              walk_at "el"
              refine ⟨A9, D, r, ys, u, v, is, rfl, W12.same s14, s14 _ _ hr12, hR12.same s14, by omega, by rw [en]; exact hu, by rw [en]; exact hv, by rw [en]; exact hrn, fun H15 s15 => ?_⟩
              walk_at "el"
              exact ⟨s14.trans s15, _, _, _, _, _, rfl⟩
            · rintro σ H14 ⟨s14, y8, y9, y11, y12, y13, rfl⟩
              exact ⟨s14, _, _, _, _, _, _, rfl⟩
          · rintro σ H13 ⟨s13, x8, x9, x10, x11, x12, x13, rfl⟩
            exact ⟨hb12.same s13, _, _, _, _, _, _, _, _, _, _, _, _, rfl⟩
    · rintro σ H2 ⟨hb2, v2, v3, v4, v5, v6, v7, v8, v9, v10, v11, v12, v13, rfl⟩
      walk_at "el"
      exact k _
end
end EL

/- part M22 -/
namespace EL
open PySem PySem.Spec PyProof.Rows L2
open PySem.W (Frag)
set_option maxHeartbeats 0 in
theorem all_mk {P : Program} {w : World} {K : Frag} {h : Heap} {mg : Str → Option Value} {fa : Addr} (X : K.In h) (G : h.Ns mainGlobals mg) (hfa : mg "law" = some (.ref fa))
    {f_is_integer : Addr} {od_is_integer an_is_integer : Option Addr} {sl_is_integer : Array (Option Value)} {oc_is_integer kV_is_integer dc_is_integer pm_is_integer cd_is_integer ct_is_integer : Value}
    {f_is_number : Addr} {od_is_number an_is_number : Option Addr} {sl_is_number : Array (Option Value)} {oc_is_number kV_is_number dc_is_number pm_is_number cd_is_number ct_is_number : Value}
    {f_is_kind : Addr} {od_is_kind an_is_kind : Option Addr} {sl_is_kind : Array (Option Value)} {oc_is_kind kV_is_kind dc_is_kind pm_is_kind cd_is_kind ct_is_kind : Value}
    {f_is_tuple : Addr} {od_is_tuple an_is_tuple : Option Addr} {sl_is_tuple : Array (Option Value)} {oc_is_tuple kV_is_tuple dc_is_tuple pm_is_tuple cd_is_tuple ct_is_tuple : Value}
    {f_is_below : Addr} {od_is_below an_is_below : Option Addr} {sl_is_below : Array (Option Value)} {oc_is_below kV_is_below dc_is_below pm_is_below cd_is_below ct_is_below : Value}
    {f_is_side : Addr} {od_is_side an_is_side : Option Addr} {sl_is_side : Array (Option Value)} {oc_is_side kV_is_side dc_is_side pm_is_side cd_is_side ct_is_side : Value}
    {f__can_stand : Addr} {od__can_stand an__can_stand : Option Addr} {sl__can_stand : Array (Option Value)} {oc__can_stand kV__can_stand dc__can_stand pm__can_stand cd__can_stand ct__can_stand : Value}
    {f_first_wrong : Addr} {od_first_wrong an_first_wrong : Option Addr} {sl_first_wrong : Array (Option Value)} {oc_first_wrong kV_first_wrong dc_first_wrong pm_first_wrong cd_first_wrong ct_first_wrong : Value}
    {f_is_item : Addr} {od_is_item an_is_item : Option Addr} {sl_is_item : Array (Option Value)} {oc_is_item kV_is_item dc_is_item pm_is_item cd_is_item ct_is_item : Value}
    {f__check_arguments : Addr} {od__check_arguments an__check_arguments : Option Addr} {sl__check_arguments : Array (Option Value)} {oc__check_arguments kV__check_arguments dc__check_arguments pm__check_arguments cd__check_arguments ct__check_arguments : Value}
    {f__check_items : Addr} {od__check_items an__check_items : Option Addr} {sl__check_items : Array (Option Value)} {oc__check_items kV__check_items dc__check_items pm__check_items cd__check_items ct__check_items : Value}
    {f_bag : Addr} {od_bag an_bag : Option Addr} {sl_bag : Array (Option Value)} {oc_bag kV_bag dc_bag pm_bag cd_bag ct_bag : Value}
    {f_take : Addr} {od_take an_take : Option Addr} {sl_take : Array (Option Value)} {oc_take kV_take dc_take pm_take cd_take ct_take : Value}
    {f_one : Addr} {od_one an_one : Option Addr} {sl_one : Array (Option Value)} {oc_one kV_one dc_one pm_one cd_one ct_one : Value}
    {f_number : Addr} {od_number an_number : Option Addr} {sl_number : Array (Option Value)} {oc_number kV_number dc_number pm_number cd_number ct_number : Value}
    {f_kind : Addr} {od_kind an_kind : Option Addr} {sl_kind : Array (Option Value)} {oc_kind kV_kind dc_kind pm_kind cd_kind ct_kind : Value}
    {f_parts : Addr} {od_parts an_parts : Option Addr} {sl_parts : Array (Option Value)} {oc_parts kV_parts dc_parts pm_parts cd_parts ct_parts : Value}
    {f__with_one_gap_more : Addr} {od__with_one_gap_more an__with_one_gap_more : Option Addr} {sl__with_one_gap_more : Array (Option Value)} {oc__with_one_gap_more kV__with_one_gap_more dc__with_one_gap_more pm__with_one_gap_more cd__with_one_gap_more ct__with_one_gap_more : Value}
    {f__best_ways : Addr} {od__best_ways an__best_ways : Option Addr} {sl__best_ways : Array (Option Value)} {oc__best_ways kV__best_ways dc__best_ways pm__best_ways cd__best_ways ct__best_ways : Value}
    {f_all_ways : Addr} {od_all_ways an_all_ways : Option Addr} {sl_all_ways : Array (Option Value)} {oc_all_ways kV_all_ways dc_all_ways pm_all_ways cd_all_ways ct_all_ways : Value}
    {f_ring_in : Addr} {od_ring_in an_ring_in : Option Addr} {sl_ring_in : Array (Option Value)} {oc_ring_in kV_ring_in dc_ring_in pm_ring_in cd_ring_in ct_ring_in : Value}
    {f_ring : Addr} {od_ring an_ring : Option Addr} {sl_ring : Array (Option Value)} {oc_ring kV_ring dc_ring pm_ring cd_ring ct_ring : Value}
    {f_sure_ways : Addr} {od_sure_ways an_sure_ways : Option Addr} {sl_sure_ways : Array (Option Value)} {oc_sure_ways kV_sure_ways dc_sure_ways pm_sure_ways cd_sure_ways ct_sure_ways : Value}
    {f_way : Addr} {od_way an_way : Option Addr} {sl_way : Array (Option Value)} {oc_way kV_way dc_way pm_way cd_way ct_way : Value}
    {f_l_is_way : Addr} {od_l_is_way an_l_is_way : Option Addr} {sl_l_is_way : Array (Option Value)} {oc_l_is_way kV_l_is_way dc_l_is_way pm_l_is_way cd_l_is_way ct_l_is_way : Value}
    {f_sums : Addr} {od_sums an_sums : Option Addr} {sl_sums : Array (Option Value)} {oc_sums kV_sums dc_sums pm_sums cd_sums ct_sums : Value}
    {f_ring_right : Addr} {od_ring_right an_ring_right : Option Addr} {sl_ring_right : Array (Option Value)} {oc_ring_right kV_ring_right dc_ring_right pm_ring_right cd_ring_right ct_ring_right : Value}
    {f_gaps : Addr} {od_gaps an_gaps : Option Addr} {sl_gaps : Array (Option Value)} {oc_gaps kV_gaps dc_gaps pm_gaps cd_gaps ct_gaps : Value}
    {f_refused : Addr} {od_refused an_refused : Option Addr} {sl_refused : Array (Option Value)} {oc_refused kV_refused dc_refused pm_refused cd_refused ct_refused : Value}
    {f_law : Addr} {od_law an_law : Option Addr} {sl_law : Array (Option Value)} {oc_law kV_law dc_law pm_law cd_law ct_law : Value}
    {tGN : Tok}
    {aForms aParts : Addr} {esF : Array DictEntry} {nF nP : Nat} {odP : Option Addr} {slP : Array (Option Value)} {p1 p2 p3 p4 : Tok}
    {a_tel : Addr} {n_tel : Nat} {od_tel : Option Addr} {sl_tel : Array (Option Value)} {t_tel0 t_tel1 t_tel2 : Tok}
    {a_gap : Addr} {n_gap : Nat} {od_gap : Option Addr} {sl_gap : Array (Option Value)} {t_gap0 t_gap1 t_gap2 : Tok}
    {a_sur : Addr} {n_sur : Nat} {od_sur : Option Addr} {sl_sur : Array (Option Value)} {t_sur0 t_sur1 t_sur2 : Tok}
    {a_cla : Addr} {n_cla : Nat} {od_cla : Option Addr} {sl_cla : Array (Option Value)} {t_cla0 t_cla1 t_cla2 t_cla3 : Tok}
    {tE tW tI : Tok}
    {C fI aT d1 d2 d3 d4 : Addr} {odI anI odT o1 o2 o3 o4 : Option Addr} {slI slT s1 s2 s3 s4 : Array (Option Value)} {ocI kVI dcI pmI cdI ctI ocT : Value} {nT n1 n2 n3 n4 : Nat}
    {q_events g_events : Addr} {odg_events ang_events : Option Addr} {slg_events : Array (Option Value)} {ocg_events kVg_events dcg_events pmg_events cdg_events ctg_events : Value} {rs_events : List Value}
    {q_witnesses g_witnesses : Addr} {odg_witnesses ang_witnesses : Option Addr} {slg_witnesses : Array (Option Value)} {ocg_witnesses kVg_witnesses dcg_witnesses pmg_witnesses cdg_witnesses ctg_witnesses : Value} {rs_witnesses : List Value}
    {q_tellings g_tellings : Addr} {odg_tellings ang_tellings : Option Addr} {slg_tellings : Array (Option Value)} {ocg_tellings kVg_tellings dcg_tellings pmg_tellings cdg_tellings ctg_tellings : Value} {rs_tellings : List Value}
    {q_gaps g_gaps : Addr} {odg_gaps ang_gaps : Option Addr} {slg_gaps : Array (Option Value)} {ocg_gaps kVg_gaps dcg_gaps pmg_gaps cdg_gaps ctg_gaps : Value} {rs_gaps : List Value}
    {q_sure g_sure : Addr} {odg_sure ang_sure : Option Addr} {slg_sure : Array (Option Value)} {ocg_sure kVg_sure dcg_sure pmg_sure cdg_sure ctg_sure : Value} {rs_sure : List Value}
    {q_clauses g_clauses : Addr} {odg_clauses ang_clauses : Option Addr} {slg_clauses : Array (Option Value)} {ocg_clauses kVg_clauses dcg_clauses pmg_clauses cdg_clauses ctg_clauses : Value} {rs_clauses : List Value}
    {CN CE fN : Addr} {odN anN : Option Addr} {slN : Array (Option Value)} {ocN kVN dcN pmN cdN ctN : Value} {nmN qN : Str} {NN : Addr} {bsN bmN : List Value} {snN : List Str} {subN : List Value} {abN : Bool} {colN : Option Bool} {ddN : Option Addr} {k0N k1N k2N k3N k5N : Option Value}
    (a_is_integer : PySem.W.nsIn K mainGlobals "is_integer" = some (some (.ref f_is_integer)))
    (l_is_integer : K.lookup f_is_integer = some ⟨oc_is_integer, od_is_integer, .func (PySem.W.fnOf "is_integer" "is_integer" (defArgs s_is_integer) (defBody s_is_integer) (defScope s_is_integer) .none kV_is_integer dc_is_integer pm_is_integer an_is_integer cd_is_integer ct_is_integer), sl_is_integer⟩)
    (c_is_integer : PySem.W.codeIn K cd_is_integer "is_integer" = true)
    (k_is_integer : PySem.W.keepIn K (.ref f_is_integer) = true)
    (a_is_number : PySem.W.nsIn K mainGlobals "is_number" = some (some (.ref f_is_number)))
    (l_is_number : K.lookup f_is_number = some ⟨oc_is_number, od_is_number, .func (PySem.W.fnOf "is_number" "is_number" (defArgs s_is_number) (defBody s_is_number) (defScope s_is_number) .none kV_is_number dc_is_number pm_is_number an_is_number cd_is_number ct_is_number), sl_is_number⟩)
    (c_is_number : PySem.W.codeIn K cd_is_number "is_number" = true)
    (k_is_number : PySem.W.keepIn K (.ref f_is_number) = true)
    (a_is_kind : PySem.W.nsIn K mainGlobals "is_kind" = some (some (.ref f_is_kind)))
    (l_is_kind : K.lookup f_is_kind = some ⟨oc_is_kind, od_is_kind, .func (PySem.W.fnOf "is_kind" "is_kind" (defArgs s_is_kind) (defBody s_is_kind) (defScope s_is_kind) .none kV_is_kind dc_is_kind pm_is_kind an_is_kind cd_is_kind ct_is_kind), sl_is_kind⟩)
    (c_is_kind : PySem.W.codeIn K cd_is_kind "is_kind" = true)
    (k_is_kind : PySem.W.keepIn K (.ref f_is_kind) = true)
    (a_is_tuple : PySem.W.nsIn K mainGlobals "is_tuple" = some (some (.ref f_is_tuple)))
    (l_is_tuple : K.lookup f_is_tuple = some ⟨oc_is_tuple, od_is_tuple, .func (PySem.W.fnOf "is_tuple" "is_tuple" (defArgs s_is_tuple) (defBody s_is_tuple) (defScope s_is_tuple) .none kV_is_tuple dc_is_tuple pm_is_tuple an_is_tuple cd_is_tuple ct_is_tuple), sl_is_tuple⟩)
    (c_is_tuple : PySem.W.codeIn K cd_is_tuple "is_tuple" = true)
    (k_is_tuple : PySem.W.keepIn K (.ref f_is_tuple) = true)
    (a_is_below : PySem.W.nsIn K mainGlobals "is_below" = some (some (.ref f_is_below)))
    (l_is_below : K.lookup f_is_below = some ⟨oc_is_below, od_is_below, .func (PySem.W.fnOf "is_below" "is_below" (defArgs s_is_below) (defBody s_is_below) (defScope s_is_below) .none kV_is_below dc_is_below pm_is_below an_is_below cd_is_below ct_is_below), sl_is_below⟩)
    (c_is_below : PySem.W.codeIn K cd_is_below "is_below" = true)
    (k_is_below : PySem.W.keepIn K (.ref f_is_below) = true)
    (a_is_side : PySem.W.nsIn K mainGlobals "is_side" = some (some (.ref f_is_side)))
    (l_is_side : K.lookup f_is_side = some ⟨oc_is_side, od_is_side, .func (PySem.W.fnOf "is_side" "is_side" (defArgs s_is_side) (defBody s_is_side) (defScope s_is_side) .none kV_is_side dc_is_side pm_is_side an_is_side cd_is_side ct_is_side), sl_is_side⟩)
    (c_is_side : PySem.W.codeIn K cd_is_side "is_side" = true)
    (k_is_side : PySem.W.keepIn K (.ref f_is_side) = true)
    (a__can_stand : PySem.W.nsIn K mainGlobals "_can_stand" = some (some (.ref f__can_stand)))
    (l__can_stand : K.lookup f__can_stand = some ⟨oc__can_stand, od__can_stand, .func (PySem.W.fnOf "_can_stand" "_can_stand" (defArgs s__can_stand) (defBody s__can_stand) (defScope s__can_stand) .none kV__can_stand dc__can_stand pm__can_stand an__can_stand cd__can_stand ct__can_stand), sl__can_stand⟩)
    (c__can_stand : PySem.W.codeIn K cd__can_stand "_can_stand" = true)
    (k__can_stand : PySem.W.keepIn K (.ref f__can_stand) = true)
    (a_first_wrong : PySem.W.nsIn K mainGlobals "first_wrong" = some (some (.ref f_first_wrong)))
    (l_first_wrong : K.lookup f_first_wrong = some ⟨oc_first_wrong, od_first_wrong, .func (PySem.W.fnOf "first_wrong" "first_wrong" (defArgs s_first_wrong) (defBody s_first_wrong) (defScope s_first_wrong) .none kV_first_wrong dc_first_wrong pm_first_wrong an_first_wrong cd_first_wrong ct_first_wrong), sl_first_wrong⟩)
    (c_first_wrong : PySem.W.codeIn K cd_first_wrong "first_wrong" = true)
    (k_first_wrong : PySem.W.keepIn K (.ref f_first_wrong) = true)
    (a_is_item : PySem.W.nsIn K mainGlobals "is_item" = some (some (.ref f_is_item)))
    (l_is_item : K.lookup f_is_item = some ⟨oc_is_item, od_is_item, .func (PySem.W.fnOf "is_item" "is_item" (defArgs s_is_item) (defBody s_is_item) (defScope s_is_item) .none kV_is_item dc_is_item pm_is_item an_is_item cd_is_item ct_is_item), sl_is_item⟩)
    (c_is_item : PySem.W.codeIn K cd_is_item "is_item" = true)
    (k_is_item : PySem.W.keepIn K (.ref f_is_item) = true)
    (a__check_arguments : PySem.W.nsIn K mainGlobals "_check_arguments" = some (some (.ref f__check_arguments)))
    (l__check_arguments : K.lookup f__check_arguments = some ⟨oc__check_arguments, od__check_arguments, .func (PySem.W.fnOf "_check_arguments" "_check_arguments" (defArgs s__check_arguments) (defBody s__check_arguments) (defScope s__check_arguments) .none kV__check_arguments dc__check_arguments pm__check_arguments an__check_arguments cd__check_arguments ct__check_arguments), sl__check_arguments⟩)
    (c__check_arguments : PySem.W.codeIn K cd__check_arguments "_check_arguments" = true)
    (k__check_arguments : PySem.W.keepIn K (.ref f__check_arguments) = true)
    (a__check_items : PySem.W.nsIn K mainGlobals "_check_items" = some (some (.ref f__check_items)))
    (l__check_items : K.lookup f__check_items = some ⟨oc__check_items, od__check_items, .func (PySem.W.fnOf "_check_items" "_check_items" (defArgs s__check_items) (defBody s__check_items) (defScope s__check_items) .none kV__check_items dc__check_items pm__check_items an__check_items cd__check_items ct__check_items), sl__check_items⟩)
    (c__check_items : PySem.W.codeIn K cd__check_items "_check_items" = true)
    (k__check_items : PySem.W.keepIn K (.ref f__check_items) = true)
    (a_bag : PySem.W.nsIn K mainGlobals "_law_bag" = some (some (.ref f_bag)))
    (l_bag : K.lookup f_bag = some ⟨oc_bag, od_bag, .func (PySem.W.fnOf "_law_bag" "_law_bag" (defArgs s_bag) (defBody s_bag) (defScope s_bag) .none kV_bag dc_bag pm_bag an_bag cd_bag ct_bag), sl_bag⟩)
    (c_bag : PySem.W.codeIn K cd_bag "_law_bag" = true)
    (k_bag : PySem.W.keepIn K (.ref f_bag) = true)
    (a_take : PySem.W.nsIn K mainGlobals "_law_take" = some (some (.ref f_take)))
    (l_take : K.lookup f_take = some ⟨oc_take, od_take, .func (PySem.W.fnOf "_law_take" "_law_take" (defArgs s_take) (defBody s_take) (defScope s_take) .none kV_take dc_take pm_take an_take cd_take ct_take), sl_take⟩)
    (c_take : PySem.W.codeIn K cd_take "_law_take" = true)
    (k_take : PySem.W.keepIn K (.ref f_take) = true)
    (a_one : PySem.W.nsIn K mainGlobals "_law_one" = some (some (.ref f_one)))
    (l_one : K.lookup f_one = some ⟨oc_one, od_one, .func (PySem.W.fnOf "_law_one" "_law_one" (defArgs s_one) (defBody s_one) (defScope s_one) .none kV_one dc_one pm_one an_one cd_one ct_one), sl_one⟩)
    (c_one : PySem.W.codeIn K cd_one "_law_one" = true)
    (k_one : PySem.W.keepIn K (.ref f_one) = true)
    (a_number : PySem.W.nsIn K mainGlobals "_law_number" = some (some (.ref f_number)))
    (l_number : K.lookup f_number = some ⟨oc_number, od_number, .func (PySem.W.fnOf "_law_number" "_law_number" (defArgs s_number) (defBody s_number) (defScope s_number) .none kV_number dc_number pm_number an_number cd_number ct_number), sl_number⟩)
    (c_number : PySem.W.codeIn K cd_number "_law_number" = true)
    (k_number : PySem.W.keepIn K (.ref f_number) = true)
    (a_kind : PySem.W.nsIn K mainGlobals "_law_kind" = some (some (.ref f_kind)))
    (l_kind : K.lookup f_kind = some ⟨oc_kind, od_kind, .func (PySem.W.fnOf "_law_kind" "_law_kind" (defArgs s_kind) (defBody s_kind) (defScope s_kind) .none kV_kind dc_kind pm_kind an_kind cd_kind ct_kind), sl_kind⟩)
    (c_kind : PySem.W.codeIn K cd_kind "_law_kind" = true)
    (k_kind : PySem.W.keepIn K (.ref f_kind) = true)
    (a_parts : PySem.W.nsIn K mainGlobals "_law_parts" = some (some (.ref f_parts)))
    (l_parts : K.lookup f_parts = some ⟨oc_parts, od_parts, .func (PySem.W.fnOf "_law_parts" "_law_parts" (defArgs s_parts) (defBody s_parts) (defScope s_parts) .none kV_parts dc_parts pm_parts an_parts cd_parts ct_parts), sl_parts⟩)
    (c_parts : PySem.W.codeIn K cd_parts "_law_parts" = true)
    (k_parts : PySem.W.keepIn K (.ref f_parts) = true)
    (a__with_one_gap_more : PySem.W.nsIn K mainGlobals "_with_one_gap_more" = some (some (.ref f__with_one_gap_more)))
    (l__with_one_gap_more : K.lookup f__with_one_gap_more = some ⟨oc__with_one_gap_more, od__with_one_gap_more, .func (PySem.W.fnOf "_with_one_gap_more" "_with_one_gap_more" (defArgs s__with_one_gap_more) (defBody s__with_one_gap_more) (defScope s__with_one_gap_more) .none kV__with_one_gap_more dc__with_one_gap_more pm__with_one_gap_more an__with_one_gap_more cd__with_one_gap_more ct__with_one_gap_more), sl__with_one_gap_more⟩)
    (c__with_one_gap_more : PySem.W.codeIn K cd__with_one_gap_more "_with_one_gap_more" = true)
    (k__with_one_gap_more : PySem.W.keepIn K (.ref f__with_one_gap_more) = true)
    (a__best_ways : PySem.W.nsIn K mainGlobals "_best_ways" = some (some (.ref f__best_ways)))
    (l__best_ways : K.lookup f__best_ways = some ⟨oc__best_ways, od__best_ways, .func (PySem.W.fnOf "_best_ways" "_best_ways" (defArgs s__best_ways) (defBody s__best_ways) (defScope s__best_ways) .none kV__best_ways dc__best_ways pm__best_ways an__best_ways cd__best_ways ct__best_ways), sl__best_ways⟩)
    (c__best_ways : PySem.W.codeIn K cd__best_ways "_best_ways" = true)
    (k__best_ways : PySem.W.keepIn K (.ref f__best_ways) = true)
    (a_all_ways : PySem.W.nsIn K mainGlobals "all_ways" = some (some (.ref f_all_ways)))
    (l_all_ways : K.lookup f_all_ways = some ⟨oc_all_ways, od_all_ways, .func (PySem.W.fnOf "all_ways" "all_ways" (defArgs s_all_ways) (defBody s_all_ways) (defScope s_all_ways) .none kV_all_ways dc_all_ways pm_all_ways an_all_ways cd_all_ways ct_all_ways), sl_all_ways⟩)
    (c_all_ways : PySem.W.codeIn K cd_all_ways "all_ways" = true)
    (k_all_ways : PySem.W.keepIn K (.ref f_all_ways) = true)
    (a_ring_in : PySem.W.nsIn K mainGlobals "ring_in" = some (some (.ref f_ring_in)))
    (l_ring_in : K.lookup f_ring_in = some ⟨oc_ring_in, od_ring_in, .func (PySem.W.fnOf "ring_in" "ring_in" (defArgs s_ring_in) (defBody s_ring_in) (defScope s_ring_in) .none kV_ring_in dc_ring_in pm_ring_in an_ring_in cd_ring_in ct_ring_in), sl_ring_in⟩)
    (c_ring_in : PySem.W.codeIn K cd_ring_in "ring_in" = true)
    (k_ring_in : PySem.W.keepIn K (.ref f_ring_in) = true)
    (a_ring : PySem.W.nsIn K mainGlobals "ring" = some (some (.ref f_ring)))
    (l_ring : K.lookup f_ring = some ⟨oc_ring, od_ring, .func (PySem.W.fnOf "ring" "ring" (defArgs s_ring) (defBody s_ring) (defScope s_ring) .none kV_ring dc_ring pm_ring an_ring cd_ring ct_ring), sl_ring⟩)
    (c_ring : PySem.W.codeIn K cd_ring "ring" = true)
    (k_ring : PySem.W.keepIn K (.ref f_ring) = true)
    (a_sure_ways : PySem.W.nsIn K mainGlobals "sure_ways" = some (some (.ref f_sure_ways)))
    (l_sure_ways : K.lookup f_sure_ways = some ⟨oc_sure_ways, od_sure_ways, .func (PySem.W.fnOf "sure_ways" "sure_ways" (defArgs s_sure_ways) (defBody s_sure_ways) (defScope s_sure_ways) .none kV_sure_ways dc_sure_ways pm_sure_ways an_sure_ways cd_sure_ways ct_sure_ways), sl_sure_ways⟩)
    (c_sure_ways : PySem.W.codeIn K cd_sure_ways "sure_ways" = true)
    (k_sure_ways : PySem.W.keepIn K (.ref f_sure_ways) = true)
    (a_way : PySem.W.nsIn K mainGlobals "way" = some (some (.ref f_way)))
    (l_way : K.lookup f_way = some ⟨oc_way, od_way, .func (PySem.W.fnOf "way" "way" (defArgs s_way) (defBody s_way) (defScope s_way) .none kV_way dc_way pm_way an_way cd_way ct_way), sl_way⟩)
    (c_way : PySem.W.codeIn K cd_way "way" = true)
    (k_way : PySem.W.keepIn K (.ref f_way) = true)
    (a_l_is_way : PySem.W.nsIn K mainGlobals "_law_is_way" = some (some (.ref f_l_is_way)))
    (l_l_is_way : K.lookup f_l_is_way = some ⟨oc_l_is_way, od_l_is_way, .func (PySem.W.fnOf "_law_is_way" "_law_is_way" (defArgs s_l_is_way) (defBody s_l_is_way) (defScope s_l_is_way) .none kV_l_is_way dc_l_is_way pm_l_is_way an_l_is_way cd_l_is_way ct_l_is_way), sl_l_is_way⟩)
    (c_l_is_way : PySem.W.codeIn K cd_l_is_way "_law_is_way" = true)
    (k_l_is_way : PySem.W.keepIn K (.ref f_l_is_way) = true)
    (a_sums : PySem.W.nsIn K mainGlobals "_law_sums" = some (some (.ref f_sums)))
    (l_sums : K.lookup f_sums = some ⟨oc_sums, od_sums, .func (PySem.W.fnOf "_law_sums" "_law_sums" (defArgs s_sums) (defBody s_sums) (defScope s_sums) .none kV_sums dc_sums pm_sums an_sums cd_sums ct_sums), sl_sums⟩)
    (c_sums : PySem.W.codeIn K cd_sums "_law_sums" = true)
    (k_sums : PySem.W.keepIn K (.ref f_sums) = true)
    (a_ring_right : PySem.W.nsIn K mainGlobals "_law_ring_right" = some (some (.ref f_ring_right)))
    (l_ring_right : K.lookup f_ring_right = some ⟨oc_ring_right, od_ring_right, .func (PySem.W.fnOf "_law_ring_right" "_law_ring_right" (defArgs s_ring_right) (defBody s_ring_right) (defScope s_ring_right) .none kV_ring_right dc_ring_right pm_ring_right an_ring_right cd_ring_right ct_ring_right), sl_ring_right⟩)
    (c_ring_right : PySem.W.codeIn K cd_ring_right "_law_ring_right" = true)
    (k_ring_right : PySem.W.keepIn K (.ref f_ring_right) = true)
    (a_gaps : PySem.W.nsIn K mainGlobals "_law_gaps" = some (some (.ref f_gaps)))
    (l_gaps : K.lookup f_gaps = some ⟨oc_gaps, od_gaps, .func (PySem.W.fnOf "_law_gaps" "_law_gaps" (defArgs s_gaps) (defBody s_gaps) (defScope s_gaps) .none kV_gaps dc_gaps pm_gaps an_gaps cd_gaps ct_gaps), sl_gaps⟩)
    (c_gaps : PySem.W.codeIn K cd_gaps "_law_gaps" = true)
    (k_gaps : PySem.W.keepIn K (.ref f_gaps) = true)
    (a_refused : PySem.W.nsIn K mainGlobals "_law_refused" = some (some (.ref f_refused)))
    (l_refused : K.lookup f_refused = some ⟨oc_refused, od_refused, .func (PySem.W.fnOf "_law_refused" "_law_refused" (defArgs s_refused) (defBody s_refused) (defScope s_refused) .none kV_refused dc_refused pm_refused an_refused cd_refused ct_refused), sl_refused⟩)
    (c_refused : PySem.W.codeIn K cd_refused "_law_refused" = true)
    (k_refused : PySem.W.keepIn K (.ref f_refused) = true)
    (a_law : PySem.W.nsIn K mainGlobals "law" = some (some (.ref f_law)))
    (l_law : K.lookup f_law = some ⟨oc_law, od_law, .func (PySem.W.fnOf "law" "law" (defArgs s_law) (defBody s_law) (defScope s_law) .none kV_law dc_law pm_law an_law cd_law ct_law), sl_law⟩)
    (c_law : PySem.W.codeIn K cd_law "law" = true)
    (k_law : PySem.W.keepIn K (.ref f_law) = true)
    (z_len : PySem.W.nsIn K mainGlobals "len" = some none)
    (z_isinstance : PySem.W.nsIn K mainGlobals "isinstance" = some none)
    (z_int : PySem.W.nsIn K mainGlobals "int" = some none)
    (z_bool : PySem.W.nsIn K mainGlobals "bool" = some none)
    (z_str : PySem.W.nsIn K mainGlobals "str" = some none)
    (z_list : PySem.W.nsIn K mainGlobals "list" = some none)
    (z_tuple : PySem.W.nsIn K mainGlobals "tuple" = some none)
    (z_range : PySem.W.nsIn K mainGlobals "range" = some none)
    (z_enumerate : PySem.W.nsIn K mainGlobals "enumerate" = some none)
    (z_zip : PySem.W.nsIn K mainGlobals "zip" = some none)
    (z_abs : PySem.W.nsIn K mainGlobals "abs" = some none)
    (z_repr : PySem.W.nsIn K mainGlobals "repr" = some none)
    (z_min : PySem.W.nsIn K mainGlobals "min" = some none)
    (z_max : PySem.W.nsIn K mainGlobals "max" = some none)
    (z_sum : PySem.W.nsIn K mainGlobals "sum" = some none)
    (z_all : PySem.W.nsIn K mainGlobals "all" = some none)
    (gGN : PySem.W.nsIn K mainGlobals "GREATEST_NUMBER" = some (some (.int 1000000000000000 tGN)))
    (gForms : PySem.W.nsIn K mainGlobals "FORMS" = some (some (.ref aForms)))
    (lForms : K.lookup aForms = some { cls := .type "dict", data := .dict esF nF })
    (kForms : PySem.W.KeysLit w.params esF.toList)
    (ntel : PySem.W.nsIn K aForms "tellings" = some (some (.ref a_tel)))
    (ltel : K.lookup a_tel = some ⟨.type "tuple", od_tel, .seq #[.str "witness" t_tel0, .str "event" t_tel1, .str "number" t_tel2] n_tel, sl_tel⟩)
    (ngap : PySem.W.nsIn K aForms "gaps" = some (some (.ref a_gap)))
    (lgap : K.lookup a_gap = some ⟨.type "tuple", od_gap, .seq #[.str "event" t_gap0, .str "another event" t_gap1, .str "number" t_gap2] n_gap, sl_gap⟩)
    (nsur : PySem.W.nsIn K aForms "sure" = some (some (.ref a_sur)))
    (lsur : K.lookup a_sur = some ⟨.type "tuple", od_sur, .seq #[.str "event" t_sur0, .str "side" t_sur1, .str "number" t_sur2] n_sur, sl_sur⟩)
    (ncla : PySem.W.nsIn K aForms "clauses" = some (some (.ref a_cla)))
    (lcla : K.lookup a_cla = some ⟨.type "tuple", od_cla, .seq #[.str "witness" t_cla0, .str "kind" t_cla1, .str "witness" t_cla2, .str "kind" t_cla3] n_cla, sl_cla⟩)
    (gParts : PySem.W.nsIn K mainGlobals "PARTS" = some (some (.ref aParts)))
    (lParts : K.lookup aParts = some ⟨.type "tuple", odP, .seq #[.str "tellings" p1, .str "gaps" p2, .str "sure" p3, .str "clauses" p4] nP, slP⟩)
    (gtE : PySem.W.nsIn K mainGlobals "MOST_EVENTS" = some (some (.int 8 tE)))
    (gtW : PySem.W.nsIn K mainGlobals "MOST_WITNESSES" = some (some (.int 8 tW)))
    (gtI : PySem.W.nsIn K mainGlobals "MOST_ITEMS" = some (some (.int 24 tI)))
    (aC : PySem.W.nsIn K mainGlobals "Book" = some (some (.ref C)))
    (iC : PySem.W.findIn K (.ref C) "__init__" = some (some (.ref fI)))
    (fI_ : PySem.W.isFn K (.ref fI) = true)
    (lI : K.lookup fI = some ⟨ocI, odI, .func (PySem.W.fnOf "__init__" "Book.__init__" (defArgs s_Book_init) (defBody s_Book_init) (defScope s_Book_init) (.ref aT) kVI dcI pmI anI cdI ctI), slI⟩)
    (cI : PySem.W.codeIn K cdI "Book.__init__" = true)
    (kI : PySem.W.keepIn K (.ref fI) = true)
    (lT : K.lookup aT = some ⟨ocT, odT, .seq [.ref d1, .ref d2, .ref d3, .ref d4].toArray nT, slT⟩)
    (ld1 : K.lookup d1 = some ⟨.type "tuple", o1, .seq #[] n1, s1⟩)
    (ld2 : K.lookup d2 = some ⟨.type "tuple", o2, .seq #[] n2, s2⟩)
    (ld3 : K.lookup d3 = some ⟨.type "tuple", o3, .seq #[] n3, s3⟩)
    (ld4 : K.lookup d4 = some ⟨.type "tuple", o4, .seq #[] n4, s4⟩)
    (pg : PySem.W.plainGet K C Str.empty = true)
    (hd : PySem.W.hasDictIn K C = true)
    (po : PySem.W.plainOver K C = true)
    (sa : PySem.W.findIn K (.ref C) "__setattr__" = some (some (.builtin "object.__setattr__")))
    (mkC : PySem.W.makesIn K C = true)
    (kC : PySem.W.keepIn K (.ref C) = true)
    (nf0 : PySem.W.findIn K (.ref C) "_events" = some none)
    (nf1 : PySem.W.findIn K (.ref C) "_witnesses" = some none)
    (nf2 : PySem.W.findIn K (.ref C) "_tellings" = some none)
    (nf3 : PySem.W.findIn K (.ref C) "_gaps" = some none)
    (nf4 : PySem.W.findIn K (.ref C) "_sure" = some none)
    (nf5 : PySem.W.findIn K (.ref C) "_clauses" = some none)
    (oc1 : PySem.W.findIn K (.ref C) "__class__" = some (some (.builtin "object.__class__")))
    (oc2 : PySem.W.specialIn K (.builtin "object.__class__") "__get__" = some (some (.builtin "getset_descriptor.__get__")))
    (oc3 : PySem.W.takesIn K (.builtin "object.__class__") = some true)
    (oc4 : PySem.W.mroIn K C (.type "object") = some true)
    (kt0 : PySem.W.mroIn K C (.type "int") = some false)
    (kt1 : PySem.W.mroIn K C (.type "bool") = some false)
    (kt2 : PySem.W.mroIn K C (.type "str") = some false)
    (kt3 : PySem.W.mroIn K C (.type "tuple") = some false)
    (kt4 : PySem.W.mroIn K C (.type "list") = some false)
    (u1_events : PySem.W.findIn K (.ref C) "events" = some (some (.ref q_events)))
    (u2_events : PySem.W.specialIn K (.ref q_events) "__get__" = some (some (.builtin "property.__get__")))
    (u3_events : PySem.W.takesIn K (.ref q_events) = some true)
    (u4_events : PySem.W.recIn K q_events "property" = some (.ref g_events :: rs_events))
    (u5_events : K.lookup g_events = some ⟨ocg_events, odg_events, .func (PySem.W.fnOf "events" "Book.events" (defArgs s_Book_events) (defBody s_Book_events) (defScope s_Book_events) .none kVg_events dcg_events pmg_events ang_events cdg_events ctg_events), slg_events⟩)
    (u6_events : PySem.W.codeIn K cdg_events "Book.events" = true)
    (u7_events : PySem.W.keepIn K (.ref g_events) = true)
    (u1_witnesses : PySem.W.findIn K (.ref C) "witnesses" = some (some (.ref q_witnesses)))
    (u2_witnesses : PySem.W.specialIn K (.ref q_witnesses) "__get__" = some (some (.builtin "property.__get__")))
    (u3_witnesses : PySem.W.takesIn K (.ref q_witnesses) = some true)
    (u4_witnesses : PySem.W.recIn K q_witnesses "property" = some (.ref g_witnesses :: rs_witnesses))
    (u5_witnesses : K.lookup g_witnesses = some ⟨ocg_witnesses, odg_witnesses, .func (PySem.W.fnOf "witnesses" "Book.witnesses" (defArgs s_Book_witnesses) (defBody s_Book_witnesses) (defScope s_Book_witnesses) .none kVg_witnesses dcg_witnesses pmg_witnesses ang_witnesses cdg_witnesses ctg_witnesses), slg_witnesses⟩)
    (u6_witnesses : PySem.W.codeIn K cdg_witnesses "Book.witnesses" = true)
    (u7_witnesses : PySem.W.keepIn K (.ref g_witnesses) = true)
    (u1_tellings : PySem.W.findIn K (.ref C) "tellings" = some (some (.ref q_tellings)))
    (u2_tellings : PySem.W.specialIn K (.ref q_tellings) "__get__" = some (some (.builtin "property.__get__")))
    (u3_tellings : PySem.W.takesIn K (.ref q_tellings) = some true)
    (u4_tellings : PySem.W.recIn K q_tellings "property" = some (.ref g_tellings :: rs_tellings))
    (u5_tellings : K.lookup g_tellings = some ⟨ocg_tellings, odg_tellings, .func (PySem.W.fnOf "tellings" "Book.tellings" (defArgs s_Book_tellings) (defBody s_Book_tellings) (defScope s_Book_tellings) .none kVg_tellings dcg_tellings pmg_tellings ang_tellings cdg_tellings ctg_tellings), slg_tellings⟩)
    (u6_tellings : PySem.W.codeIn K cdg_tellings "Book.tellings" = true)
    (u7_tellings : PySem.W.keepIn K (.ref g_tellings) = true)
    (u1_gaps : PySem.W.findIn K (.ref C) "gaps" = some (some (.ref q_gaps)))
    (u2_gaps : PySem.W.specialIn K (.ref q_gaps) "__get__" = some (some (.builtin "property.__get__")))
    (u3_gaps : PySem.W.takesIn K (.ref q_gaps) = some true)
    (u4_gaps : PySem.W.recIn K q_gaps "property" = some (.ref g_gaps :: rs_gaps))
    (u5_gaps : K.lookup g_gaps = some ⟨ocg_gaps, odg_gaps, .func (PySem.W.fnOf "gaps" "Book.gaps" (defArgs s_Book_gaps) (defBody s_Book_gaps) (defScope s_Book_gaps) .none kVg_gaps dcg_gaps pmg_gaps ang_gaps cdg_gaps ctg_gaps), slg_gaps⟩)
    (u6_gaps : PySem.W.codeIn K cdg_gaps "Book.gaps" = true)
    (u7_gaps : PySem.W.keepIn K (.ref g_gaps) = true)
    (u1_sure : PySem.W.findIn K (.ref C) "sure" = some (some (.ref q_sure)))
    (u2_sure : PySem.W.specialIn K (.ref q_sure) "__get__" = some (some (.builtin "property.__get__")))
    (u3_sure : PySem.W.takesIn K (.ref q_sure) = some true)
    (u4_sure : PySem.W.recIn K q_sure "property" = some (.ref g_sure :: rs_sure))
    (u5_sure : K.lookup g_sure = some ⟨ocg_sure, odg_sure, .func (PySem.W.fnOf "sure" "Book.sure" (defArgs s_Book_sure) (defBody s_Book_sure) (defScope s_Book_sure) .none kVg_sure dcg_sure pmg_sure ang_sure cdg_sure ctg_sure), slg_sure⟩)
    (u6_sure : PySem.W.codeIn K cdg_sure "Book.sure" = true)
    (u7_sure : PySem.W.keepIn K (.ref g_sure) = true)
    (u1_clauses : PySem.W.findIn K (.ref C) "clauses" = some (some (.ref q_clauses)))
    (u2_clauses : PySem.W.specialIn K (.ref q_clauses) "__get__" = some (some (.builtin "property.__get__")))
    (u3_clauses : PySem.W.takesIn K (.ref q_clauses) = some true)
    (u4_clauses : PySem.W.recIn K q_clauses "property" = some (.ref g_clauses :: rs_clauses))
    (u5_clauses : K.lookup g_clauses = some ⟨ocg_clauses, odg_clauses, .func (PySem.W.fnOf "clauses" "Book.clauses" (defArgs s_Book_clauses) (defBody s_Book_clauses) (defScope s_Book_clauses) .none kVg_clauses dcg_clauses pmg_clauses ang_clauses cdg_clauses ctg_clauses), slg_clauses⟩)
    (u6_clauses : PySem.W.codeIn K cdg_clauses "Book.clauses" = true)
    (u7_clauses : PySem.W.keepIn K (.ref g_clauses) = true)
    (aN : PySem.W.nsIn K mainGlobals "NoFit" = some (some (.ref CN)))
    (aE : PySem.W.nsIn K mainGlobals "CaseError" = some (some (.ref CE)))
    (iN : PySem.W.findIn K (.ref CN) "__init__" = some (some (.ref fN)))
    (tN : PySem.W.typeIn K (.ref fN) = some (.type "function"))
    (lN : K.lookup fN = some ⟨ocN, odN, .func (PySem.W.fnOf "__init__" "NoFit.__init__" (defArgs s_NoFit_init) (defBody s_NoFit_init) (defScope s_NoFit_init) .none kVN dcN pmN anN cdN ctN), slN⟩)
    (cN : PySem.W.codeIn K cdN "NoFit.__init__" = true)
    (kN : PySem.W.keepIn K (.ref fN) = true)
    (xlN : K.lookup CN = some (excClassObj nmN qN CN NN bsN bmN true snN subN abN colN ddN k0N k1N k2N k3N k5N "ValueError.__new__"))
    (xvN : PySem.HandSPX.refsVE bmN = true)
    (xsN : PySem.W.findIn K (.ref CN) "__setattr__" = some (some (.builtin "object.__setattr__")))
    (xeN : PySem.W.subIn K (.ref CN) (.type "BaseException") = some true)
    (xtN : PySem.W.typeIn K (.ref CN) = some (.type "type"))
    (xkN : PySem.W.keepIn K (.ref CN) = true)
    (xgN : PySem.W.findIn K (.ref CN) "__getattribute__" = some (some (.builtin "BaseException.__getattribute__")))
    (xaN : PySem.W.findIn K (.ref CN) "__getattr__" = some none)
    (xhN : PySem.W.hasDictIn K CN = true)
    (xcN : PySem.W.findIn K (.ref CN) "__class__" = some (some (.builtin "object.__class__")))
    (xoN : PySem.W.mroIn K CN (.type "object") = some true)
    (xrN : PySem.W.findIn K (.ref CN) "reason" = some none)
    (yeE : PySem.W.subIn K (.ref CE) (.type "BaseException") = some true)
    (yiE : PySem.W.isClsIn K CE = true)
    (ytE : PySem.W.typeIn K (.ref CE) = some (.type "type"))
    (ysE : PySem.W.subIn K (.ref CN) (.ref CE) = some true) :
    ∃ fd : FuncData, (∀ (s : Shared) (v : Value), BindsTo s fd ⟨[v], []⟩ [("_law_script", v)]) ∧ ∀ base : Heap, K.In base → base.Ns mainGlobals mg → FnG P w K mg base CX0 10 fa fd ["_law_script"] (spLaw K) := by
  have e := hfa.symm.trans (PySem.W.mg_of X G a_law)
  cases e
  have F_is_integer := fun_mk (st := s_is_integer) l_is_integer c_is_integer k_is_integer
  have b_is_integer := F_is_integer.binds (ps := ["thing"]) fun _ _ _ _ _ _ us hl => match us, hl with | [_], _ => rfl
  have F_is_number := fun_mk (st := s_is_number) l_is_number c_is_number k_is_number
  have b_is_number := F_is_number.binds (ps := ["thing"]) fun _ _ _ _ _ _ us hl => match us, hl with | [_], _ => rfl
  have F_is_kind := fun_mk (st := s_is_kind) l_is_kind c_is_kind k_is_kind
  have b_is_kind := F_is_kind.binds (ps := ["thing"]) fun _ _ _ _ _ _ us hl => match us, hl with | [_], _ => rfl
  have F_is_tuple := fun_mk (st := s_is_tuple) l_is_tuple c_is_tuple k_is_tuple
  have b_is_tuple := F_is_tuple.binds (ps := ["thing", "many"]) fun _ _ _ _ _ _ us hl => match us, hl with | [_, _], _ => rfl
  have F_is_below := fun_mk (st := s_is_below) l_is_below c_is_below k_is_below
  have b_is_below := F_is_below.binds (ps := ["thing", "many"]) fun _ _ _ _ _ _ us hl => match us, hl with | [_, _], _ => rfl
  have F_is_side := fun_mk (st := s_is_side) l_is_side c_is_side k_is_side
  have b_is_side := F_is_side.binds (ps := ["thing"]) fun _ _ _ _ _ _ us hl => match us, hl with | [_], _ => rfl
  have F__can_stand := fun_mk (st := s__can_stand) l__can_stand c__can_stand k__can_stand
  have b__can_stand := F__can_stand.binds (ps := ["word", "values", "place", "events", "witnesses"]) fun _ _ _ _ _ _ us hl => match us, hl with | [_, _, _, _, _], _ => rfl
  have F_first_wrong := fun_mk (st := s_first_wrong) l_first_wrong c_first_wrong k_first_wrong
  have b_first_wrong := F_first_wrong.binds (ps := ["part", "values", "events", "witnesses"]) fun _ _ _ _ _ _ us hl => match us, hl with | [_, _, _, _], _ => rfl
  have F_is_item := fun_mk (st := s_is_item) l_is_item c_is_item k_is_item
  have b_is_item := F_is_item.binds (ps := ["part", "thing", "events", "witnesses"]) fun _ _ _ _ _ _ us hl => match us, hl with | [_, _, _, _], _ => rfl
  have F__check_arguments := fun_mk (st := s__check_arguments) l__check_arguments c__check_arguments k__check_arguments
  have b__check_arguments := F__check_arguments.binds (ps := ["events", "witnesses", "parts"]) fun _ _ _ _ _ _ us hl => match us, hl with | [_, _, _], _ => rfl
  have F__check_items := fun_mk (st := s__check_items) l__check_items c__check_items k__check_items
  have b__check_items := F__check_items.binds (ps := ["place", "part", "items", "events", "witnesses"]) fun _ _ _ _ _ _ us hl => match us, hl with | [_, _, _, _, _], _ => rfl
  have F_bag := fun_mk (st := s_bag) l_bag c_bag k_bag
  have b_bag := F_bag.binds (ps := ["_law_script"]) fun _ _ _ _ _ _ us hl => match us, hl with | [_], _ => rfl
  have F_take := fun_mk (st := s_take) l_take c_take k_take
  have b_take := F_take.binds (ps := ["_law_bag_here", "_law_many"]) fun _ _ _ _ _ _ us hl => match us, hl with | [_, _], _ => rfl
  have F_one := fun_mk (st := s_one) l_one c_one k_one
  have b_one := F_one.binds (ps := ["_law_bag_here", "_law_menu"]) fun _ _ _ _ _ _ us hl => match us, hl with | [_, _], _ => rfl
  have F_number := fun_mk (st := s_number) l_number c_number k_number
  have b_number := F_number.binds (ps := ["_law_bag_here"]) fun _ _ _ _ _ _ us hl => match us, hl with | [_], _ => rfl
  have F_kind := fun_mk (st := s_kind) l_kind c_kind k_kind
  have b_kind := F_kind.binds (ps := ["_law_bag_here"]) fun _ _ _ _ _ _ us hl => match us, hl with | [_], _ => rfl
  have F_parts := fun_mk (st := s_parts) l_parts c_parts k_parts
  have b_parts := F_parts.binds (ps := ["_law_bag_here", "_law_events", "_law_witnesses", "_law_most"]) fun _ _ _ _ _ _ us hl => match us, hl with | [_, _, _, _], _ => rfl
  have F__with_one_gap_more := fun_mk (st := s__with_one_gap_more) l__with_one_gap_more c__with_one_gap_more k__with_one_gap_more
  have b__with_one_gap_more := F__with_one_gap_more.binds (ps := ["gaps", "best"]) fun _ _ _ _ _ _ us hl => match us, hl with | [_, _], _ => rfl
  have F__best_ways := fun_mk (st := s__best_ways) l__best_ways c__best_ways k__best_ways
  have b__best_ways := F__best_ways.binds (ps := ["book", "start"]) fun _ _ _ _ _ _ us hl => match us, hl with | [_, _], _ => rfl
  have F_all_ways := fun_mk (st := s_all_ways) l_all_ways c_all_ways k_all_ways
  have b_all_ways := F_all_ways.binds (ps := ["book"]) fun _ _ _ _ _ _ us hl => match us, hl with | [_], _ => rfl
  have F_ring_in := fun_mk (st := s_ring_in) l_ring_in c_ring_in k_ring_in
  have b_ring_in := F_ring_in.binds (ps := ["ways"]) fun _ _ _ _ _ _ us hl => match us, hl with | [_], _ => rfl
  have F_ring := fun_mk (st := s_ring) l_ring c_ring k_ring
  have b_ring := F_ring.binds (ps := ["book"]) fun _ _ _ _ _ _ us hl => match us, hl with | [_], _ => rfl
  have F_sure_ways := fun_mk (st := s_sure_ways) l_sure_ways c_sure_ways k_sure_ways
  have b_sure_ways := F_sure_ways.binds (ps := ["book"]) fun _ _ _ _ _ _ us hl => match us, hl with | [_], _ => rfl
  have F_way := fun_mk (st := s_way) l_way c_way k_way
  have b_way := F_way.binds (ps := ["book", "a", "b"]) fun _ _ _ _ _ _ us hl => match us, hl with | [_, _, _], _ => rfl
  have F_l_is_way := fun_mk (st := s_l_is_way) l_l_is_way c_l_is_way k_l_is_way
  have b_l_is_way := F_l_is_way.binds (ps := ["_law_gaps_here", "_law_a", "_law_b", "_law_thing"]) fun _ _ _ _ _ _ us hl => match us, hl with | [_, _, _, _], _ => rfl
  have F_sums := fun_mk (st := s_sums) l_sums c_sums k_sums
  have b_sums := F_sums.binds (ps := ["_law_events", "_law_edges"]) fun _ _ _ _ _ _ us hl => match us, hl with | [_, _], _ => rfl
  have F_ring_right := fun_mk (st := s_ring_right) l_ring_right c_ring_right k_ring_right
  have b_ring_right := F_ring_right.binds (ps := ["_law_gaps_here", "_law_thing"]) fun _ _ _ _ _ _ us hl => match us, hl with | [_, _], _ => rfl
  have F_gaps := fun_mk (st := s_gaps) l_gaps c_gaps k_gaps
  have b_gaps := F_gaps.binds (ps := ["_law_bag_here", "_law_events", "_law_parts_here"]) fun _ _ _ _ _ _ us hl => match us, hl with | [_, _, _], _ => rfl
  have F_refused := fun_mk (st := s_refused) l_refused c_refused k_refused
  have b_refused := F_refused.binds (ps := ["_law_book", "_law_gaps_here", "_law_a", "_law_b"]) fun _ _ _ _ _ _ us hl => match us, hl with | [_, _, _, _], _ => rfl
  have F_law := fun_mk (st := s_law) l_law c_law k_law
  have b_law := F_law.binds (ps := ["_law_script"]) fun _ _ _ _ _ _ us hl => match us, hl with | [_], _ => rfl
  have B : Bi mg := ⟨PySem.W.mg_none_of X G z_len, PySem.W.mg_none_of X G z_isinstance, PySem.W.mg_none_of X G z_int, PySem.W.mg_none_of X G z_bool, PySem.W.mg_none_of X G z_str, PySem.W.mg_none_of X G z_list, PySem.W.mg_none_of X G z_tuple, PySem.W.mg_none_of X G z_range, PySem.W.mg_none_of X G z_enumerate, PySem.W.mg_none_of X G z_zip, PySem.W.mg_none_of X G z_abs, PySem.W.mg_none_of X G z_repr, PySem.W.mg_none_of X G z_min, PySem.W.mg_none_of X G z_max, PySem.W.mg_none_of X G z_sum, PySem.W.mg_none_of X G z_all⟩
  have Tl : Tb mg := ⟨B⟩
  have Tw : Wo K mg := ⟨B, ⟨_, PySem.W.mg_of X G gGN, ⟨_, rfl⟩⟩⟩
  have Ti : It4 K w mg aForms aParts := ⟨B, PySem.W.mg_of X G gForms, PySem.W.mg_of X G gParts, fun p => match p with
    | .tel => ⟨a_tel, ⟨_, _, _, lForms, kForms, ntel, rfl⟩, fun H => .inr ⟨_, _, _, ltel, rfl, rfl, by show 3 ≤ sizeLine; decide, .cons ⟨_, rfl⟩ (.cons ⟨_, rfl⟩ (.cons ⟨_, rfl⟩ (.nil)))⟩⟩
    | .gap => ⟨a_gap, ⟨_, _, _, lForms, kForms, ngap, rfl⟩, fun H => .inr ⟨_, _, _, lgap, rfl, rfl, by show 3 ≤ sizeLine; decide, .cons ⟨_, rfl⟩ (.cons ⟨_, rfl⟩ (.cons ⟨_, rfl⟩ (.nil)))⟩⟩
    | .sur => ⟨a_sur, ⟨_, _, _, lForms, kForms, nsur, rfl⟩, fun H => .inr ⟨_, _, _, lsur, rfl, rfl, by show 3 ≤ sizeLine; decide, .cons ⟨_, rfl⟩ (.cons ⟨_, rfl⟩ (.cons ⟨_, rfl⟩ (.nil)))⟩⟩
    | .cla => ⟨a_cla, ⟨_, _, _, lForms, kForms, ncla, rfl⟩, fun H => .inr ⟨_, _, _, lcla, rfl, rfl, by show 4 ≤ sizeLine; decide, .cons ⟨_, rfl⟩ (.cons ⟨_, rfl⟩ (.cons ⟨_, rfl⟩ (.cons ⟨_, rfl⟩ (.nil))))⟩⟩,
    fun H => .inr ⟨_, _, _, lParts, rfl, rfl, by show 4 ≤ sizeLine; decide, .cons ⟨_, rfl⟩ (.cons ⟨_, rfl⟩ (.cons ⟨_, rfl⟩ (.cons ⟨_, rfl⟩ .nil)))⟩⟩
  have Tbo : BoT K w mg aForms aParts := { toIt4 := Ti, toBo := ⟨⟨_, PySem.W.mg_of X G gtE, ⟨_, rfl⟩⟩, ⟨_, PySem.W.mg_of X G gtW, ⟨_, rfl⟩⟩, ⟨_, PySem.W.mg_of X G gtI, ⟨_, rfl⟩⟩⟩ }
  have Bk : BkC K C := ⟨⟨⟨pg, hd, po, sa⟩, oc1, oc2, oc3, oc4, own_kit rfl kt0, own_kit rfl kt1, own_kit rfl kt2, own_kit rfl kt3, own_kit rfl kt4⟩, nf0, nf1, nf2, nf3, nf4, nf5⟩
  have F_init : FunD K "__init__" "Book.__init__" (defArgs s_Book_init) (defBody s_Book_init) (defScope s_Book_init) [.ref d1, .ref d2, .ref d3, .ref d4] [] fI _ := ⟨⟨_, _, _, _, _, _, _, _, _, _, rfl, lI, cI, .inr ⟨(fun z => nomatch z), _, _, _, _, rfl, lT, rfl, .cons rfl (.cons rfl (.cons rfl (.cons rfl .nil)))⟩, .inl rfl⟩, kI⟩
  obtain ⟨ds, v2, b2⟩ := F_init.binds1 (ps := psBook) 3 0 (fun z => nomatch z) rfl fun T kV doc pm an cdv ct us its h1 h2 => match us, its, h1, h2 with | [_, _, _], [_, _, _, _], _, _ => ⟨_, rfl, rfl⟩
  obtain ⟨ds4, v4, b4⟩ := F_init.binds1 (ps := psBook) 5 2 (fun z => nomatch z) rfl fun T kV doc pm an cdv ct us its h1 h2 => match us, its, h1, h2 with | [_, _, _, _, _], [_, _, _, _], _, _ => ⟨_, rfl, rfl⟩
  obtain ⟨ds3, v3, b3⟩ := F_init.binds1 (ps := psBook) 4 1 (fun z => nomatch z) rfl fun T kV doc pm an cdv ct us its h1 h2 => match us, its, h1, h2 with | [_, _, _, _], [_, _, _, _], _, _ => ⟨_, rfl, rfl⟩
  obtain ⟨ds0, v0, b0⟩ := F_init.binds1 (ps := psBook) 7 4 (fun z => nomatch z) rfl fun T kV doc pm an cdv ct us its h1 h2 => match us, its, h1, h2 with | [_, _, _, _, _, _, _], [_, _, _, _], _, _ => ⟨_, rfl, rfl⟩
  have e0 : ds0 = [] := by cases v0; rfl
  subst e0
  have F_g_events := fun_mk (st := s_Book_events) u5_events u6_events u7_events
  have b_g_events := F_g_events.binds (ps := ["self"]) fun _ _ _ _ _ _ us hl => match us, hl with | [_], _ => rfl
  have F_g_witnesses := fun_mk (st := s_Book_witnesses) u5_witnesses u6_witnesses u7_witnesses
  have b_g_witnesses := F_g_witnesses.binds (ps := ["self"]) fun _ _ _ _ _ _ us hl => match us, hl with | [_], _ => rfl
  have F_g_tellings := fun_mk (st := s_Book_tellings) u5_tellings u6_tellings u7_tellings
  have b_g_tellings := F_g_tellings.binds (ps := ["self"]) fun _ _ _ _ _ _ us hl => match us, hl with | [_], _ => rfl
  have F_g_gaps := fun_mk (st := s_Book_gaps) u5_gaps u6_gaps u7_gaps
  have b_g_gaps := F_g_gaps.binds (ps := ["self"]) fun _ _ _ _ _ _ us hl => match us, hl with | [_], _ => rfl
  have F_g_sure := fun_mk (st := s_Book_sure) u5_sure u6_sure u7_sure
  have b_g_sure := F_g_sure.binds (ps := ["self"]) fun _ _ _ _ _ _ us hl => match us, hl with | [_], _ => rfl
  have F_g_clauses := fun_mk (st := s_Book_clauses) u5_clauses u6_clauses u7_clauses
  have b_g_clauses := F_g_clauses.binds (ps := ["self"]) fun _ _ _ _ _ _ us hl => match us, hl with | [_], _ => rfl
  have F_NF := fun_mk (st := s_NoFit_init) lN cN kN
  have b_NF := F_NF.binds (ps := ["self", "reason"]) fun _ _ _ _ _ _ us hl => match us, hl with | [_, _], _ => rfl
  have ON : OexC K CN := ⟨⟨_, _, _, _, _, _, _, _, _, _, _, _, _, _, _, xlN, xvN⟩, xsN, xeN, xtN, xkN⟩
  have xmN := exm_of yeE yiE ytE ysE
  have XCN : ExcC K CN := ⟨xgN, xaN, xeN, xhN, xcN, oc2, oc3, xoN⟩
  have XFN : XfC K CN := ⟨xgN, xaN, xeN, xhN⟩
  refine ⟨PySem.W.fnOf "law" "law" (defArgs s_law) (defBody s_law) (defScope s_law) .none kV_law dc_law pm_law an_law cd_law ct_law, fun s v => .of_eq rfl, fun base _ _ => ?_⟩
  have EN : ErrG P w K mg base "NoFit" CN ["self", "reason"] (spErr1 CN "reason") := ⟨⟨_, _, iN, tN, ok_NoFit F_NF ON xrN, b_NF⟩, ON, PySem.W.mg_of X G aN⟩
  have p_events : PrpG P w K mg base C "events" "_events" := ⟨⟨_, _, _, ⟨u1_events, u2_events, u3_events, ⟨_, u4_events⟩⟩, ok_get_events F_g_events Bk, b_g_events⟩, Bk.own.cl⟩
  have p_witnesses : PrpG P w K mg base C "witnesses" "_witnesses" := ⟨⟨_, _, _, ⟨u1_witnesses, u2_witnesses, u3_witnesses, ⟨_, u4_witnesses⟩⟩, ok_get_witnesses F_g_witnesses Bk, b_g_witnesses⟩, Bk.own.cl⟩
  have p_tellings : PrpG P w K mg base C "tellings" "_tellings" := ⟨⟨_, _, _, ⟨u1_tellings, u2_tellings, u3_tellings, ⟨_, u4_tellings⟩⟩, ok_get_tellings F_g_tellings Bk, b_g_tellings⟩, Bk.own.cl⟩
  have p_gaps : PrpG P w K mg base C "gaps" "_gaps" := ⟨⟨_, _, _, ⟨u1_gaps, u2_gaps, u3_gaps, ⟨_, u4_gaps⟩⟩, ok_get_gaps F_g_gaps Bk, b_g_gaps⟩, Bk.own.cl⟩
  have p_sure : PrpG P w K mg base C "sure" "_sure" := ⟨⟨_, _, _, ⟨u1_sure, u2_sure, u3_sure, ⟨_, u4_sure⟩⟩, ok_get_sure F_g_sure Bk, b_g_sure⟩, Bk.own.cl⟩
  have p_clauses : PrpG P w K mg base C "clauses" "_clauses" := ⟨⟨_, _, _, ⟨u1_clauses, u2_clauses, u3_clauses, ⟨_, u4_clauses⟩⟩, ok_get_clauses F_g_clauses Bk, b_g_clauses⟩, Bk.own.cl⟩
  have h_is_integer : Cal P w K mg base CX0 1 "is_integer" ["thing"] (spB intB K) := ⟨_, _, PySem.W.mg_of X G a_is_integer, k_is_integer, b_is_integer, ok_is_integer F_is_integer Tw⟩
  have h_is_number : Cal P w K mg base CX0 2 "is_number" ["thing"] (spB numB K) := ⟨_, _, PySem.W.mg_of X G a_is_number, k_is_number, b_is_number, ok_is_number F_is_number Tw h_is_integer⟩
  have h_is_kind : Cal P w K mg base CX0 1 "is_kind" ["thing"] (spB kindB K) := ⟨_, _, PySem.W.mg_of X G a_is_kind, k_is_kind, b_is_kind, ok_is_kind F_is_kind Tw⟩
  have h_is_tuple : Cal P w K mg base CX0 1 "is_tuple" ["thing", "many"] (spTu K) := ⟨_, _, PySem.W.mg_of X G a_is_tuple, k_is_tuple, b_is_tuple, ok_is_tuple F_is_tuple Tw⟩
  have h_is_below : Cal P w K mg base CX0 2 "is_below" ["thing", "many"] (spBelow K) := ⟨_, _, PySem.W.mg_of X G a_is_below, k_is_below, b_is_below, ok_is_below F_is_below h_is_integer⟩
  have h_is_side : Cal P w K mg base CX0 1 "is_side" ["thing"] (spB sideB K) := ⟨_, _, PySem.W.mg_of X G a_is_side, k_is_side, b_is_side, ok_is_side F_is_side Tbo.toIt4⟩
  have h__can_stand : Cal P w K mg base CX0 3 "_can_stand" ["word", "values", "place", "events", "witnesses"] (spCan K) := ⟨_, _, PySem.W.mg_of X G a__can_stand, k__can_stand, b__can_stand, ok_can_stand F__can_stand h_is_below h_is_side h_is_kind h_is_number⟩
  have h_first_wrong : Cal P w K mg base CX0 4 "first_wrong" ["part", "values", "events", "witnesses"] (spFw K) := ⟨_, _, PySem.W.mg_of X G a_first_wrong, k_first_wrong, b_first_wrong, ok_first_wrong F_first_wrong Tbo.toIt4 h__can_stand⟩
  have h_is_item : Cal P w K mg base CX0 5 "is_item" ["part", "thing", "events", "witnesses"] (spItem K) := ⟨_, _, PySem.W.mg_of X G a_is_item, k_is_item, b_is_item, ok_is_item F_is_item Tbo.toIt4 h_is_tuple h_first_wrong⟩
  have h__check_arguments : Cal P w K mg base CX0 3 "_check_arguments" ["events", "witnesses", "parts"] (spCa K) := ⟨_, _, PySem.W.mg_of X G a__check_arguments, k__check_arguments, b__check_arguments, ok_check_arguments F__check_arguments Tbo h_is_below⟩
  have h__check_items : Cal P w K mg base CX0 6 "_check_items" ["place", "part", "items", "events", "witnesses"] (spCi K) := ⟨_, _, PySem.W.mg_of X G a__check_items, k__check_items, b__check_items, ok_check_items F__check_items Tbo h_is_item⟩
  have c_Book : BookG P w K mg base C ⟨fI, _, d1, d2, d3, d4, ds, ds4, ds3⟩ := ⟨⟨mkC, iC, fI_, kC⟩, ok_init F_init Tbo Bk h__check_arguments h__check_items, b0, v2, b2, v4, b4, v3, b3, fun H => ⟨.inr ⟨_, _, _, ld1, rfl, rfl, by show 0 ≤ sizeLine; decide, .nil⟩, .inr ⟨_, _, _, ld2, rfl, rfl, by show 0 ≤ sizeLine; decide, .nil⟩, .inr ⟨_, _, _, ld3, rfl, rfl, by show 0 ≤ sizeLine; decide, .nil⟩, .inr ⟨_, _, _, ld4, rfl, rfl, by show 0 ≤ sizeLine; decide, .nil⟩⟩, PySem.W.mg_of X G aC, Bk⟩
  have h_bag : Cal P w K mg base CX0 1 "_law_bag" ["_law_script"] (spBag K) := ⟨_, _, PySem.W.mg_of X G a_bag, k_bag, b_bag, ok_bag F_bag Tl⟩
  have h_take : Cal P w K mg base CX0 1 "_law_take" ["_law_bag_here", "_law_many"] spTake := ⟨_, _, PySem.W.mg_of X G a_take, k_take, b_take, ok_take F_take Tl⟩
  have h_one : Cal P w K mg base CX0 2 "_law_one" ["_law_bag_here", "_law_menu"] (spOne K) := ⟨_, _, PySem.W.mg_of X G a_one, k_one, b_one, ok_one F_one Tl h_take⟩
  have h_number : Cal P w K mg base CX0 2 "_law_number" ["_law_bag_here"] spNum := ⟨_, _, PySem.W.mg_of X G a_number, k_number, b_number, ok_number F_number Tl h_take⟩
  have h_kind : Cal P w K mg base CX0 2 "_law_kind" ["_law_bag_here"] spKnd := ⟨_, _, PySem.W.mg_of X G a_kind, k_kind, b_kind, ok_kind F_kind Tl h_take⟩
  have h_parts : Cal P w K mg base CX0 3 "_law_parts" ["_law_bag_here", "_law_events", "_law_witnesses", "_law_most"] spParts := ⟨_, _, PySem.W.mg_of X G a_parts, k_parts, b_parts, ok_parts F_parts Tl h_take h_number h_kind⟩
  have h__with_one_gap_more : Cal P w K mg base CX0 1 "_with_one_gap_more" ["gaps", "best"] (spMore K) := ⟨_, _, PySem.W.mg_of X G a__with_one_gap_more, k__with_one_gap_more, b__with_one_gap_more, ok_more F__with_one_gap_more Tl⟩
  have h__best_ways : Cal P w K mg base CX0 3 "_best_ways" ["book", "start"] (spBest K C) := ⟨_, _, PySem.W.mg_of X G a__best_ways, k__best_ways, b__best_ways, ok_best_ways F__best_ways Tl p_events p_gaps h__with_one_gap_more⟩
  have h_all_ways : Cal P w K mg base CX0 4 "all_ways" ["book"] (spAll K C) := ⟨_, _, PySem.W.mg_of X G a_all_ways, k_all_ways, b_all_ways, ok_all_ways F_all_ways Tl p_events h__best_ways⟩
  have h_ring_in : Cal P w K mg base CX0 1 "ring_in" ["ways"] (spRingIn K) := ⟨_, _, PySem.W.mg_of X G a_ring_in, k_ring_in, b_ring_in, ok_ring_in F_ring_in Tl⟩
  have h_ring : Cal P w K mg base CX0 5 "ring" ["book"] (spRing K C) := ⟨_, _, PySem.W.mg_of X G a_ring, k_ring, b_ring, ok_ring F_ring Tl h_ring_in h_all_ways⟩
  have h_sure_ways : Cal P w K mg base (L2N.CX P w) 5 "sure_ways" ["book"] (spSure K C CN) := ⟨_, _, PySem.W.mg_of X G a_sure_ways, k_sure_ways, b_sure_ways, ok_sure_waysN F_sure_ways Tl h_all_ways h_ring_in EN⟩
  have h_way : Cal P w K mg base (L2N.CX P w) 6 "way" ["book", "a", "b"] (spWayF K C CN) := ⟨_, _, PySem.W.mg_of X G a_way, k_way, b_way, ok_wayN F_way Tl h_sure_ways⟩
  have h_l_is_way : Cal P w K mg base CX0 1 "_law_is_way" ["_law_gaps_here", "_law_a", "_law_b", "_law_thing"] (spWayL K) := ⟨_, _, PySem.W.mg_of X G a_l_is_way, k_l_is_way, b_l_is_way, ok_l_is_way F_l_is_way Tl⟩
  have h_sums : Cal P w K mg base CX0 1 "_law_sums" ["_law_events", "_law_edges"] (spSums K) := ⟨_, _, PySem.W.mg_of X G a_sums, k_sums, b_sums, ok_sums F_sums Tl⟩
  have h_ring_right : Cal P w K mg base CX0 2 "_law_ring_right" ["_law_gaps_here", "_law_thing"] (spRR K) := ⟨_, _, PySem.W.mg_of X G a_ring_right, k_ring_right, b_ring_right, ok_ring_right F_ring_right Tl h_l_is_way⟩
  have h_gaps : Cal P w K mg base CX0 3 "_law_gaps" ["_law_bag_here", "_law_events", "_law_parts_here"] (spGapsL K) := ⟨_, _, PySem.W.mg_of X G a_gaps, k_gaps, b_gaps, ok_gaps F_gaps Tl h_take h_one⟩
  have qH_l_is_way : CalH P w K mg base 1 "_law_is_way" ["_law_gaps_here", "_law_a", "_law_b", "_law_thing"] (spWayL K) := ⟨_, _, PySem.W.mg_of X G a_l_is_way, k_l_is_way, b_l_is_way, ok_l_is_wayH F_l_is_way Tl⟩
  have qH_ring_right : CalH P w K mg base 2 "_law_ring_right" ["_law_gaps_here", "_law_thing"] (spRR K) := ⟨_, _, PySem.W.mg_of X G a_ring_right, k_ring_right, b_ring_right, ok_ring_rightH F_ring_right Tl qH_l_is_way⟩
  have h_refused : Cal P w K mg base CX0 7 "_law_refused" ["_law_book", "_law_gaps_here", "_law_a", "_law_b"] (spRefused K C) := ⟨_, _, PySem.W.mg_of X G a_refused, k_refused, b_refused, ok_refused F_refused Tl h_way qH_ring_right (PySem.W.mg_of X G aE) (PySem.W.mg_of X G aN) xmN XCN XFN xrN (kit_self _)⟩
  exact ok_law F_law Tl h_bag h_take h_one h_parts h_gaps h_sums h_ring h_way h_ring_right h_refused h_l_is_way c_Book
end EL

open PySem PySem.W PyProof.Rows
set_option maxRecDepth 100000 in
set_option maxHeartbeats 0 in
theorem PySem.Challenge.cw_earlyorlate_k22_ways_with_the_greatest_s_holds : PySem.Challenge.rw_earlyorlate_k22_ways_with_the_greatest_s.Holds := by
  w_on; o_law; k_head; (case hw => w_witness2)
  k_fill
  refine EL.walk_all (l := PySem.Challenge.rw_earlyorlate_k22_ways_with_the_greatest_s) (k := 10) rfl rfl ⟨rfl, by decide, by decide⟩ (fun w h Y => PySem.W.kIn_of Y) ?F
  case F =>
    intro w mg fa h KX G hmg
    refine' EL.all_mk KX G hmg ?a_is_integer ?l_is_integer ?c_is_integer ?k_is_integer ?a_is_number ?l_is_number ?c_is_number ?k_is_number ?a_is_kind ?l_is_kind ?c_is_kind ?k_is_kind ?a_is_tuple ?l_is_tuple ?c_is_tuple ?k_is_tuple ?a_is_below ?l_is_below ?c_is_below ?k_is_below ?a_is_side ?l_is_side ?c_is_side ?k_is_side ?a__can_stand ?l__can_stand ?c__can_stand ?k__can_stand ?a_first_wrong ?l_first_wrong ?c_first_wrong ?k_first_wrong ?a_is_item ?l_is_item ?c_is_item ?k_is_item ?a__check_arguments ?l__check_arguments ?c__check_arguments ?k__check_arguments ?a__check_items ?l__check_items ?c__check_items ?k__check_items ?a_bag ?l_bag ?c_bag ?k_bag ?a_take ?l_take ?c_take ?k_take ?a_one ?l_one ?c_one ?k_one ?a_number ?l_number ?c_number ?k_number ?a_kind ?l_kind ?c_kind ?k_kind ?a_parts ?l_parts ?c_parts ?k_parts ?a__with_one_gap_more ?l__with_one_gap_more ?c__with_one_gap_more ?k__with_one_gap_more ?a__best_ways ?l__best_ways ?c__best_ways ?k__best_ways ?a_all_ways ?l_all_ways ?c_all_ways ?k_all_ways ?a_ring_in ?l_ring_in ?c_ring_in ?k_ring_in ?a_ring ?l_ring ?c_ring ?k_ring ?a_sure_ways ?l_sure_ways ?c_sure_ways ?k_sure_ways ?a_way ?l_way ?c_way ?k_way ?a_l_is_way ?l_l_is_way ?c_l_is_way ?k_l_is_way ?a_sums ?l_sums ?c_sums ?k_sums ?a_ring_right ?l_ring_right ?c_ring_right ?k_ring_right ?a_gaps ?l_gaps ?c_gaps ?k_gaps ?a_refused ?l_refused ?c_refused ?k_refused ?a_law ?l_law ?c_law ?k_law ?z_len ?z_isinstance ?z_int ?z_bool ?z_str ?z_list ?z_tuple ?z_range ?z_enumerate ?z_zip ?z_abs ?z_repr ?z_min ?z_max ?z_sum ?z_all ?gGN ?gForms ?lForms ?kForms ?ntel ?ltel ?ngap ?lgap ?nsur ?lsur ?ncla ?lcla ?gParts ?lParts ?gtE ?gtW ?gtI ?aC ?iC ?fI_ ?lI ?cI ?kI ?lT ?ld1 ?ld2 ?ld3 ?ld4 ?pg ?hd ?po ?sa ?mkC ?kC ?nf0 ?nf1 ?nf2 ?nf3 ?nf4 ?nf5 ?oc1 ?oc2 ?oc3 ?oc4 ?kt0 ?kt1 ?kt2 ?kt3 ?kt4 ?u1_events ?u2_events ?u3_events ?u4_events ?u5_events ?u6_events ?u7_events ?u1_witnesses ?u2_witnesses ?u3_witnesses ?u4_witnesses ?u5_witnesses ?u6_witnesses ?u7_witnesses ?u1_tellings ?u2_tellings ?u3_tellings ?u4_tellings ?u5_tellings ?u6_tellings ?u7_tellings ?u1_gaps ?u2_gaps ?u3_gaps ?u4_gaps ?u5_gaps ?u6_gaps ?u7_gaps ?u1_sure ?u2_sure ?u3_sure ?u4_sure ?u5_sure ?u6_sure ?u7_sure ?u1_clauses ?u2_clauses ?u3_clauses ?u4_clauses ?u5_clauses ?u6_clauses ?u7_clauses ?aN ?aE ?iN ?tN ?lN ?cN ?kN ?xlN ?xvN ?xsN ?xeN ?xtN ?xkN ?xgN ?xaN ?xhN ?xcN ?xoN ?xrN ?yeE ?yiE ?ytE ?ysE
    (case a_is_integer => k_is)
    (case l_is_integer => k_is)
    (case c_is_integer => k_is)
    (case k_is_integer => k_is)
    (case a_is_number => k_is)
    (case l_is_number => k_is)
    (case c_is_number => k_is)
    (case k_is_number => k_is)
    (case a_is_kind => k_is)
    (case l_is_kind => k_is)
    (case c_is_kind => k_is)
    (case k_is_kind => k_is)
    (case a_is_tuple => k_is)
    (case l_is_tuple => k_is)
    (case c_is_tuple => k_is)
    (case k_is_tuple => k_is)
    (case a_is_below => k_is)
    (case l_is_below => k_is)
    (case c_is_below => k_is)
    (case k_is_below => k_is)
    (case a_is_side => k_is)
    (case l_is_side => k_is)
    (case c_is_side => k_is)
    (case k_is_side => k_is)
    (case a__can_stand => k_is)
    (case l__can_stand => k_is)
    (case c__can_stand => k_is)
    (case k__can_stand => k_is)
    (case a_first_wrong => k_is)
    (case l_first_wrong => k_is)
    (case c_first_wrong => k_is)
    (case k_first_wrong => k_is)
    (case a_is_item => k_is)
    (case l_is_item => k_is)
    (case c_is_item => k_is)
    (case k_is_item => k_is)
    (case a__check_arguments => k_is)
    (case l__check_arguments => k_is)
    (case c__check_arguments => k_is)
    (case k__check_arguments => k_is)
    (case a__check_items => k_is)
    (case l__check_items => k_is)
    (case c__check_items => k_is)
    (case k__check_items => k_is)
    (case a_bag => k_is)
    (case l_bag => k_is)
    (case c_bag => k_is)
    (case k_bag => k_is)
    (case a_take => k_is)
    (case l_take => k_is)
    (case c_take => k_is)
    (case k_take => k_is)
    (case a_one => k_is)
    (case l_one => k_is)
    (case c_one => k_is)
    (case k_one => k_is)
    (case a_number => k_is)
    (case l_number => k_is)
    (case c_number => k_is)
    (case k_number => k_is)
    (case a_kind => k_is)
    (case l_kind => k_is)
    (case c_kind => k_is)
    (case k_kind => k_is)
    (case a_parts => k_is)
    (case l_parts => k_is)
    (case c_parts => k_is)
    (case k_parts => k_is)
    (case a__with_one_gap_more => k_is)
    (case l__with_one_gap_more => k_is)
    (case c__with_one_gap_more => k_is)
    (case k__with_one_gap_more => k_is)
    (case a__best_ways => k_is)
    (case l__best_ways => k_is)
    (case c__best_ways => k_is)
    (case k__best_ways => k_is)
    (case a_all_ways => k_is)
    (case l_all_ways => k_is)
    (case c_all_ways => k_is)
    (case k_all_ways => k_is)
    (case a_ring_in => k_is)
    (case l_ring_in => k_is)
    (case c_ring_in => k_is)
    (case k_ring_in => k_is)
    (case a_ring => k_is)
    (case l_ring => k_is)
    (case c_ring => k_is)
    (case k_ring => k_is)
    (case a_sure_ways => k_is)
    (case l_sure_ways => k_is)
    (case c_sure_ways => k_is)
    (case k_sure_ways => k_is)
    (case a_way => k_is)
    (case l_way => k_is)
    (case c_way => k_is)
    (case k_way => k_is)
    (case a_l_is_way => k_is)
    (case l_l_is_way => k_is)
    (case c_l_is_way => k_is)
    (case k_l_is_way => k_is)
    (case a_sums => k_is)
    (case l_sums => k_is)
    (case c_sums => k_is)
    (case k_sums => k_is)
    (case a_ring_right => k_is)
    (case l_ring_right => k_is)
    (case c_ring_right => k_is)
    (case k_ring_right => k_is)
    (case a_gaps => k_is)
    (case l_gaps => k_is)
    (case c_gaps => k_is)
    (case k_gaps => k_is)
    (case a_refused => k_is)
    (case l_refused => k_is)
    (case c_refused => k_is)
    (case k_refused => k_is)
    (case a_law => k_is)
    (case l_law => k_is)
    (case c_law => k_is)
    (case k_law => k_is)
    (case z_len => k_is)
    (case z_isinstance => k_is)
    (case z_int => k_is)
    (case z_bool => k_is)
    (case z_str => k_is)
    (case z_list => k_is)
    (case z_tuple => k_is)
    (case z_range => k_is)
    (case z_enumerate => k_is)
    (case z_zip => k_is)
    (case z_abs => k_is)
    (case z_repr => k_is)
    (case z_min => k_is)
    (case z_max => k_is)
    (case z_sum => k_is)
    (case z_all => k_is)
    (case gGN => k_is)
    (case gForms => k_is)
    (case lForms => k_is)
    (case kForms => exact ⟨⟨_, _, rfl, rfl⟩, ⟨_, _, rfl, rfl⟩, ⟨_, _, rfl, rfl⟩, ⟨_, _, rfl, rfl⟩, trivial⟩)
    (case ntel => k_is)
    (case ltel => k_is)
    (case ngap => k_is)
    (case lgap => k_is)
    (case nsur => k_is)
    (case lsur => k_is)
    (case ncla => k_is)
    (case lcla => k_is)
    (case gParts => k_is)
    (case lParts => k_is)
    (case gtE => k_is)
    (case gtW => k_is)
    (case gtI => k_is)
    (case aC => k_is)
    (case iC => k_is)
    (case fI_ => k_is)
    (case lI => k_is)
    (case cI => k_is)
    (case kI => k_is)
    (case lT => k_is)
    (case ld1 => k_is)
    (case ld2 => k_is)
    (case ld3 => k_is)
    (case ld4 => k_is)
    (case pg => k_is)
    (case hd => k_is)
    (case po => k_is)
    (case sa => k_is)
    (case mkC => k_is)
    (case kC => k_is)
    (case nf0 => k_is)
    (case nf1 => k_is)
    (case nf2 => k_is)
    (case nf3 => k_is)
    (case nf4 => k_is)
    (case nf5 => k_is)
    (case oc1 => k_is)
    (case oc2 => k_is)
    (case oc3 => k_is)
    (case oc4 => k_is)
    (case kt0 => k_is)
    (case kt1 => k_is)
    (case kt2 => k_is)
    (case kt3 => k_is)
    (case kt4 => k_is)
    (case u1_events => k_is)
    (case u2_events => k_is)
    (case u3_events => k_is)
    (case u4_events => k_is)
    (case u5_events => k_is)
    (case u6_events => k_is)
    (case u7_events => k_is)
    (case u1_witnesses => k_is)
    (case u2_witnesses => k_is)
    (case u3_witnesses => k_is)
    (case u4_witnesses => k_is)
    (case u5_witnesses => k_is)
    (case u6_witnesses => k_is)
    (case u7_witnesses => k_is)
    (case u1_tellings => k_is)
    (case u2_tellings => k_is)
    (case u3_tellings => k_is)
    (case u4_tellings => k_is)
    (case u5_tellings => k_is)
    (case u6_tellings => k_is)
    (case u7_tellings => k_is)
    (case u1_gaps => k_is)
    (case u2_gaps => k_is)
    (case u3_gaps => k_is)
    (case u4_gaps => k_is)
    (case u5_gaps => k_is)
    (case u6_gaps => k_is)
    (case u7_gaps => k_is)
    (case u1_sure => k_is)
    (case u2_sure => k_is)
    (case u3_sure => k_is)
    (case u4_sure => k_is)
    (case u5_sure => k_is)
    (case u6_sure => k_is)
    (case u7_sure => k_is)
    (case u1_clauses => k_is)
    (case u2_clauses => k_is)
    (case u3_clauses => k_is)
    (case u4_clauses => k_is)
    (case u5_clauses => k_is)
    (case u6_clauses => k_is)
    (case u7_clauses => k_is)
    (case aN => k_is)
    (case aE => k_is)
    (case iN => k_is)
    (case tN => k_is)
    (case lN => k_is)
    (case cN => k_is)
    (case kN => k_is)
    (case xlN => k_is)
    (case xvN => decide)
    (case xsN => k_is)
    (case xeN => k_is)
    (case xtN => k_is)
    (case xkN => k_is)
    (case xgN => k_is)
    (case xaN => k_is)
    (case xhN => k_is)
    (case xcN => k_is)
    (case xoN => k_is)
    (case xrN => k_is)
    (case yeE => k_is)
    (case yiE => k_is)
    (case ytE => k_is)
    (case ysE => k_is)
