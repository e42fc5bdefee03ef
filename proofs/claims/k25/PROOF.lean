import PyProof.Rows.All
import Wide.All
import OpenK.AllK
import Wide.FinOn
import HandS.ForMost
import HandS.ForExc
import HandS.More
import HandS.Flow
import HandS.Style
import HandS.IsInst
import HandS.Property
import HandS.OwnEq
import HandS.Evl
import KE.GoesEnum
import HandS.SortKw
import KE.GoesEnumKw
import HandS.Walk
import HandS.TupAny
import PySem.Challenge.RW_earlyorlate_k25_steps_judged
import HandS.Defaults
import HandS.Deep
set_option Elab.async false
set_option linter.all false
set_option maxRecDepth 100000
set_option maxHeartbeats 4000000
/- part P0 -/
/-! Early or late: own words over the hand layer. Part 0: defs that know that no repr is under way. -/
namespace EL
open PySem PySem.Spec PyProof.Rows L2
open PySem.W (Frag)

/-- no repr is under way around -/
abbrev Quiet (A : Around) : Prop := A.guards = some []

/-- a def's promise, for callers around which no repr is under way -/
structure FnG (P : Program) (w : World) (K : Frag) (mg : Str → Option Value) (base : Heap) (X : CXT) (k : Nat) (f : Addr) (fd : FuncData) (ps : List Str) (sp : Sp) : Prop where
  len : ∀ vs H Q E, sp vs H Q E → vs.length = ps.length
  run : ∀ (A : Around) (out : List Env) (s : Shared) (H : Hp) (args : Args) (us : List Value) (vs : List V) (Q : VK) (E : XK),
    Room k A → Quiet A → Env0 P w K mg base A out s H → BindsTo s fd args (ps.zip us) → Vals vs us → sp vs H Q E →
    codeAny (model P w) A (.call (.ref f) args) (CR X out P w H s Q E) s

theorem FnG.of {P : Program} {w : World} {K : Frag} {mg : Str → Option Value} {base : Heap} {X : CXT} {k : Nat} {f : Addr} {fd : FuncData} {ps : List Str} {sp : Sp}
    (F : FnOk P w K mg base X k f fd ps sp) : FnG P w K mg base X k f fd ps sp :=
  ⟨F.len, fun A out s H args us vs Q E hr _ he hb hv hs => F.run A out s H args us vs Q E hr he hb hv hs⟩

theorem FnG.up {P : Program} {w : World} {K : Frag} {mg : Str → Option Value} {base : Heap} {X : CXT} {j k : Nat} {f : Addr} {fd : FuncData} {ps : List Str} {sp : Sp}
    (F : FnG P w K mg base X j f fd ps sp) (h : j ≤ k) : FnG P w K mg base X k f fd ps sp :=
  ⟨F.len, fun A out s H args us vs Q E hr => F.run A out s H args us vs Q E (hr.mono h)⟩

/-- the end of a body, told to the caller -/
theorem ended {X : CXT} {P : Program} {w : World} {K : Frag} {mg : Str → Option Value} {base : Heap} {N : List Str} {qual : Str} {sc : Scope} {f : Addr} {cd : Value} {A : Around} {out : List Env}
    {s s' : Shared} {H H' : Hp} {E : XK} {Q : VK} {σ : L2.St} {v : V} {u : Value}
    (J : Inv (cxOf X P w K mg base N qual sc f cd A out s H E) [] σ H' s') (rv : RelV v u) (q : Q v H') : CE out P w H s Q u s' :=
  ⟨v, H', J.os, J.bare, J.base, J.hok, rv, q⟩

theorem fnG_of {X : CXT} {P : Program} {w : World} {K : Frag} {mg : Str → Option Value} {base : Heap} {k : Nat} {x qual : Str} {st : Stmt} {f : Addr} {fd : FuncData} {N ps : List Str} {sp : Sp}
    (F : Fun K x qual st f fd) (S : FnScope N ps (defScope st)) (len : ∀ vs H Q E, sp vs H Q E → vs.length = ps.length)
    (hbody : ∀ (cd : Value) (A : Around) (out : List Env) (s : Shared) (H : Hp) (vs : List V) (Q : VK) (E : XK), Room k (A.deeper (envOfC qual (defScope st) s.heap.objs.size f cd)) →
      Quiet (A.deeper (envOfC qual (defScope st) s.heap.objs.size f cd)) → sp vs H Q E →
      ∃ t, PSs (cxOf X P w K mg base N qual (defScope st) f cd A out s H E) (defBody st) t ∧ t { nx := fun _ H' => Q .non H', rt := Q } (start N vs) H) :
    FnG P w K mg base X (k + 1) f fd ps sp := by
  obtain ⟨oc, od, kV, doc, pm, an, cd, ct, osl, rfl, lk, hcd⟩ := F.ex
  constructor
  · exact len
  intro A out s H args us vs Q E hr hg e0 hb r hsp
  have old : ∀ b o, base.get? b = some o → s.heap.get? b = some o := fun b o e => (e0.bs b o e).1
  have KX := e0.mod.kin.keeps old
  have kinds : ∀ y ∈ ps.zip us, (defScope st).names.lookup y.1 = some .local ∨ ((defScope st).names.lookup y.1 = some .cell ∧ ((cellsFrom (s.heap.objs.size + 1) (defScope st).names []).lookup y.1).isSome = true) := by
    rintro ⟨n, v⟩ hy
    cases S.par n (List.of_mem_zip hy).1 with
    | inl q => exact .inl q
    | inr q => exact .inr ⟨q, PySem.W.cellsFrom_some _ _ _ (.inl q)⟩
  apply codeAny_call_function hr.depth (KX _ _ lk) rfl S.co S.gen rfl (PySem.W.codeRec_of KX hcd)
  apply hb
  apply wpAny_newFunctionEnv_cells S.kind kinds
  rintro env rfl s1 x
  refine ⟨(e0.mod.nolimit.keeps old).keeps x.toInCall.keep, codeAny_func ?_⟩
  obtain ⟨t, ht, hq⟩ := hbody cd A out s H vs Q E (hr.deeper _) hg hsp
  have I := inv_start (CX := X) (E := E) S hr.hd e0 (len _ _ _ _ hsp) r x
  refine wpAny_mono (ht.run [] s1 _ H _ I hq) ?_ (fun _ _ z => z)
  intro fl s' hs
  cases fl with
  | next =>
    obtain ⟨σ', H', J, q⟩ := hs
    exact ended (v := V.non) (u := Value.none) J rfl q
  | ret u =>
    obtain ⟨v, σ', H', J, rv, q⟩ := hs
    exact ended J rv q
  | brk => exact (let ⟨_, _, _, z⟩ := hs; False.elim z)
  | cont => exact (let ⟨_, _, _, z⟩ := hs; False.elim z)

/-- a def of the module by its name: where it stands, how its arguments bind, its promise -/
structure Cal (P : Program) (w : World) (K : Frag) (mg : Str → Option Value) (base : Heap) (CX : CXT) (k : Nat) (x : Str) (ps : List Str) (sp : Sp) : Prop where
  ex : ∃ f fd, mg x = some (.ref f) ∧ PySem.W.keepIn K (.ref f) = true ∧ Binds K fd ps [] ∧ FnOk P w K mg base CX k f fd ps sp
structure CalG (P : Program) (w : World) (K : Frag) (mg : Str → Option Value) (base : Heap) (CX : CXT) (k : Nat) (x : Str) (ps : List Str) (sp : Sp) : Prop where
  ex : ∃ f fd, mg x = some (.ref f) ∧ PySem.W.keepIn K (.ref f) = true ∧ Binds K fd ps [] ∧ FnG P w K mg base CX k f fd ps sp
theorem Cal.g {P : Program} {w : World} {K : Frag} {mg : Str → Option Value} {base : Heap} {CX : CXT} {k : Nat} {x : Str} {ps : List Str} {sp : Sp} (C : Cal P w K mg base CX k x ps sp) : CalG P w K mg base CX k x ps sp := by
  obtain ⟨f, fd, h1, h2, h3, h4⟩ := C.ex
  exact ⟨f, fd, h1, h2, h3, .of h4⟩
section
variable {X : Cx} {CX : CXT} {k : Nat} {x : Str} {ps : List Str} {sp : Sp} {E : XK} {p pos : Pos} {e : Expr} {es : List Expr} {t : TA}
theorem pe_cal (C : Cal X.prog X.w X.K X.mg X.base CX k x ps sp) (hr : Room k X.A) (hx : Passes CX X E) (ha : PA X (e :: es) t) (hg : Gl X x := by rfl) (hdb : (x == ("__debug__" : Str)) = false := by decide)
    (he : starEach (e :: es) X.env = (false, eval e X.env) :: starEach es X.env := by rfl) (hpl : (backTo pos (starEach es X.env)).any (·.1) = false := by rfl) :
    PE X (.Call (.Name x p) (e :: es) [] pos) (tCall sp [] E t) := by
  obtain ⟨f, fd, h1, h2, h3, h4⟩ := C.ex
  exact pe_call h4 hr hg h1 h2 h3 .nil hx ha hdb he hpl
theorem pe_cal0 (C : Cal X.prog X.w X.K X.mg X.base CX k x ps sp) (hr : Room k X.A) (hx : Passes CX X E) (hg : Gl X x := by rfl) (hdb : (x == ("__debug__" : Str)) = false := by decide) :
    PE X (.Call (.Name x p) [] [] pos) (tCall sp [] E tNil) := by
  obtain ⟨f, fd, h1, h2, h3, h4⟩ := C.ex
  exact pe_call0 h4 hr hg h1 h2 h3 .nil hx hdb
theorem run_calG {f : Addr} {fd : FuncData} {pins : List (Addr × Obj)} {σ : L2.St} {H : Hp} {s : Shared} {Q : VK} {us : List Value} {vs : List V} (F : FnG X.prog X.w X.K X.mg X.base CX k f fd ps sp) (hr : Room k X.A) (hq : Quiet X.A) (hb : Binds X.K fd ps [])
    (hx : Passes CX X E) (I : Inv X pins σ H s) (r : Vals vs us) (h : sp vs H Q E) : wpAny (model X.prog X.w) X.A (call (.ref f) us) (EP X pins σ Q) X.xe s := by
  have hl : us.length = ps.length := r.length.symm.trans (F.len _ _ _ _ h)
  have hb1 := hb s us I.kIn (by rw [List.append_nil]; exact hl)
  rw [List.append_nil] at hb1
  refine wpAny_call (codeAny_mono (F.run X.A X.stack s H ⟨us, []⟩ us vs Q E hr hq I.env0 hb1 r h) ?_)
  rintro (e | fl) s' hz
  · exact hx pins σ H s e s' I hz
  · cases fl with
    | ret u => exact I.after hz
    | next => exact False.elim hz
    | brk => exact False.elim hz
    | cont => exact False.elim hz
theorem pe_calG (C : CalG X.prog X.w X.K X.mg X.base CX k x ps sp) (hr : Room k X.A) (hq : Quiet X.A) (hx : Passes CX X E) (ha : PA X (e :: es) t) (hg : Gl X x := by rfl) (hdb : (x == ("__debug__" : Str)) = false := by decide)
    (he : starEach (e :: es) X.env = (false, eval e X.env) :: starEach es X.env := by rfl) (hpl : (backTo pos (starEach es X.env)).any (·.1) = false := by rfl) :
    PE X (.Call (.Name x p) (e :: es) [] pos) (tCall sp [] E t) := by
  obtain ⟨f, fd, h1, h2, h3, h4⟩ := C.ex
  constructor
  intro pins s σ H Q I h
  apply wpAny_Call_Name_kw
  refine ld_glob I hg h1 (PySem.W.callWith_K (h₀ := X.base) I.ok.mod.kin h2 (thn (ha.run pos pins s σ H _ I h) ?_) he hpl) hdb
  rintro us s1 ⟨vs, H1, I1, r, q⟩
  rw [List.append_nil] at q
  exact ⟨I1.kIn, run_calG h4 hr hq h3 hx I1 r q⟩
theorem pe_calG0 (C : CalG X.prog X.w X.K X.mg X.base CX k x ps sp) (hr : Room k X.A) (hq : Quiet X.A) (hx : Passes CX X E) (hg : Gl X x := by rfl) (hdb : (x == ("__debug__" : Str)) = false := by decide) :
    PE X (.Call (.Name x p) [] [] pos) (tCall sp [] E tNil) := by
  obtain ⟨f, fd, h1, h2, h3, h4⟩ := C.ex
  constructor
  intro pins s σ H Q I h
  apply wpAny_Call_Name_kw
  exact ld_glob I hg h1 (PySem.W.callWith_K0 I.kIn h2 (run_calG (us := []) h4 hr hq h3 hx I .nil h)) hdb
end
end EL

/- part P1 -/
/-! the end of a law whose def wants that no repr is under way -/
namespace EL
open PySem PySem.Spec PyProof.Rows L2
open PySem.W (Frag)

theorem law_from {P : Program} {w : World} {K : Frag} {mg mb : Str → Option Value} {CX : CXT} {k : Nat} {fa a : Addr} {fd : FuncData} {x : Str} {sp : Sp} {s : Shared} {vs : List Value} {H : Hp}
    (KX : K.In s.heap) (hns : s.heap.Ns mainGlobals mg) (hb : s.heap.Ns builtinsNs mb) (hbb : ∀ y : Str, y ≠ "__name__" → mb y = bootBuiltins y) (hlim : s.heap.NoLimit) (hg : s.gens = #[])
    (ha : s.heap.get? a = some { cls := .type "list", data := .seq vs.toArray }) (hr : Room k PySem.callerA)
    (F : ∀ base : Heap, K.In base → base.Ns mainGlobals mg → FnG P w K mg base CX k fa fd [x] sp) (hbind : ∀ (s : Shared) (u : Value), BindsTo s fd ⟨[u], []⟩ [(x, u)])
    (hsp : sp [.ref a] H (fun v _ => v = .bl true) fun _ _ _ => False) (hCX : ∀ e s', CX [] H s (fun _ _ _ => False) e s' → False)
    (hO : Only H) (hok : HOk P w H s.heap) (hA : ∀ b, H b ≠ none → b = a) (hK : H a ≠ none → K.lookup a = none) :
    codeAny (model P w) PySem.callerA (.call (.ref fa) ⟨[.ref a], []⟩) (fun r s' => r = .ok (.ret (.bool true)) ∧ OldK s.heap s'.heap ∧ s'.os = s.os ∧ AllBare s'.gens) s := by
  have free : ∀ {b : Addr} {o : Obj}, s.heap.get? b = some o → (b = a → False) ∨ (H b = none) → (hidT s.heap H).get? b = some o := by
    intro b o e z
    apply hidT_get e
    rcases z with z | z
    · cases q : H b with
      | none => rfl
      | some u => exact (z (hA b (by simp [q]))).elim
    · exact z
  have dict : ∀ {b : Addr} {m : Str → Option Value}, s.heap.Ns b m → (hidT s.heap H).Ns b m := by
    rintro b m ⟨o, es, ep, e, d, r⟩
    refine ⟨o, es, ep, free e (.inl fun z => ?_), d, r⟩
    rw [z, ha] at e
    cases e
    exact nomatch d
  have kin : K.In (hidT s.heap H) := by
    intro b o e
    cases q : H b with
    | none => exact free (KX b o e) (.inr q)
    | some u =>
      have ba := hA b (by simp [q])
      rw [ba] at e q
      rw [hK (by simp [q])] at e
      exact nomatch e
  have M : Mod K mg (hidT s.heap H) := ⟨kin, dict hns, ⟨mb, dict hb, hbb⟩, let ⟨mc, h1, h2⟩ := hlim; ⟨mc, dict h1, h2⟩⟩
  have none_in : ∀ b : Addr, b ∉ ([] : List Addr) := fun b z => by simp at z
  have e0 : Env0 P w K mg (hidT s.heap H) PySem.callerA [] s H :=
    { frames := rfl, mod := M, bs := fun b o e => of_hidT e, bsz := Nat.le_of_eq (hidT_size _ _), funs := trivial, frf := fun b z => (none_in b z).elim, hok := hok, bare := .of_eq hg }
  refine codeAny_mono ((F _ kin (dict hns)).run PySem.callerA [] s H _ [.ref a] [.ref a] _ _ hr rfl e0 (hbind s (.ref a)) (.cons rfl .nil) hsp) ?_
  rintro (e | fl) s' hz
  · exact (hCX e s' hz).elim
  · cases fl with
    | next => exact False.elim hz
    | brk => exact False.elim hz
    | cont => exact False.elim hz
    | ret u =>
      obtain ⟨v, H', os, bare, un, hok', r', q⟩ := hz
      have q2 : v = .bl true := q
      rw [q2] at r'
      have u2 : u = Value.bool true := r'
      rw [u2]
      refine ⟨rfl, OldK.of_keep fun b o e => ?_, os, bare⟩
      rcases hO b with z | ⟨ob, xs, z⟩
      · exact un.keep b o e z (none_in b) (none_in b)
      · have e1 := (hok b _ z).1
        rw [e] at e1
        rw [Option.some.inj e1]
        exact (hok' b _ (un.frzs b ob _ z)).1

theorem law_runs {P : Program} {w : World} {K : Frag} {mg mb : Str → Option Value} {CX : CXT} {k : Nat} {fa a : Addr} {fd : FuncData} {x : Str} {sp : Sp} {s : Shared} {vs : List Value} {ns : List Int}
    (KX : K.In s.heap) (hns : s.heap.Ns mainGlobals mg) (hb : s.heap.Ns builtinsNs mb) (hbb : ∀ y : Str, y ≠ "__name__" → mb y = bootBuiltins y) (hlim : s.heap.NoLimit) (hg : s.gens = #[])
    (ha : s.heap.get? a = some { cls := .type "list", data := .seq vs.toArray }) (hi : IntsAre vs ns) (hl : ns.length ≤ sizeLine) (hr : Room k PySem.callerA)
    (F : ∀ base : Heap, K.In base → base.Ns mainGlobals mg → FnG P w K mg base CX k fa fd [x] sp) (hbind : ∀ (s : Shared) (u : Value), BindsTo s fd ⟨[u], []⟩ [(x, u)])
    (hsp : ∀ H : Hp, Only H → SqL K H a (ns.map V.int) → sp [.ref a] H (fun v _ => v = .bl true) fun _ _ _ => False)
    (hCX : ∀ H e s', CX [] H s (fun _ _ _ => False) e s' → False) :
    codeAny (model P w) PySem.callerA (.call (.ref fa) ⟨[.ref a], []⟩) (fun r s' => r = .ok (.ret (.bool true)) ∧ OldK s.heap s'.heap ∧ s'.os = s.os ∧ AllBare s'.gens) s := by
  have rv := vals_ints hi
  by_cases hk : K.lookup a = none
  · let H : Hp := fun b => if b = a then some (.frz { cls := .type "list", data := .seq vs.toArray } (.lst (ns.map V.int))) else none
    have at_ : H a = some (.frz { cls := .type "list", data := .seq vs.toArray } (.lst (ns.map V.int))) := if_pos rfl
    have other : ∀ b, b ≠ a → H b = none := fun b h => if_neg h
    have hO : Only H := fun b => by
      by_cases q : b = a
      · exact .inr ⟨_, _, by rw [q]; exact at_⟩
      · exact .inl (other b q)
    refine law_from (H := H) KX hns hb hbb hlim hg ha hr F hbind (hsp H hO (.inl (.inr ⟨_, at_⟩))) (hCX H) hO ?_ ?_ fun _ => hk
    · intro b u z
      by_cases q : b = a
      · subst q
        rw [at_] at z
        cases z
        refine ⟨ha, ?_, vs, _, rv, ha⟩
        rw [List.length_map]
        exact hl
      · rw [other b q] at z
        exact nomatch z
    · intro b z
      by_cases q : b = a
      · exact q
      · exact (z (other b q)).elim
  · obtain ⟨o, hk⟩ := Option.ne_none_iff_exists'.mp hk
    have e := KX a o hk
    rw [ha] at e
    cases e
    let H : Hp := fun _ => none
    have hO : Only H := fun _ => .inl rfl
    have hS : SqL K H a (ns.map V.int) := .inr ⟨_, vs.toArray, _, hk, rfl, rfl, rfl, by simpa [hi.length] using hl, by simpa using rv⟩
    exact law_from (H := H) KX hns hb hbb hlim hg ha hr F hbind (hsp H hO hS) (hCX H) hO (fun b u z => nomatch (show (none : Option HO) = some u from z)) (fun b z => (z rfl).elim) fun z => (z rfl).elim

theorem walk_law {l : PySem.W.OpenLaw} {n k : Nat} {q : Program} {loose : List Str} {XP : (Str → Option Value) → Heap → Prop} {YP : World → Heap → Prop} {d : DefRec} {K : Params → Frag} {CX : World → CXT} {sp : World → Sp} {x : Str}
    (hn : l.most = some n) (hn2 : n ≤ sizeLine) (hdf : d.params.defaults = []) (hr : Room k PySem.callerA) (hY : ∀ (w : World) (h : Heap), YP w h → (K w.params).In h)
    (F : ∀ (w : World) (mg : Str → Option Value) (fa : Addr) (h : Heap), (K w.params).In h → h.Ns mainGlobals mg → mg d.name = some (.ref fa) →
      ∃ fd : FuncData, (∀ (s : Shared) (u : Value), BindsTo s fd ⟨[u], []⟩ [(x, u)]) ∧ ∀ base : Heap, (K w.params).In base → base.Ns mainGlobals mg → FnG l.prog w (K w.params) mg base (CX w) k fa fd [x] (sp w))
    (hsp : ∀ (w : World) (H : Hp) (a : Addr) (ns : List Int), ns.length ≤ n → Only H → SqL (K w.params) H a (ns.map V.int) → sp w [.ref a] H (fun v _ => v = .bl true) fun _ _ _ => False)
    (hCX : ∀ (w : World) (H : Hp) (s : Shared) (e : Value) (s' : Shared), CX w [] H s (fun _ _ _ => False) e s' → False) :
    PySem.W.WalkO q loose XP YP l.row.toRowW d [] (fun f vs => PySem.call f vs) := by
  refine Att.attach_call hn hdf ?_
  intro w s₀ s₁ mg mb fa o pm cd doc a vs ns G Y ho hd hcd hmg hobj hints hlen hg
  obtain ⟨fd, hb, hF⟩ := F w mg fa _ (hY w _ Y) G.T.g hmg
  exact law_runs (hY w _ Y) G.T.g G.T.b G.T.builtins G.T.nolimit hg hobj hints (Nat.le_trans hlen hn2) hr hF hb (fun H => hsp w H a ns hlen) fun H => hCX w H s₁
end EL

/- part P2 -/
/-! repr of data, where no repr is under way -/
namespace EL
open PySem PySem.Spec PyProof.Rows L2
open PySem.W (Frag)
mutual
theorem dp_nodict {K : Frag} {H : Hp} : ∀ (d : PyData) (v : V), Dp K H v d → d.hasDict = false
  | .none, _, _ => rfl
  | .bool _, _, _ => rfl
  | .int _, _, _ => rfl
  | .str _, _, _ => rfl
  | .list ds, _, h => by
    cases h with
    | lst _ ha => exact dp_nodictAll ds _ ha
  | .tuple ds, _, h => by
    cases h with
    | tup _ ha => exact dp_nodictAll ds _ ha
  | .dict _, _, h => by cases h
theorem dp_nodictAll {K : Frag} {H : Hp} : ∀ (ds : List PyData) (vs : List V), DpAll K H vs ds → PyData.hasDictAll ds = false
  | [], _, _ => rfl
  | d :: ds, _, h => by
    cases h with
    | cons h1 h2 =>
      show (d.hasDict || PyData.hasDictAll ds) = false
      rw [dp_nodict d _ h1, dp_nodictAll ds _ h2]
      rfl
end
/-- what repr hands back of data -/
def rShow (K : Frag) : List V → Hp → VK → Prop := fun xs H Q => ∃ x d, xs = [x] ∧ Dp K H x d ∧ d.showable = true ∧ d.depth ≤ 50 ∧ d.shown.length ≤ sizeLine ∧ Q (.str d.shown) H
theorem call_show {X : Cx} (hq : Quiet X.A) (hu : X.A.units + 64 < cLine) : CallR X (.builtin "repr") (rShow X.K) := by
  rintro pins s σ H xs us Q I r ⟨x, d, rfl, hd, hs, hdep, hlen, q⟩
  cases r with
  | cons rx rn =>
    rename_i u us
    cases rn
    obtain ⟨as, rd⟩ := Dp.reads I d x u hd rx
    have fin : ∀ t k, EP X pins σ Q (.str d.shown t) { s with toks := k } := fun t k => ⟨V.str d.shown, H, I.tok _, ⟨t, rfl⟩, q⟩
    cases rd with
    | none => exact PySem.P.repr_of_none (fin _ _)
    | bool b => exact PySem.P.repr_of_bool (fin _ _)
    | int i t => exact PySem.P.repr_of_int (by simpa [PyData.showable] using hs) (fin _ _)
    | str y t => exact PySem.P.repr_of_str (fin _ _) hlen
    | list h1 h2 h3 h4 =>
      have nd := dp_nodict _ _ hd
      refine repr_of_reads' (h₀ := s.heap) (.list h1 h2 h3 h4) hs (fun z => by rw [nd] at z; cases z) hq (by omega) (fun _ _ e => e) ?_ hlen
      intro h' t tk k
      exact ⟨V.str _, H, I.kept k, ⟨t, rfl⟩, q⟩
    | tuple h1 h2 h3 h4 =>
      have nd := dp_nodict _ _ hd
      refine repr_of_reads' (h₀ := s.heap) (.tuple h1 h2 h3 h4) hs (fun z => by rw [nd] at z; cases z) hq (by omega) (fun _ _ e => e) ?_ hlen
      intro h' t tk k
      exact ⟨V.str _, H, I.kept k, ⟨t, rfl⟩, q⟩
    | dict h1 h2 h3 h4 h5 => cases hd
theorem call_showE {X : Cx} (hq : Quiet X.A) (hu : X.A.units + 64 < cLine) : CallR X (.builtin "repr") (fun xs H Q => ∃ p, xs = [.ref p] ∧ H p = some (.dK []) ∧ Q (.str (PyData.dict []).shown) H) := by
  rintro pins s σ H xs us Q I r ⟨p, rfl, hp, q⟩
  cases r with
  | cons rx rn =>
    rename_i u us
    cases rn
    cases rx
    obtain ⟨_, ns, vs, kv, o, es, ep, ho, ex, hd, _, pr, _⟩ := I.hok p _ hp
    cases kv
    have e0 : es.toList = [] := by
      generalize es.toList = l at pr
      cases pr
      rfl
    have e1 : es = #[] := Array.toList_inj.mp e0
    subst e1
    have hz : X.A.units + ((PyData.dict []).depth + 1) < cLine := by
      have z : (PyData.dict []).depth ≤ 50 := by decide +kernel
      omega
    refine repr_of_reads' (d := .dict []) (h₀ := s.heap) (.dict ho ex.1 hd .nil .nil) (by decide +kernel) (fun _ z => ?_) hq hz (fun _ _ e => e) ?_ (by decide +kernel)
    · have z' : sysModules = p := by simpa using z
      rw [← z'] at ns
      exact absurd ns (by decide)
    · intro h' t tk k
      exact ⟨V.str _, H, I.kept k, ⟨t, rfl⟩, q⟩
/-- repr of data, or of an empty dict -/
def rShowU (K : Frag) : List V → Hp → VK → Prop := fun xs H Q => rShow K xs H Q ∨ ∃ p, xs = [.ref p] ∧ H p = some (.dK []) ∧ Q (.str (PyData.dict []).shown) H
theorem u_show {X : Cx} (hq : Quiet X.A) (hu : X.A.units + 64 < cLine) : CallR X (.builtin "repr") (rShowU X.K) := (call_show hq hu).or (call_showE hq hu)
end EL

/- part E1 -/
/-! enumerate(v, start=k): how it is made -/
namespace EL
open PySem PySem.Spec PyProof.Rows L2
open PySem.W (Frag)
theorem tcall_enum_kw (a b : Value) : checkTypeCall "enumerate" ⟨[a], [("start", b)]⟩ = pure () := by kernel_rfl
theorem ncall_enum_kw (a b : Value) : checkBuiltinCall "enumerate.__new__" ⟨[.type "enumerate", a], [("start", b)]⟩ = pure () := by kernel_rfl
/-- the enumerate object, before its first turn -/
abbrev enumObj (r : Value) (k : Int) : Obj := { cls := .type "enumerate", data := .fields #[.none, .bool false, r, rawInt k, .none, .none] }
set_option maxHeartbeats 2000000 in
theorem meets_enum_kw {v : Value} {rv : Heap → Value} {f : Heap → Heap} {W : Heap → Prop}
    (IT : ∀ (prog : Program) (w : World) (A : Around) (E : Value → Shared → Prop) (s : Shared) (Q : Value → Shared → Prop), W s.heap → Q (rv s.heap) { s with heap := f s.heap } → wpAny (model prog w) A (pyIter v) Q E s)
    (k : Int) (t : Tok) (fit : Builtin.SmallTypes.fitsIndex k = true) :
    Meets (Builtin.«enumerate.__new__» ⟨[.type "enumerate", v], [("start", .int k t)]⟩) (fun _ R s => W s.heap ∧ R (.ok (.ret (.ref (f s.heap).objs.size))) { s with heap := (f s.heap).push (enumObj (rv s.heap) k) }) :=
  .of_wp fun prog w A R s h => by
    obtain ⟨hp, g, d, tk, os⟩ := s
    obtain ⟨h1, h⟩ := h
    have sub := sub_enumerate
    have nf : (!Builtin.SmallTypes.fitsIndex k) = false := by rw [fit]; rfl
    have go : ∀ {A' : Around} {E : Value → Shared → Prop} {Q : Value → Shared → Prop}, Q (rv hp) ⟨f hp, g, d, tk, os⟩ → wpAny (model prog w) A' (pyIter v) Q E ⟨hp, g, d, tk, os⟩ := fun q => IT prog w _ _ ⟨hp, g, d, tk, os⟩ _ h1 q
    wp_walk using go
    refine wpAny_stack_any fun st => wpAny_pure ?_
    split
    · rename_i c _ _ _ _ _
      cases (c == Value.type "enumerate")
      · wp_walk using go
        exact ⟨_, rfl, h⟩
      · wp_walk using go
        exact ⟨_, rfl, h⟩
    · wp_walk using go
      exact ⟨_, rfl, h⟩
end EL

/- part E2 -/
/-! enumerate over any iterator: one turn; zip over two tuples whose pair may still be about -/
namespace EL
open PySem PySem.Spec PyProof.Rows L2
open PySem.W (Frag)
section
variable {prog : Program} {w : World} {A : Around} {E : Value → Shared → Prop} {s : Shared}
theorem alive {a : Addr} {Q : Option Obj → Shared → Prop} (h : Q (s.heap.get? a) s) : wpAny (model prog w) A (loadIfAlive a) Q E s := fun _ _ _ => h
theorem enum_turn {e it : Addr} {c : Int} {old : Value} {R : Value → Heap → Prop} {Q : Value → Shared → Prop} (he : IsEnum s.heap e it c old)
    (inner : ∀ (Q' E' : Value → Shared → Prop), (∀ x h1 tk, IsEnum h1 e it c old → R x h1 → Q' x { s with heap := h1, toks := tk }) → wpAny (model prog w) A (Builtin.SmallTypes.nextOf (.ref it)) Q' E' s)
    (hQ : ∀ x h1 h' tk, R x h1 → e < h1.objs.size → IsEnumOut h' e it (c + 1) x h1.objs.size → h'.get? h1.objs.size = some { cls := .type "tuple", data := .seq #[.int c tk, x] } → h'.objs.size = h1.objs.size + 1 →
      (∀ b o, b ≠ e → h1.get? b = some o → h'.get? b = some o) → Q (.ref h1.objs.size) { s with heap := h', toks := tk + 1 }) :
    wpAny (model prog w) A (Builtin.«enumerate.__next__» ⟨[.ref e], []⟩) (fun fin s' => ∃ v, fin = .done (.ret v) ∧ Q v s') E s := by
  obtain ⟨hp, g, d, tk0, os⟩ := s
  refine wpAny_bind (m := field (.ref e) 2) (wpAny_field he rfl (x := .ref it) rfl (wpAny_bind (inner _ _ fun x h1 tk e1 r1 => ?_)))
  have lt : e < h1.objs.size := Heap.lt_size e1
  refine wpAny_bind (m := field (.ref e) 3) (wpAny_field e1 rfl (x := rawInt c) rfl ?_)
  refine wpAny_bind (m := field (.ref e) 4) (wpAny_field e1 rfl (x := .none) rfl ?_)
  refine wpAny_bind (m := mkInt c) (wpAny_mkInt ?_)
  refine wpAny_bind (m := setField (.ref e) 3 (rawInt (c + 1))) (wpAny_setField_rec e1 (by simp) fun h2 e2 k2 => ?_)
  have e2' : IsEnum h2 e it (c + 1) old := e2
  refine wpAny_bind (m := setField (.ref e) 4 .none) (wpAny_setField_rec e2' (by simp) fun h3 e3 k3 => ?_)
  have e3' : IsEnum h3 e it (c + 1) old := e3
  have z3 : h3.objs.size = h1.objs.size := k3.1.trans k2.1
  have up3 : ∀ b o, b ≠ e → h1.get? b = some o → h3.get? b = some o := fun b o hb q => Heap.SameBut.extBut k3 b o hb (Heap.SameBut.extBut k2 b o hb q)
  refine wpAny_bind (m := newTuple [.int c tk, x]) (wpAny_newTuple ?_)
  have e4 : IsEnum (h3.push { cls := .type "tuple", data := .seq #[.int c tk, x] }) e it (c + 1) old := Heap.get?_push_of_some _ e3'
  have t4 : (h3.push { cls := .type "tuple", data := .seq #[.int c tk, x] }).get? h1.objs.size = some { cls := .type "tuple", data := .seq #[.int c tk, x] } := by
    have q := Heap.get?_push_size h3 (o := { cls := .type "tuple", data := .seq #[.int c tk, x] }) rfl
    rw [z3] at q
    exact q
  have s4 : (h3.push { cls := .type "tuple", data := .seq #[.int c tk, x] }).objs.size = h1.objs.size + 1 := (Heap.size_push ..).trans (by rw [z3])
  have up4 : ∀ b o, b ≠ e → h1.get? b = some o → (h3.push { cls := .type "tuple", data := .seq #[.int c tk, x] }).get? b = some o := fun b o hb q => Heap.get?_push_of_some _ (up3 b o hb q)
  refine wpAny_bind (m := Builtin.SmallTypes.ownedTupleIsFree (.ref e)) ?_
  unfold Builtin.SmallTypes.ownedTupleIsFree
  refine wpAny_bind (m := field (.ref e) 0) (wpAny_field e4 rfl (x := .none) rfl (wpAny_pure ?_))
  rw [if_pos rfl]
  refine wpAny_bind (wpAny_rule (wpAny_bind (wpAny_field e4 rfl (x := old) rfl (wpAny_bind (wpAny_setField_rec e4 (by simp) fun h5 e5 k5 => ?_)))))
  have e5' : IsEnum h5 e it (c + 1) x := e5
  show wpAny _ _ (Builtin.SmallTypes.ownedTupleHandOut (.ref e) (.ref h3.objs.size) >>= _) _ _ _
  rw [z3]
  refine wpAny_bind ?_
  unfold Builtin.SmallTypes.ownedTupleHandOut
  refine wpAny_bind (wpAny_setField_rec e5' (by simp) fun h6 e6 k6 => wpAny_setField_rec e6 (by simp) fun h7 e7 k7 => ?_)
  have up : ∀ b o, b ≠ e → h1.get? b = some o → h7.get? b = some o := fun b o hb q =>
    Heap.SameBut.extBut k7 b o hb (Heap.SameBut.extBut k6 b o hb (Heap.SameBut.extBut k5 b o hb (up4 b o hb q)))
  have ne : h1.objs.size ≠ e := Nat.ne_of_gt lt
  refine wpAny_bind (wpAny_letGo (wpAny_pure ⟨_, rfl, hQ x h1 h7 tk r1 lt e7 ?_ ?_ up⟩))
  · exact Heap.SameBut.extBut k7 _ _ ne (Heap.SameBut.extBut k6 _ _ ne (Heap.SameBut.extBut k5 _ _ ne t4))
  · exact k7.1.trans (k6.1.trans (k5.1.trans s4))
end
end EL

/- part E3 -/
/-! one turn of zip(t1, t2), whatever became of the pair that it handed out last -/
namespace EL
open PySem PySem.Spec PyProof.Rows L2
open PySem.W (Frag)
/-- a zip object; f0 tells the pair that is out, b that it was met alive -/
abbrev zipObj (f0 : Value) (b : Bool) (TI TO : Addr) : Obj := { cls := .type "zip", dict := none, data := .fields #[f0, .bool b, .bool false, .ref TI, .ref TO], slots := #[] }
def OutMark (f0 : Value) : Prop := f0 = .none ∨ ∃ a : Addr, f0 = rawInt a
def ZipAt (h : Heap) (z TI TO : Addr) : Prop := ∃ f0 b, h.get? z = some (zipObj f0 b TI TO) ∧ OutMark f0
/-- the cells of the zip and of its two iterators lie apart -/
structure Apart (z TI TO i1 i2 t1 t2 : Addr) : Prop where
  zTI : z ≠ TI
  zTO : z ≠ TO
  zi1 : z ≠ i1
  zi2 : z ≠ i2
  zt1 : z ≠ t1
  zt2 : z ≠ t2
  TITO : TI ≠ TO
  TIi1 : TI ≠ i1
  TIi2 : TI ≠ i2
  TOi1 : TO ≠ i1
  TOi2 : TO ≠ i2
  TOt1 : TO ≠ t1
  TOt2 : TO ≠ t2
  i12 : i1 ≠ i2
  t1i1 : t1 ≠ i1
  t1i2 : t1 ≠ i2
  t2i1 : t2 ≠ i1
  t2i2 : t2 ≠ i2
section
variable {prog : Program} {w : World} {A : Around} {E : Value → Shared → Prop} {s : Shared} {z TI TO i1 i2 t1 t2 : Addr} {xs ys : Array Value} {i : Nat}
/-- what the zip stands on -/
structure ZipSt (h : Heap) (z TI TO i1 i2 t1 t2 : Addr) (xs ys : Array Value) (i : Nat) : Prop where
  zip : ZipAt h z TI TO
  ti : IsTupOf2 h TI (.ref i1) (.ref i2)
  to : ∃ a b, IsTupOf2 h TO a b
  it1 : h.IsTupleIter i1 t1 i
  it2 : h.IsTupleIter i2 t2 i
  tu1 : h.IsTuple t1 xs
  tu2 : h.IsTuple t2 ys
theorem ext_of {x : Addr} {h h' : Heap} (k : Heap.SameBut x h h') : ∀ b o, b ≠ x → h.get? b = some o → h'.get? b = some o := fun b o hb q => Heap.SameBut.extBut k b o hb q
/-- whether the pair is free: if not, the zip notes it -/
theorem free_or {f0 : Value} {b : Bool} {Q : Bool → Shared → Prop} (hz : s.heap.get? z = some (zipObj f0 b TI TO)) (mark : OutMark f0)
    (h1 : Q true s) (h2 : ∀ h' b', h'.get? z = some (zipObj f0 b' TI TO) → h'.objs.size = s.heap.objs.size → (∀ c o, c ≠ z → s.heap.get? c = some o → h'.get? c = some o) → Q false { s with heap := h' }) :
    wpAny (model prog w) A (Builtin.SmallTypes.ownedTupleIsFree (.ref z)) Q E s := by
  unfold Builtin.SmallTypes.ownedTupleIsFree
  rcases mark with rfl | ⟨a, rfl⟩
  · exact wpAny_bind (wpAny_field hz rfl (x := .none) rfl (wpAny_pure h1))
  · refine wpAny_bind (wpAny_field hz rfl (x := rawInt a) rfl ?_)
    refine wpAny_bind (alive ?_)
    have ea : ((a : Nat) : Int).toNat = a := rfl
    cases hal : s.heap.get? ((a : Nat) : Int).toNat with
    | none => exact wpAny_pure h1
    | some o =>
      refine wpAny_bind (m := field (.ref z) 1) (wpAny_field hz rfl (x := .bool b) rfl ?_)
      cases b with
      | true => exact wpAny_pure (h2 s.heap true hz rfl fun _ _ _ q => q)
      | false =>
        refine wpAny_bind (m := setField (.ref z) 1 (.bool true)) (wpAny_setField_rec hz (by simp) fun h' e' k' => wpAny_pure ?_)
        exact h2 h' true e' k'.1 (ext_of k')
theorem drawn {it t : Addr} {vs : Array Value} {v : Value} {Q : Value → Shared → Prop} (hit : s.heap.IsTupleIter it t i) (ht : s.heap.IsTuple t vs) (hv : vs[i]? = some v)
    (h : ∀ h', h'.IsTupleIter it t (i + 1) → Heap.SameBut it s.heap h' → Q v { s with heap := h' }) : wpAny (model prog w) A (Builtin.SmallTypes.nextOf (.ref it)) Q E s :=
  wpAny_nextOf_tuple_item hit ht hv h
theorem zip_turn {x y : Value} {Q : Value → Shared → Prop} (ap : Apart z TI TO i1 i2 t1 t2) (st : ZipSt s.heap z TI TO i1 i2 t1 t2 xs ys i) (hx : xs[i]? = some x) (hy : ys[i]? = some y)
    (hQ : ∀ h' tk, ZipSt h' z TI TO i1 i2 t1 t2 xs ys (i + 1) → IsTupOf2 h' s.heap.objs.size x y → h'.objs.size = s.heap.objs.size + 1 →
      (∀ c o, c ≠ z → c ≠ TO → c ≠ i1 → c ≠ i2 → s.heap.get? c = some o → h'.get? c = some o) → Q (.ref s.heap.objs.size) { s with heap := h', toks := tk }) :
    wpAny (model prog w) A (Builtin.«zip.__next__» ⟨[.ref z], []⟩) (fun fin s' => ∃ v, fin = .done (.ret v) ∧ Q v s') E s := by
  obtain ⟨⟨f0, b, hz, mark⟩, hti, ⟨a0, b0, hto⟩, h1, h2, u1, u2⟩ := st
  obtain ⟨hp, g, d, tk0, os⟩ := s
  replace hz : hp.get? z = some (zipObj f0 b TI TO) := hz
  replace hti : IsTupOf2 hp TI (.ref i1) (.ref i2) := hti
  replace hto : IsTupOf2 hp TO a0 b0 := hto
  replace h1 : hp.IsTupleIter i1 t1 i := h1
  replace h2 : hp.IsTupleIter i2 t2 i := h2
  replace u1 : hp.IsTuple t1 xs := u1
  replace u2 : hp.IsTuple t2 ys := u2
  refine wpAny_bind (m := field (.ref z) 2) (wpAny_field hz rfl (x := .bool false) rfl ?_)
  refine wpAny_bind (m := field (.ref z) 3) (wpAny_field hz rfl (x := .ref TI) rfl ?_)
  refine wpAny_bind (wpAny_seqItems hti rfl ?_)
  have lz : z < hp.objs.size := Heap.lt_size hz
  have an := ap
  refine wpAny_bind (free_or hz mark ?_ ?_)
  · rw [if_pos rfl]
    refine wpAny_bind (wpAny_rule (wpAny_bind (wpAny_field hz rfl (x := .ref TO) rfl (wpAny_bind (wpAny_setField_rec hz (by simp) fun g0 z0 k0 => ?_)))))
    replace z0 : g0.get? z = some (zipObj .ellipsis b TI TO) := z0
    replace k0 : Heap.SameBut z hp g0 := k0
    refine wpAny_bind ?_
    simp only [List.zipIdx_cons, List.zipIdx_nil, List.forIn_cons, List.forIn_nil]
    refine wpAny_bind (wpAny_bind (wpAny_onRaise ?_))
    show wpAny _ _ (Builtin.SmallTypes.nextOf (.ref i1) >>= _) _ _ ⟨g0, g, d, tk0, os⟩
    refine wpAny_bind (drawn (s := ⟨g0, g, d, tk0, os⟩) (h1.at fun o q => ext_of k0 _ _ ap.zi1.symm q) (u1.at fun o q => ext_of k0 _ _ ap.zt1.symm q) hx fun g1 n1 k1 => wpAny_pure ?_)
    replace k1 : Heap.SameBut i1 g0 g1 := k1
    have to1 : IsTupOf2 g1 TO a0 b0 := ext_of k1 _ _ ap.TOi1 (ext_of k0 _ _ ap.zTO.symm hto)
    refine wpAny_bind (wpAny_seqItems (s := ⟨g1, g, d, tk0, os⟩) to1 rfl ?_)
    refine wpAny_bind (updateSeq_IsTupOf2 (s := ⟨g1, g, d, tk0, os⟩) to1 fun g2 to2 k2 => ?_)
    replace k2 : Heap.SameBut TO g1 g2 := k2
    replace to2 : IsTupOf2 g2 TO x b0 := to2
    refine wpAny_bind (wpAny_letGo (wpAny_pure ?_))
    refine wpAny_bind (wpAny_bind (wpAny_onRaise ?_))
    show wpAny _ _ (Builtin.SmallTypes.nextOf (.ref i2) >>= _) _ _ ⟨g2, g, d, tk0, os⟩
    refine wpAny_bind (drawn (s := ⟨g2, g, d, tk0, os⟩) (h2.at fun o q => ext_of k2 _ _ ap.TOi2.symm (ext_of k1 _ _ ap.i12.symm (ext_of k0 _ _ ap.zi2.symm q)))
      (u2.at fun o q => ext_of k2 _ _ ap.TOt2.symm (ext_of k1 _ _ ap.t2i1 (ext_of k0 _ _ ap.zt2.symm q))) hy fun g3 n3 k3 => wpAny_pure ?_)
    replace k3 : Heap.SameBut i2 g2 g3 := k3
    have to3 : IsTupOf2 g3 TO x b0 := ext_of k3 _ _ ap.TOi2 to2
    refine wpAny_bind (wpAny_seqItems (s := ⟨g3, g, d, tk0, os⟩) to3 rfl ?_)
    refine wpAny_bind (updateSeq_IsTupOf2 (s := ⟨g3, g, d, tk0, os⟩) to3 fun g4 to4 k4 => ?_)
    replace k4 : Heap.SameBut TO g3 g4 := k4
    replace to4 : IsTupOf2 g4 TO x y := to4
    refine wpAny_bind (wpAny_letGo (wpAny_pure (wpAny_pure ?_)))
    refine wpAny_bind (wpAny_seqItems (s := ⟨g4, g, d, tk0, os⟩) to4 rfl (wpAny_bind (wpAny_newTuple ?_)))
    have z4 : g4.objs.size = hp.objs.size := by rw [k4.1, k3.1, k2.1, k1.1, k0.1]
    have up4 : ∀ c o, c ≠ z → c ≠ TO → c ≠ i1 → c ≠ i2 → hp.get? c = some o → g4.get? c = some o := fun c o cz cT c1 c2 q =>
      ext_of k4 _ _ cT (ext_of k3 _ _ c2 (ext_of k2 _ _ cT (ext_of k1 _ _ c1 (ext_of k0 _ _ cz q))))
    have zz4 : g4.get? z = some (zipObj .ellipsis b TI TO) := ext_of k4 _ _ ap.zTO (ext_of k3 _ _ ap.zi2 (ext_of k2 _ _ ap.zTO (ext_of k1 _ _ ap.zi1 z0)))
    generalize e5 : g4.push { cls := .type "tuple", data := .seq (#[x, y] : Array Value) } = g5
    have up5 : ∀ c o, g4.get? c = some o → g5.get? c = some o := fun c o q => by rw [← e5]; exact Heap.get?_push_of_some _ q
    have tt5 : IsTupOf2 g5 hp.objs.size x y := by rw [← e5, ← z4]; exact Heap.get?_push_size _ rfl
    have z5 : g5.objs.size = hp.objs.size + 1 := by rw [← e5, Heap.size_push, z4]
    refine wpAny_bind ?_
    show wpAny _ _ (Builtin.SmallTypes.ownedTupleHandOut (.ref z) (.ref g4.objs.size)) _ _ _
    unfold Builtin.SmallTypes.ownedTupleHandOut
    have z5' : g5.get? z = some (zipObj .ellipsis b TI TO) := up5 _ _ zz4
    refine wpAny_bind (wpAny_setField_rec z5' (by simp) fun g6 z6 k6 => ?_)
    replace k6 : Heap.SameBut z g5 g6 := k6
    refine wpAny_setField_rec z6 (by simp) fun g7 z7 k7 => ?_
    replace k7 : Heap.SameBut z g6 g7 := k7
    have up7 : ∀ c o, c ≠ z → g4.get? c = some o → g7.get? c = some o := fun c o cz q => ext_of k7 _ _ cz (ext_of k6 _ _ cz (up5 _ _ q))
    have nz : hp.objs.size ≠ z := Nat.ne_of_gt lz
    refine wpAny_pure ⟨_, rfl, ?_⟩
    show Q (.ref g4.objs.size) ⟨g7, g, d, tk0, os⟩
    rw [z4]
    refine hQ g7 tk0 ⟨⟨rawInt g4.objs.size, false, z7, .inr ⟨_, rfl⟩⟩, ?_, ⟨x, y, up7 _ _ ap.zTO.symm to4⟩, ?_, ?_, ?_, ?_⟩ ?_ ?_ ?_
    · exact up7 _ _ ap.zTI.symm (up4 _ _ ap.zTI.symm ap.TITO ap.TIi1 ap.TIi2 hti)
    · exact n1.at fun o q => up7 _ _ ap.zi1.symm (ext_of k4 _ _ ap.TOi1.symm (ext_of k3 _ _ ap.i12 (ext_of k2 _ _ ap.TOi1.symm q)))
    · exact n3.at fun o q => up7 _ _ ap.zi2.symm (ext_of k4 _ _ ap.TOi2.symm q)
    · exact u1.at fun o q => up7 _ _ ap.zt1.symm (up4 _ _ ap.zt1.symm ap.TOt1.symm ap.t1i1 ap.t1i2 q)
    · exact u2.at fun o q => up7 _ _ ap.zt2.symm (up4 _ _ ap.zt2.symm ap.TOt2.symm ap.t2i1 ap.t2i2 q)
    · exact ext_of k7 _ _ nz (ext_of k6 _ _ nz tt5)
    · rw [k7.1, k6.1, z5]
    · exact fun c o cz cT c1 c2 q => up7 _ _ cz (up4 c o cz cT c1 c2 q)
  · intro h0 b' z0 s0 k0
    replace s0 : h0.objs.size = hp.objs.size := s0
    replace k0 : ∀ c o, c ≠ z → hp.get? c = some o → h0.get? c = some o := k0
    rw [if_neg (by decide)]
    refine wpAny_bind ?_
    simp only [List.forIn_toArray, List.forIn_cons, List.forIn_nil]
    refine wpAny_bind (wpAny_bind (wpAny_holding ?_))
    show wpAny _ _ (Builtin.SmallTypes.nextOf (.ref i1) >>= _) _ _ ⟨h0, g, d, tk0, os⟩
    refine wpAny_bind (drawn (s := ⟨h0, g, d, tk0, os⟩) (h1.at fun o q => k0 _ _ ap.zi1.symm q) (u1.at fun o q => k0 _ _ ap.zt1.symm q) hx fun g1 n1 k1 => wpAny_pure ?_)
    replace k1 : Heap.SameBut i1 h0 g1 := k1
    refine wpAny_pure ?_
    refine wpAny_bind (wpAny_bind (wpAny_holding ?_))
    show wpAny _ _ (Builtin.SmallTypes.nextOf (.ref i2) >>= _) _ _ ⟨g1, g, d, tk0, os⟩
    refine wpAny_bind (drawn (s := ⟨g1, g, d, tk0, os⟩) (h2.at fun o q => ext_of k1 _ _ ap.i12.symm (k0 _ _ ap.zi2.symm q)) (u2.at fun o q => ext_of k1 _ _ ap.t2i1 (k0 _ _ ap.zt2.symm q)) hy fun g2 n2 k2 => wpAny_pure ?_)
    replace k2 : Heap.SameBut i2 g1 g2 := k2
    refine wpAny_pure (wpAny_pure ?_)
    refine wpAny_bind (wpAny_newTuple ?_ (by show 2 ≤ sizeLine; decide))
    have z2 : g2.objs.size = hp.objs.size := by rw [k2.1, k1.1, s0]
    have up : ∀ c o, c ≠ z → c ≠ i1 → c ≠ i2 → hp.get? c = some o → (g2.push { cls := .type "tuple", data := .seq (#[x, y] : Array Value) }).get? c = some o := fun c o cz c1 c2 q =>
      Heap.get?_push_of_some _ (ext_of k2 _ _ c2 (ext_of k1 _ _ c1 (k0 _ _ cz q)))
    refine wpAny_pure ⟨_, rfl, ?_⟩
    show Q (.ref g2.objs.size) ⟨g2.push { cls := .type "tuple", data := .seq (#[x, y] : Array Value) }, g, d, tk0, os⟩
    rw [z2]
    refine hQ _ tk0 ⟨⟨f0, b', Heap.get?_push_of_some _ (ext_of k2 _ _ ap.zi2 (ext_of k1 _ _ ap.zi1 z0)), mark⟩, up _ _ ap.zTI.symm ap.TIi1 ap.TIi2 hti, ⟨a0, b0, up _ _ ap.zTO.symm ap.TOi1 ap.TOi2 hto⟩, ?_, ?_, ?_, ?_⟩ ?_ ?_ ?_
    · exact n1.at fun o q => Heap.get?_push_of_some _ (ext_of k2 _ _ ap.i12 q)
    · exact n2.at fun o q => Heap.get?_push_of_some _ q
    · exact u1.at fun o q => up _ _ ap.zt1.symm ap.t1i1 ap.t1i2 q
    · exact u2.at fun o q => up _ _ ap.zt2.symm ap.t2i1 ap.t2i2 q
    · have q := Heap.get?_push_size g2 (o := { cls := .type "tuple", data := .seq (#[x, y] : Array Value) }) rfl
      rw [z2] at q
      exact q
    · rw [Heap.size_push, z2]
    · exact fun c o cz cT c1 c2 q => up c o cz c1 c2 q
end
end EL

/- part E4 -/
/-! for i, x in enumerate(t, start=k) over a tuple; for i, (x, y) in enumerate(zip(t, u), start=k) over two tuples of one length -/
namespace EL
open PySem PySem.Spec PyProof.Rows L2
open PySem.W (Frag)
section
variable {prog : Program} {w : World} {A : Around} {E : Value → Shared → Prop} {s : Shared} {z TI TO i1 i2 t1 t2 : Addr} {xs ys : Array Value} {i : Nat}
theorem zip_over {Q : Fin → Shared → Prop} (hh : A.handled = none) (ap : Apart z TI TO i1 i2 t1 t2) (st : ZipSt s.heap z TI TO i1 i2 t1 t2 xs ys i) (hx : xs[i]? = none)
    (hE : ∀ h' e, (∀ c o, c ≠ z → c ≠ TO → c ≠ i1 → c ≠ i2 → s.heap.get? c = some o → h'.get? c = some o) → (∃ o, h'.get? e = some o ∧ o.cls = .type "StopIteration") → E (.ref e) { s with heap := h' }) :
    wpAny (model prog w) A (Builtin.«zip.__next__» ⟨[.ref z], []⟩) Q E s := by
  obtain ⟨⟨f0, b, hz, mark⟩, hti, ⟨a0, b0, hto⟩, h1, h2, u1, u2⟩ := st
  obtain ⟨hp, g, d, tk0, os⟩ := s
  replace hz : hp.get? z = some (zipObj f0 b TI TO) := hz
  replace h1 : hp.IsTupleIter i1 t1 i := h1
  replace u1 : hp.IsTuple t1 xs := u1
  refine wpAny_bind (m := field (.ref z) 2) (wpAny_field hz rfl (x := .bool false) rfl ?_)
  refine wpAny_bind (m := field (.ref z) 3) (wpAny_field hz rfl (x := .ref TI) rfl ?_)
  refine wpAny_bind (wpAny_seqItems hti rfl ?_)
  refine wpAny_bind (free_or hz mark ?_ ?_)
  · rw [if_pos rfl]
    refine wpAny_bind (wpAny_rule (wpAny_bind (wpAny_field hz rfl (x := .ref TO) rfl (wpAny_bind (wpAny_setField_rec hz (by simp) fun g0 z0 k0 => ?_)))))
    replace z0 : g0.get? z = some (zipObj .ellipsis b TI TO) := z0
    replace k0 : Heap.SameBut z hp g0 := k0
    refine wpAny_bind ?_
    simp only [List.zipIdx_cons, List.zipIdx_nil, List.forIn_cons, List.forIn_nil]
    refine wpAny_bind (wpAny_bind (wpAny_onRaise ?_))
    show wpAny _ _ (Builtin.SmallTypes.nextOf (.ref i1) >>= _) _ _ ⟨g0, g, d, tk0, os⟩
    refine wpAny_bind (wpAny_nextOf_tuple_end (s := ⟨g0, g, d, tk0, os⟩) hh (h1.at fun o q => ext_of k0 _ _ ap.zi1.symm q) (u1.at fun o q => ext_of k0 _ _ ap.zt1.symm q) hx fun g1 e k1 he => ?_)
    replace k1 : Heap.ExtBut i1 g0 g1 := k1
    obtain ⟨oe, he, hc⟩ := he
    replace he : g1.get? e = some oe := he
    have z1 : g1.get? z = some (zipObj .ellipsis b TI TO) := k1 _ _ ap.zi1 z0
    have ez : e ≠ z := by
      rintro rfl
      rw [z1] at he
      cases he
      simp at hc
    refine wpAny_setField_rec (s := ⟨g1, g, d, tk0, os⟩) z1 (by simp) fun g2 _ k2 => ?_
    replace k2 : Heap.SameBut z g1 g2 := k2
    exact hE g2 e (fun c o cz cT c1 c2 q => ext_of k2 _ _ cz (k1 _ _ c1 (ext_of k0 _ _ cz q))) ⟨oe, ext_of k2 _ _ ez he, hc⟩
  · intro h0 b' z0 s0 k0
    replace k0 : ∀ c o, c ≠ z → hp.get? c = some o → h0.get? c = some o := k0
    rw [if_neg (by decide)]
    refine wpAny_bind ?_
    simp only [List.forIn_toArray, List.forIn_cons, List.forIn_nil]
    refine wpAny_bind (wpAny_bind (wpAny_holding ?_))
    show wpAny _ _ (Builtin.SmallTypes.nextOf (.ref i1) >>= _) _ _ ⟨h0, g, d, tk0, os⟩
    refine wpAny_bind (wpAny_nextOf_tuple_end (s := ⟨h0, g, d, tk0, os⟩) hh (h1.at fun o q => k0 _ _ ap.zi1.symm q) (u1.at fun o q => k0 _ _ ap.zt1.symm q) hx fun g1 e k1 he => ?_)
    replace k1 : Heap.ExtBut i1 h0 g1 := k1
    exact hE g1 e (fun c o cz cT c1 c2 q => k1 _ _ c1 (k0 _ _ cz q)) he
theorem zipType {f0 : Value} {b : Bool} (hz : s.heap.get? z = some (zipObj f0 b TI TO)) : s.TypeIs (.ref z) "zip" := ⟨_, hz, rfl⟩
/-- next(z) within a built-in -/
theorem zip_drawn {Q E' : Value → Shared → Prop} (hz : ZipAt s.heap z TI TO) (h : wpAny (model prog w) A.in1 (Builtin.«zip.__next__» ⟨[.ref z], []⟩) (fun fin s' => ∃ v, fin = .done (.ret v) ∧ Q v s') E' s) :
    wpAny (model prog w) A (Builtin.SmallTypes.nextOf (.ref z)) Q E' s := by
  obtain ⟨f0, b, e, _⟩ := hz
  unfold Builtin.SmallTypes.nextOf
  refine wpAny_bind (wpAny_callSpecial?_slot (name := Str.ofString "__next__") (zipType e) F.slot_zip_next (wpAny_call_entry F.slot_zip_next (zipType e) F.entry_zip_next ?_ (F.args_zip_next_1 _)))
  refine wpAny_mono h ?_ (fun _ _ q => q)
  rintro fin s' ⟨v, rfl, q⟩
  exact ⟨v, rfl, wpAny_pure q⟩
theorem zip_itself {Q : Value → Shared → Prop} (hz : ZipAt s.heap z TI TO) (h : Q (.ref z) s) : wpAny (model prog w) A (pyIter (.ref z)) Q E s := by
  obtain ⟨f0, b, e, _⟩ := hz
  exact wpAny_pyIter_slot (zipType e) F.slot_zip_iter (wpAny_call_entry F.slot_zip_iter (zipType e) F.entry_zip_iter (wpAny_pure ⟨_, rfl, "zip", _, zipType e, F.slot_zip_next.lookup, h⟩) (F.args_zip_iter_1 _))
end
/-- enumerate(v, start=k) as a call -/
theorem enum_made {prog : Program} {w : World} {A : Around} {E : Value → Shared → Prop} {s : Shared} {v : Value} {rv : Heap → Value} {f : Heap → Heap} {W : Heap → Prop} {k : Int} {t : Tok} {Q : Value → Shared → Prop}
    (IT : ∀ (prog : Program) (w : World) (A : Around) (E : Value → Shared → Prop) (s : Shared) (Q : Value → Shared → Prop), W s.heap → Q (rv s.heap) { s with heap := f s.heap } → wpAny (model prog w) A (pyIter v) Q E s)
    (h0 : -(2 ^ 63) ≤ k) (h1 : k < 2 ^ 63) (hw : W s.heap)
    (h : Q (.ref (f s.heap).objs.size) { s with heap := (f s.heap).push (enumObj (rv s.heap) k) }) :
    wpAny (model prog w) A (call (.type "enumerate") [v] [(Str.ofString "start", .int k t)]) Q E s := by
  refine callType_newKw F.called_enumerate (by decide) (F.typeCall_enumerate_start _ _) (F.newCall_enumerate_start _ _) (fun obj => F.args_object_init_start obj _ _) F.entry_enumerate_new (meets_enum_kw IT k t (fits_start h0 h1)) ⟨hw, ?_⟩
  exact ⟨⟨_, Heap.get?_push_size _ rfl, rfl⟩, h⟩
/-- the keyword call of a built-in type -/
theorem callType_kw {M : Model} {A : Around} {E : Value → Shared → Prop} {s : Shared} {env : Env} {pos : Pos} {T : String} {e : Expr} {rest : List Expr} {kws : List Keyword} {Q : Value → Shared → Prop}
    (h : wpAny M A (spliced (backTo pos (starEach (e :: rest) env))) (fun vs s1 => wpAny M A (evalAll ((backToKw pos (keywordEach kws env)).map (·.2)))
      (fun us s2 => wpAny M A (call (.type T) vs (((backToKw pos (keywordEach kws env)).filterMap (·.1)).zip us)) Q E s2) E s1) E s)
    (he : starEach (e :: rest) env = (false, eval e env) :: starEach rest env) (hp : (backTo pos (starEach (e :: rest) env)).any (·.1) = false)
    (ha : (backToKw pos (keywordEach kws env)).all (·.1.isSome) = true) (hn : (backToKw pos (keywordEach kws env)).any (·.1.isNone) = false) :
    wpAny M A (callWith pos (.type T) [] (backTo pos (starEach (e :: rest) env)) (backToKw pos (keywordEach kws env))) Q E s := by
  have z := evalArgs_kw2 (f := .type T) (Q := fun a s1 => wpAny M A (call (.type T) a.pos a.kw) Q E s1) ha h he
  unfold callWith
  refine wpAny_bind (wpAny_holding (wpAny_mono z (fun a s1 q => wpAny_bind (wpAny_standAt ?_)) fun _ _ q => q))
  rw [hp, hn]
  simp only [Bool.or_false]
  refine wpAny_bind (wpAny_pure ?_)
  exact wpAny_bind (wpAny_mono q (fun r s2 hr => wpAny_bind (wpAny_holding (wpAny_point (wpAny_pure hr)))) fun _ _ q => q)
end EL

/- part E5 -/
namespace EL
open PySem PySem.Spec PyProof.Rows L2
open PySem.W (Frag)
/-! ### enumerate(zip(t, u), start=k) -/
/-- each turn: a new pair of the two items, a new pair of the count and that pair -/
def Itez (K : Frag) (a b : Addr) (k : Int) : It :=
  ⟨fun i H => ∃ (xs ys : List V) (x y : V), SqT K H a xs ∧ SqT K H b ys ∧ xs[i]? = some x ∧ ys[i]? = some y,
    fun i H v H' => ∃ (T0 T1 : Addr) (x y : V), v = .ref T1 ∧ H T0 = none ∧ H T1 = none ∧ T0 ≠ T1 ∧ H' = upd (upd H T0 (.tup [x, y])) T1 (.tup [.int (k + i), .ref T0]) ∧ (∀ xs, SqT K H a xs → xs[i]? = some x) ∧ ∀ ys, SqT K H b ys → ys[i]? = some y,
    fun i H => ∃ xs ys : List V, SqT K H a xs ∧ SqT K H b ys ∧ xs.length ≤ i⟩
def TurnEz (e z TI TO i1 i2 t1 t2 : Addr) (k : Int) (i : Nat) (h : Heap) : Prop :=
  (∃ old, IsEnum h e z (k + i) old) ∧ ZipAt h z TI TO ∧ IsTupOf2 h TI (.ref i1) (.ref i2) ∧ (∃ a b, IsTupOf2 h TO a b) ∧ h.IsTupleIter i1 t1 i ∧ h.IsTupleIter i2 t2 i
theorem fp_mem {e z TI TO i1 i2 b : Addr} (h : b ∈ [e, z, TI, TO, i1, i2]) : b = e ∨ b = z ∨ b = TI ∨ b = TO ∨ b = i1 ∨ b = i2 := by simpa using h
theorem fpOk_upd {X : Cx} {pins : List (Addr × Obj)} {H : Hp} {b T : Addr} {o : HO} (f : FpOk X pins H b) (h : b ≠ T) : FpOk X pins (upd H T o) b :=
  ⟨by rw [upd_ne h]; exact f.1, f.2⟩
theorem turn_ez {P : Program} {w : World} {K : Frag} {elts : List Expr} {kk : Nat} {tpos : Pos} {e z TI TO i1 i2 t1 t2 : Addr} {k : Int} (ap : Apart z TI TO i1 i2 t1 t2)
    (ne : ∀ b ∈ [z, TI, TO, i1, i2], e ≠ b) (te1 : t1 ≠ e) (te2 : t2 ≠ e) :
    Turn P w K (.Tuple elts kk tpos) (Itez K t1 t2 k) [e, z, TI, TO, i1, i2] e (TurnEz e z TI TO i1 i2 t1 t2 k) where
  mem := by simp
  obj := fun i h st b hb => by
    obtain ⟨⟨old, he⟩, ⟨f0, b0, hz, _⟩, hti, ⟨a1, a2, hto⟩, ⟨o1, q1, _, d1⟩, ⟨o2, q2, _, d2⟩⟩ := st
    rcases fp_mem hb with q | q | q | q | q | q <;> subst q
    · exact ⟨_, he, fun v q => nomatch q⟩
    · exact ⟨_, hz, fun v q => nomatch q⟩
    · exact ⟨_, hti, fun v q => nomatch q⟩
    · exact ⟨_, hto, fun v q => nomatch q⟩
    · exact ⟨o1, q1, fun v q => by rw [d1] at q; cases q⟩
    · exact ⟨o2, q2, fun v q => by rw [d2] at q; cases q⟩
  keep := fun i h h' st kp => by
    obtain ⟨⟨old, he⟩, ⟨f0, b0, hz, m⟩, hti, ⟨a1, a2, hto⟩, h1, h2⟩ := st
    exact ⟨⟨old, kp e (by simp) _ he⟩, ⟨f0, b0, kp z (by simp) _ hz, m⟩, kp TI (by simp) _ hti, ⟨a1, a2, kp TO (by simp) _ hto⟩, h1.at fun o q => kp i1 (by simp) o q, h2.at fun o q => kp i2 (by simp) o q⟩
  item := by
    intro X hP hw hK hc i pins s σ H E I hf st hg
    subst hP hw hK
    obtain ⟨⟨old, he⟩, hz, hti, hto, h1, h2⟩ := st
    obtain ⟨xs, ys, x, y, hqx, hqy, hx, hy⟩ := hg
    obtain ⟨its, rv, p, _⟩ := I.tuple hqx
    obtain ⟨its2, rv2, p2, _⟩ := I.tuple hqy
    obtain ⟨u, hu, ru⟩ := rv.get hx
    obtain ⟨u2, hu2, ru2⟩ := rv2.get hy
    have old_lt : ∀ {b o}, s.heap.get? b = some o → b < s.heap.objs.size := fun q => Heap.lt_size q
    have le : e < s.heap.objs.size := old_lt he
    have typ : s.TypeIs (.ref e) "enumerate" := ⟨_, he, rfl⟩
    have ez : e ≠ z := ne z (by simp)
    unfold pyNext
    refine wpAny_bind (wpAny_attempt (wpAny_callSpecial?_slot (name := Str.ofString "__next__") typ F.slot_enumerate_next (wpAny_call_entry F.slot_enumerate_next typ F.entry_enumerate_next
      (wpAny_mono (enum_turn (R := fun v h1 => v = .ref s.heap.objs.size ∧ ZipSt h1 z TI TO i1 i2 t1 t2 its.toArray its2.toArray (i + 1) ∧ IsTupOf2 h1 s.heap.objs.size u u2 ∧ h1.objs.size = s.heap.objs.size + 1 ∧
          ∀ c o, c ≠ z → c ≠ TO → c ≠ i1 → c ≠ i2 → s.heap.get? c = some o → h1.get? c = some o)
        (Q := fun v s' => wpAny (model X.prog X.w) X.A (letOwnedTupleGo (.Tuple elts kk tpos) (.ref e) v) (fun _ s2 => ∃ x H', Inv X pins σ H' s2 ∧ RelV x v ∧ (Itez X.K t1 t2 k).yld i H x H' ∧ TurnEz e z TI TO i1 i2 t1 t2 k (i + 1) s2.heap ∧ ∀ b ∈ [e, z, TI, TO, i1, i2], H' b = none) E s')
        he (fun Q' E' hq => zip_drawn hz (zip_turn ap ⟨hz, hti, hto, h1, h2, p, p2⟩ (by simpa using hu) (by simpa using hu2) fun h' tk st' t' z' k' => hq _ h' tk ?_ ⟨rfl, st', t', z', k'⟩)) ?_) ?_ (fun _ _ q => q)) (F.args_enumerate_next_1 _))))
    · exact k' e _ ez (ne TO (by simp)) (ne i1 (by simp)) (ne i2 (by simp)) he
    · rintro v g1 g2 tk ⟨rfl, st1, pr, z1, k1⟩ _ eo tp z2 k2
      have lt1 : e < g1.objs.size := by rw [z1]; exact Nat.lt_succ_of_lt le
      refine wpAny_letOwnedTupleGo_enum (s := { s with heap := g2, toks := tk + 1 }) eo fun g3 e3 k3 => ?_
      replace k3 : Heap.SameBut e g2 g3 := k3
      -- the pair of the zip, then the pair of the enumerate
      have I1 : Inv X pins σ (upd H s.heap.objs.size (.tup [x, y])) { s with heap := g1, toks := tk } :=
        I.turnedNew (ch := [z, TO, i1, i2]) (fun c o hc q => k1 c o (fun q' => hc (by simp [q'])) (fun q' => hc (by simp [q'])) (fun q' => hc (by simp [q'])) (fun q' => hc (by simp [q'])) q)
          (fun b hb => hf b (by
            have q : b = z ∨ b = TO ∨ b = i1 ∨ b = i2 := by simpa using hb
            rcases q with q | q | q | q <;> simp [q])) (Nat.le_refl _)
          ⟨by show 2 ≤ sizeLine; decide, [u, u2], .cons ru (.cons ru2 .nil), ⟨_, pr, rfl, _, rfl⟩⟩
      have n1 : e ≠ s.heap.objs.size := Nat.ne_of_lt le
      have T1 : g3.get? g1.objs.size = some { cls := .type "tuple", data := .seq #[.int (k + i) tk, .ref s.heap.objs.size] } := ext_of k3 _ _ (Nat.ne_of_gt lt1) tp
      have I2 : Inv X pins σ (upd (upd H s.heap.objs.size (.tup [x, y])) g1.objs.size (.tup [.int (k + i), .ref s.heap.objs.size])) { s with heap := g3, toks := tk + 1 } :=
        I1.turnedNew (ch := [e]) (fun c o hc q => ext_of k3 _ _ (fun q' => hc (by simp [q'])) (k2 c o (fun q' => hc (by simp [q'])) q))
          (fun b hb => by
            have q : b = e := by simpa using hb
            subst q
            exact fpOk_upd (hf _ (by simp)) n1) (Nat.le_refl _)
          ⟨by show 2 ≤ sizeLine; decide, [.int (k + i) tk, .ref s.heap.objs.size], .cons ⟨_, rfl⟩ (.cons rfl .nil), ⟨_, T1, rfl, _, rfl⟩⟩
      have lz : ∀ b ∈ [e, z, TI, TO, i1, i2], b < s.heap.objs.size := by
        intro b hb
        rcases fp_mem hb with q | q | q | q | q | q <;> subst q
        · exact le
        · exact let ⟨_, _, q, _⟩ := hz; old_lt q
        · exact old_lt hti
        · exact let ⟨_, _, q⟩ := hto; old_lt q
        · exact let ⟨_, q, _⟩ := h1; old_lt q
        · exact let ⟨_, q, _⟩ := h2; old_lt q
      have f0 : H s.heap.objs.size = none := I.hok.fresh (Nat.le_refl _)
      have f1 : H g1.objs.size = none := I.hok.fresh (by rw [z1]; omega)
      refine ⟨.ref g1.objs.size, _, I2, rfl, ⟨s.heap.objs.size, g1.objs.size, x, y, rfl, f0, f1, by rw [z1]; exact Nat.ne_of_lt (Nat.lt_succ_self _), rfl, fun l hl => by rw [I.tuple_inj hl hqx]; exact hx, fun l hl => by rw [I.tuple_inj hl hqy]; exact hy⟩, ⟨⟨.ref s.heap.objs.size, ?_⟩, ?_, ?_, ?_, ?_, ?_⟩, fun b hb => ?_⟩
      · have q : (k + ((i + 1 : Nat) : Int)) = k + i + 1 := by omega
        rw [q]
        exact e3
      · obtain ⟨f, b, q, m⟩ := st1.zip
        exact ⟨f, b, ext_of k3 _ _ ez.symm (k2 _ _ ez.symm q), m⟩
      · exact ext_of k3 _ _ (ne TI (by simp)).symm (k2 _ _ (ne TI (by simp)).symm st1.ti)
      · obtain ⟨a1, a2, q⟩ := st1.to
        exact ⟨a1, a2, ext_of k3 _ _ (ne TO (by simp)).symm (k2 _ _ (ne TO (by simp)).symm q)⟩
      · exact st1.it1.at fun o q => ext_of k3 _ _ (ne i1 (by simp)).symm (k2 _ _ (ne i1 (by simp)).symm q)
      · exact st1.it2.at fun o q => ext_of k3 _ _ (ne i2 (by simp)).symm (k2 _ _ (ne i2 (by simp)).symm q)
      · have q := lz b hb
        rw [upd_ne (by rw [z1]; exact Nat.ne_of_lt (Nat.lt_succ_of_lt q)), upd_ne (Nat.ne_of_lt q)]
        exact (hf b hb).1
    · rintro fin s' ⟨v, rfl, q⟩
      exact ⟨v, rfl, wpAny_pure ⟨v, rfl, q⟩⟩
  done := by
    intro X hP hw hK hc i pins s σ H E I hf st hg
    subst hP hw hK
    obtain ⟨⟨old, he⟩, hz, hti, hto, h1, h2⟩ := st
    obtain ⟨xs, ys, hqx, hqy, hx⟩ := hg
    obtain ⟨its, rv, p, _⟩ := I.tuple hqx
    obtain ⟨its2, rv2, p2, _⟩ := I.tuple hqy
    have l1 := rv.length
    have typ : s.TypeIs (.ref e) "enumerate" := ⟨_, he, rfl⟩
    unfold pyNext
    refine wpAny_bind (wpAny_attempt (wpAny_callSpecial?_slot (name := Str.ofString "__next__") typ F.slot_enumerate_next (wpAny_call_entry F.slot_enumerate_next typ F.entry_enumerate_next ?_ (F.args_enumerate_next_1 _))))
    refine wpAny_bind (m := field (.ref e) 2) (wpAny_field he rfl (x := .ref z) rfl (wpAny_bind (zip_drawn hz ?_)))
    refine zip_over (I.ok.hd hc) ap ⟨hz, hti, hto, h1, h2, p, p2⟩ (by simp; omega) fun h' x k' hx' => ?_
    obtain ⟨o, ho, hcls⟩ := hx'
    refine wpAny_bind (wpAny_isInstance (T := "StopIteration") (b := true) ⟨o, ho, hcls⟩ isSubtype_stop (wpAny_pure ⟨rfl, ?_⟩))
    exact I.turnedL (t' := s.toks) (ch := [z, TO, i1, i2]) (fun c o hc q => k' c o (fun q' => hc (by simp [q'])) (fun q' => hc (by simp [q'])) (fun q' => hc (by simp [q'])) (fun q' => hc (by simp [q'])) q)
      (fun b hb => hf b (by
        have q : b = z ∨ b = TO ∨ b = i1 ∨ b = i2 := by simpa using hb
        rcases q with q | q | q | q <;> simp [q]))
  self := fun A i s Q E st h => let ⟨⟨_, he⟩, _⟩ := st; wpAny_pyIter_enum he h
end EL

/- part E6 -/
namespace EL
open PySem PySem.Spec PyProof.Rows L2
open PySem.W (Frag)
/-- the keyword's constant -/
theorem start_kw {X : Cx} {pos : Pos} {k : Int} {j : Nat} {p kp : Pos} {E : Value → Shared → Prop} {s : Shared} {Q : List Value → Shared → Prop} (h : Q [.int k s.toks] { s with toks := s.toks + 1 }) :
    wpAny (model X.prog X.w) X.A (evalAll ((backToKw pos (keywordEach [⟨some "start", .Constant (.int k) j p, kp⟩] X.env)).map (·.2))) Q E s := by
  show wpAny _ _ (evalAll ((do let v ← eval (.Constant (.int k) j p) X.env; standAt pos; pure v) :: [])) _ _ s
  exact wpAny_evalAll_cons (wpAny_bind (wpAny_Constant_int (wpAny_bind (wpAny_standAt (wpAny_pure (wpAny_evalAll_nil h))))))
theorem zip_apart (N a b : Addr) (ha : a < N) (hb : b < N) : Apart (N + 4) (N + 2) (N + 3) N (N + 1) a b := by
  constructor <;> intro q <;> simp only [Addr] at * <;> omega
def iEz (K : Frag) (k : Int) (ta : TA) : TI := fun σ H R => ta σ H fun vs H1 => ∃ a b xs ys, vs = [.ref a, .ref b] ∧ SqT K H1 a xs ∧ SqT K H1 b ys ∧ R (Itez K a b k) H1
theorem pi_ez {X : Cx} {e e2 : Expr} {ta : TA} {p p2 pos pos2 tpos cp kp : Pos} {elts : List Expr} {kk j : Nat} {k : Int} (hg : Gl X "enumerate") (hm : X.mg "enumerate" = none) (hg2 : Gl X "zip") (hm2 : X.mg "zip" = none) (ha : PA X [e, e2] ta)
    (h0 : -(2 ^ 63) ≤ k) (h1 : k < 2 ^ 63)
    (hs : starEach [e, e2] X.env = (false, eval e X.env) :: starEach [e2] X.env := by rfl) (hpl : (backTo pos2 (starEach [e2] X.env)).any (·.1) = false := by rfl) :
    PI X (.Tuple elts kk tpos) (.Call (.Name "enumerate" p) [.Call (.Name "zip" p2) [e, e2] [] pos2] [⟨some "start", .Constant (.int k) j cp, kp⟩] pos) (iEz X.K k ta) := by
  refine ⟨fun pins s σ H R I h => ?_⟩
  apply wpAny_Call_Name_kw
  refine ld_blt I hg hm boot_enumerate ?_
  refine callType_kw (e := .Call (.Name "zip" p2) [e, e2] [] pos2) (rest := []) ?_ rfl rfl rfl rfl
  show wpAny _ _ (spliced [(false, eval (.Call (.Name "zip" p2) [e, e2] [] pos2) X.env)]) _ _ _
  refine Calls.spliced_cons ?_
  refine Call_ (ld_blt I hg2 hm2 PyProof.Rows.boot_zip (PyProof.Rows.callWith_type1 (thn (ha.run pos2 pins s σ H _ I h) ?_) hs hpl))
  rintro us s1 ⟨vs, H1, I1, r1, a, b, xs, ys, rfl, hqx, hqy, q⟩
  obtain ⟨ua, ub, rfl, ra, rb⟩ := vals2 r1
  cases (show ua = Value.ref a from ra)
  cases (show ub = Value.ref b from rb)
  obtain ⟨its, rv, pa, _⟩ := I1.tuple hqx
  obtain ⟨its2, rv2, pb, _⟩ := I1.tuple hqy
  refine zip_begins2 (begins_tuple a its.toArray) (begins_tuple b its2.toArray) pa pb fun h' hz hti hto hi1 hi2 hsz hk => ?_
  have I2 : Inv X pins σ H1 { s1 with heap := h' } := I1.kept (t' := s1.toks) hk
  refine Calls.spliced_nil (start_kw ?_)
  have za : ZipAt h' (s1.heap.objs.size + 4) (s1.heap.objs.size + 2) (s1.heap.objs.size + 3) := ⟨.none, false, hz, .inl rfl⟩
  refine enum_made (W := fun h => ZipAt h (s1.heap.objs.size + 4) (s1.heap.objs.size + 2) (s1.heap.objs.size + 3)) (rv := fun _ => .ref (s1.heap.objs.size + 4)) (f := fun h => h) (fun prog w A E s Q hw hq => zip_itself hw hq) h0 h1 za ?_
  have he : IsEnum (h'.push (enumObj (.ref (s1.heap.objs.size + 4)) k)) (s1.heap.objs.size + 5) (s1.heap.objs.size + 4) k .none := by
    have z := Heap.get?_push_size h' (o := enumObj (.ref (s1.heap.objs.size + 4)) k) rfl
    rw [hsz] at z
    exact z
  show wpAny _ _ (pyIter (.ref h'.objs.size)) _ _ _
  rw [hsz]
  refine wpAny_pyIter_enum he ?_
  have I3 : Inv X pins σ H1 { s1 with heap := h'.push (enumObj (.ref (s1.heap.objs.size + 4)) k), toks := s1.toks + 1 } := I1.kept fun c o q => Heap.get?_push_of_some _ (hk c o q)
  have up : ∀ c o, h'.get? c = some o → (h'.push (enumObj (.ref (s1.heap.objs.size + 4)) k)).get? c = some o := fun c o q => Heap.get?_push_of_some _ q
  have la : a < s1.heap.objs.size := pa.lt
  have lb : b < s1.heap.objs.size := pb.lt
  refine ⟨s1.heap.objs.size + 5, [s1.heap.objs.size + 5, s1.heap.objs.size + 4, s1.heap.objs.size + 2, s1.heap.objs.size + 3, s1.heap.objs.size, s1.heap.objs.size + 1], _, _, H1, rfl, I3,
    turn_ez (zip_apart s1.heap.objs.size a b la lb) (fun b hb => ?_) ?_ ?_, ⟨⟨.none, ?_⟩, ⟨.none, false, up _ _ hz, .inl rfl⟩, up _ _ hti, ⟨_, _, up _ _ hto⟩, ⟨_, up _ _ hi1, rfl, rfl⟩, ⟨_, up _ _ hi2, rfl, rfl⟩⟩, fun c hc => ?_, q⟩
  · have q : b = s1.heap.objs.size + 4 ∨ b = s1.heap.objs.size + 2 ∨ b = s1.heap.objs.size + 3 ∨ b = s1.heap.objs.size ∨ b = s1.heap.objs.size + 1 := by simpa using hb
    intro z
    simp only [Addr] at *
    omega
  · intro z
    simp only [Addr] at *
    omega
  · intro z
    simp only [Addr] at *
    omega
  · have q : k + ((0 : Nat) : Int) = k := by omega
    rw [q]
    exact he
  · have q := fp_mem hc
    have hle : s1.heap.objs.size ≤ c := by
      simp only [Addr] at *
      omega
    exact I1.fpOk hle (I1.hok.fresh hle)
/-! ### enumerate(t, start=k) -/
def Ites (K : Frag) (a : Addr) (k : Int) : It :=
  ⟨fun i H => ∃ (xs : List V) (x : V), SqT K H a xs ∧ xs[i]? = some x, fun i H v H' => ∃ T x, v = .ref T ∧ H T = none ∧ H' = upd H T (.tup [.int (k + i), x]) ∧ ∀ xs, SqT K H a xs → xs[i]? = some x, fun i H => ∃ xs : List V, SqT K H a xs ∧ xs.length ≤ i⟩
def TurnEs (e it t : Addr) (k : Int) (i : Nat) (h : Heap) : Prop := (∃ old, IsEnum h e it (k + i) old) ∧ h.IsTupleIter it t i
theorem turn_es {P : Program} {w : World} {K : Frag} {elts : List Expr} {kk : Nat} {tpos : Pos} {e it t : Addr} {k : Int} (ne : e ≠ it) : Turn P w K (.Tuple elts kk tpos) (Ites K t k) [e, it] e (TurnEs e it t k) where
  mem := by simp
  obj := fun i h st b hb => by
    obtain ⟨⟨old, he⟩, ⟨o1, q1, _, d1⟩⟩ := st
    have q : b = e ∨ b = it := by simpa using hb
    rcases q with q | q <;> subst q
    · exact ⟨_, he, fun v q => nomatch q⟩
    · exact ⟨o1, q1, fun v q => by rw [d1] at q; cases q⟩
  keep := fun i h h' st kp => by
    obtain ⟨⟨old, he⟩, h1⟩ := st
    exact ⟨⟨old, kp e (by simp) _ he⟩, h1.at fun o q => kp it (by simp) o q⟩
  item := by
    intro X hP hw hK hc i pins s σ H E I hf st hg
    subst hP hw hK
    obtain ⟨⟨old, he⟩, h1⟩ := st
    obtain ⟨xs, x, hqx, hx⟩ := hg
    obtain ⟨its, rv, p, _⟩ := I.tuple hqx
    obtain ⟨u, hu, ru⟩ := rv.get hx
    have le : e < s.heap.objs.size := Heap.lt_size he
    have typ : s.TypeIs (.ref e) "enumerate" := ⟨_, he, rfl⟩
    unfold pyNext
    refine wpAny_bind (wpAny_attempt (wpAny_callSpecial?_slot (name := Str.ofString "__next__") typ F.slot_enumerate_next (wpAny_call_entry F.slot_enumerate_next typ F.entry_enumerate_next
      (wpAny_mono (enum_turn (R := fun v h' => v = u ∧ h'.IsTupleIter it t (i + 1) ∧ Heap.SameBut it s.heap h')
        (Q := fun v s' => wpAny (model X.prog X.w) X.A (letOwnedTupleGo (.Tuple elts kk tpos) (.ref e) v) (fun _ s2 => ∃ x H', Inv X pins σ H' s2 ∧ RelV x v ∧ (Ites X.K t k).yld i H x H' ∧ TurnEs e it t k (i + 1) s2.heap ∧ ∀ b ∈ [e, it], H' b = none) E s')
        he (fun Q' E' hq => wpAny_nextOf_tuple_item h1 p (x := u) (by simpa using hu) fun h' st' k' => hq _ h' s.toks (ext_of k' _ _ ne he) ⟨rfl, st', k'⟩) ?_) ?_ (fun _ _ q => q)) (F.args_enumerate_next_1 _))))
    · rintro v g1 g2 tk ⟨rfl, st1, k1⟩ lt1 eo tp z2 k2
      refine wpAny_letOwnedTupleGo_enum (s := { s with heap := g2, toks := tk + 1 }) eo fun g3 e3 k3 => ?_
      replace k3 : Heap.SameBut e g2 g3 := k3
      have T1 : g3.get? g1.objs.size = some { cls := .type "tuple", data := .seq #[.int (k + i) tk, v] } := ext_of k3 _ _ (Nat.ne_of_gt lt1) tp
      have sz : s.heap.objs.size = g1.objs.size := k1.1.symm
      have I2 : Inv X pins σ (upd H g1.objs.size (.tup [.int (k + i), x])) { s with heap := g3, toks := tk + 1 } :=
        I.turnedNew (ch := [e, it]) (fun c o hc q => ext_of k3 _ _ (fun q' => hc (by simp [q'])) (k2 c o (fun q' => hc (by simp [q'])) (ext_of k1 _ _ (fun q' => hc (by simp [q'])) q)))
          hf (Nat.le_of_eq sz) ⟨by show 2 ≤ sizeLine; decide, [.int (k + i) tk, v], .cons ⟨_, rfl⟩ (.cons ru .nil), ⟨_, T1, rfl, _, rfl⟩⟩
      refine ⟨.ref g1.objs.size, _, I2, rfl, ⟨g1.objs.size, x, rfl, I.hok.fresh (Nat.le_of_eq sz), rfl, fun l hl => by rw [I.tuple_inj hl hqx]; exact hx⟩, ⟨⟨v, ?_⟩, ?_⟩, fun b hb => ?_⟩
      · have q : (k + ((i + 1 : Nat) : Int)) = k + i + 1 := by omega
        rw [q]
        exact e3
      · exact st1.at fun o q => ext_of k3 _ _ ne.symm (k2 _ _ ne.symm q)
      · have q : b < g1.objs.size := by
          have q : b = e ∨ b = it := by simpa using hb
          rcases q with q | q <;> subst q
          · exact lt1
          · exact let ⟨_, q, _⟩ := st1; Heap.lt_size q
        rw [upd_ne (Nat.ne_of_lt q)]
        exact (hf b hb).1
    · rintro fin s' ⟨v, rfl, q⟩
      exact ⟨v, rfl, wpAny_pure ⟨v, rfl, q⟩⟩
  done := by
    intro X hP hw hK hc i pins s σ H E I hf st hg
    subst hP hw hK
    obtain ⟨⟨old, he⟩, h1⟩ := st
    obtain ⟨xs, hqx, hx⟩ := hg
    obtain ⟨its, rv, p, _⟩ := I.tuple hqx
    have l1 := rv.length
    have typ : s.TypeIs (.ref e) "enumerate" := ⟨_, he, rfl⟩
    unfold pyNext
    refine wpAny_bind (wpAny_attempt (wpAny_callSpecial?_slot (name := Str.ofString "__next__") typ F.slot_enumerate_next (wpAny_call_entry F.slot_enumerate_next typ F.entry_enumerate_next ?_ (F.args_enumerate_next_1 _))))
    refine wpAny_bind (m := field (.ref e) 2) (wpAny_field he rfl (x := .ref it) rfl (wpAny_bind ?_))
    refine wpAny_nextOf_tuple_end (I.ok.hd hc) h1 p (by simp; omega) fun h' x k' hx' => ?_
    obtain ⟨o, ho, hcls⟩ := hx'
    refine wpAny_bind (wpAny_isInstance (T := "StopIteration") (b := true) ⟨o, ho, hcls⟩ isSubtype_stop (wpAny_pure ⟨rfl, ?_⟩))
    exact I.turnedL (t' := s.toks) (ch := [it]) (fun c o hc q => k' c o (fun q' => hc (by simp [q'])) q) (fun b hb => hf b (by
      have q : b = it := by simpa using hb
      simp [q]))
  self := fun A i s Q E st h => let ⟨⟨_, he⟩, _⟩ := st; wpAny_pyIter_enum he h
def iEs (K : Frag) (k : Int) (ta : TA) : TI := fun σ H R => ta σ H fun vs H1 => ∃ a xs, vs = [.ref a] ∧ SqT K H1 a xs ∧ R (Ites K a k) H1
theorem pi_es {X : Cx} {e : Expr} {ta : TA} {p pos tpos cp kp : Pos} {elts : List Expr} {kk j : Nat} {k : Int} (hg : Gl X "enumerate") (hm : X.mg "enumerate" = none) (ha : PA X [e] ta) (h0 : -(2 ^ 63) ≤ k) (h1 : k < 2 ^ 63)
    (hs : starEach [e] X.env = (false, eval e X.env) :: starEach [] X.env := by rfl) (hpl : (backTo pos (starEach [e] X.env)).any (·.1) = false := by rfl) :
    PI X (.Tuple elts kk tpos) (.Call (.Name "enumerate" p) [e] [⟨some "start", .Constant (.int k) j cp, kp⟩] pos) (iEs X.K k ta) := by
  refine ⟨fun pins s σ H R I h => ?_⟩
  apply wpAny_Call_Name_kw
  refine ld_blt I hg hm boot_enumerate (callType_kw (thn (ha.run pos pins s σ H _ I h) ?_) hs hpl rfl rfl)
  rintro us s1 ⟨vs, H1, I1, r1, a, xs, rfl, hqx, q⟩
  cases r1 with
  | cons ra rn =>
    cases rn
    cases ra
    obtain ⟨its, rv, pa, _⟩ := I1.tuple hqx
    refine start_kw (enum_begins_start (begins_tuple a its.toArray) pa h0 h1 fun h' he hit hsz hk => wpAny_pyIter_enum he ?_)
    refine ⟨s1.heap.objs.size + 1, [s1.heap.objs.size + 1, s1.heap.objs.size], _, _, H1, rfl, I1.kept (t' := s1.toks + 1) hk, turn_es (Nat.succ_ne_self _), ⟨⟨.none, ?_⟩, ⟨_, hit, rfl, rfl⟩⟩, fun c hc => ?_, q⟩
    · have q : k + ((0 : Nat) : Int) = k := by omega
      rw [q]
      exact he
    · have q : c = s1.heap.objs.size + 1 ∨ c = s1.heap.objs.size := by simpa using hc
      have hle : s1.heap.objs.size ≤ c := by
        simp only [Addr] at *
        omega
      exact I1.fpOk hle (I1.hok.fresh hle)
end EL

/- part E7 -/
/-! enumerate(t) over a tuple; loops over enumerate -/
namespace EL
open PySem PySem.Spec PyProof.Rows L2
open PySem.W (Frag)
theorem tcall_enum_1 (a : Value) : checkTypeCall "enumerate" ⟨[a], []⟩ = pure () := by kernel_rfl
set_option maxHeartbeats 2000000 in
theorem meets_enum_1 {v : Value} {rv : Heap → Value} {f : Heap → Heap} {W : Heap → Prop}
    (IT : ∀ (prog : Program) (w : World) (A : Around) (E : Value → Shared → Prop) (s : Shared) (Q : Value → Shared → Prop), W s.heap → Q (rv s.heap) { s with heap := f s.heap } → wpAny (model prog w) A (pyIter v) Q E s) :
    Meets (Builtin.«enumerate.__new__» ⟨[.type "enumerate", v], []⟩) (fun _ R s => W s.heap ∧ R (.ok (.ret (.ref (f s.heap).objs.size))) { s with heap := (f s.heap).push (enumObj (rv s.heap) 0) }) :=
  .of_wp fun prog w A R s h => by
    obtain ⟨hp, g, d, tk, os⟩ := s
    obtain ⟨h1, h⟩ := h
    have sub := sub_enumerate
    have go : ∀ {A' : Around} {E : Value → Shared → Prop} {Q : Value → Shared → Prop}, Q (rv hp) ⟨f hp, g, d, tk, os⟩ → wpAny (model prog w) A' (pyIter v) Q E ⟨hp, g, d, tk, os⟩ := fun q => IT prog w _ _ ⟨hp, g, d, tk, os⟩ _ h1 q
    wp_walk using go
    refine wpAny_stack_any fun st => wpAny_pure ?_
    split
    · rename_i c _ _ _ _ _
      cases (c == Value.type "enumerate")
      · wp_walk using go
        exact ⟨_, rfl, h⟩
      · wp_walk using go
        exact ⟨_, rfl, h⟩
    · wp_walk using go
      exact ⟨_, rfl, h⟩
theorem enum_begins_1 {prog : Program} {w : World} {A : Around} {E : Value → Shared → Prop} {s : Shared} {v : Value} {o : Obj} {H : Heap → Prop} {Q : Value → Shared → Prop} (B : Begins v o H) (h : H s.heap)
    (q : ∀ h' : Heap, IsEnum h' (s.heap.objs.size + 1) s.heap.objs.size 0 .none → h'.get? s.heap.objs.size = some o → h'.objs.size = s.heap.objs.size + 2 → (∀ (b : Addr) (o : Obj), s.heap.get? b = some o → h'.get? b = some o) → Q (.ref (s.heap.objs.size + 1)) { s with heap := h' }) :
    wpAny (model prog w) A (call (.type "enumerate") [v]) Q E s := by
  refine callType_new F.called_enumerate (by decide) (F.typeCall_enumerate_1 _) (F.newCall_enumerate_1 _) (fun obj => F.args_object_init_2 obj _) F.entry_enumerate_new
    (meets_enum_1 (W := H) (rv := fun h => .ref h.objs.size) (f := fun h => h.push o) fun prog w A E s Q hw hq => B.iter prog w A E s Q hw hq) ⟨h, ?_⟩
  have z : (s.heap.push o).objs.size = s.heap.objs.size + 1 := Heap.size_push ..
  have e1 : IsEnum ((s.heap.push o).push (enumObj (.ref s.heap.objs.size) 0)) (s.heap.objs.size + 1) s.heap.objs.size 0 .none := by
    have y := Heap.get?_push_size (s.heap.push o) (o := enumObj (.ref s.heap.objs.size) 0) rfl
    rw [z] at y
    exact y
  refine ⟨⟨_, Heap.get?_push_size _ rfl, rfl⟩, ?_⟩
  show Q (.ref (s.heap.push o).objs.size) _
  rw [z]
  refine q _ e1 (Heap.get?_push_of_some _ (Heap.get?_push_size _ B.free)) ((Heap.size_push ..).trans (by rw [z])) fun b o' hb => Heap.get?_push_of_some _ (Heap.get?_push_of_some _ hb)
theorem evalAll_nil {M : Model} {A : Around} {E : Value → Shared → Prop} {s : Shared} {Q : List Value → Shared → Prop} (h : Q [] s) : wpAny M A (evalAll []) Q E s := wpAny_pure h
def iE1 (K : Frag) (ta : TA) : TI := fun σ H R => ta σ H fun vs H1 => ∃ a xs, vs = [.ref a] ∧ SqT K H1 a xs ∧ R (Ites K a 0) H1
theorem pi_e1 {X : Cx} {e : Expr} {ta : TA} {p pos tpos : Pos} {elts : List Expr} {kk : Nat} (hg : Gl X "enumerate") (hm : X.mg "enumerate" = none) (ha : PA X [e] ta)
    (hs : starEach [e] X.env = (false, eval e X.env) :: starEach [] X.env := by rfl) (hpl : (backTo pos (starEach [e] X.env)).any (·.1) = false := by rfl) :
    PI X (.Tuple elts kk tpos) (.Call (.Name "enumerate" p) [e] [] pos) (iE1 X.K ta) := by
  refine ⟨fun pins s σ H R I h => ?_⟩
  apply wpAny_Call_Name_kw
  refine ld_blt I hg hm boot_enumerate (callType_kw (thn (ha.run pos pins s σ H _ I h) ?_) hs hpl rfl rfl)
  rintro us s1 ⟨vs, H1, I1, r1, a, xs, rfl, hqx, q⟩
  cases r1 with
  | cons ra rn =>
    cases rn
    cases ra
    obtain ⟨its, rv, pa, _⟩ := I1.tuple hqx
    refine evalAll_nil (enum_begins_1 (begins_tuple a its.toArray) pa fun h' he hit hsz hk => wpAny_pyIter_enum he ?_)
    refine ⟨s1.heap.objs.size + 1, [s1.heap.objs.size + 1, s1.heap.objs.size], _, _, H1, rfl, I1.kept (t' := s1.toks) hk, turn_es (Nat.succ_ne_self _), ⟨⟨.none, ?_⟩, ⟨_, hit, rfl, rfl⟩⟩, fun c hc => ?_, q⟩
    · exact he
    · have q : c = s1.heap.objs.size + 1 ∨ c = s1.heap.objs.size := by simpa using hc
      have hle : s1.heap.objs.size ≤ c := by
        simp only [Addr] at *
        omega
      exact I1.fpOk hle (I1.hok.fresh hle)
/-! ### loops over them -/
/-- a turn of enumerate(t, start=k) -/
def YEs (k : Int) (xs : List V) : Nat → Hp → V → Hp → Prop := fun i H v H' => ∃ T x, v = V.ref T ∧ H T = none ∧ H' = upd H T (.tup [.int (k + i), x]) ∧ xs[i]? = some x
theorem walk_es {K : Frag} {a : Addr} {k : Int} {xs : List V} : Walk (Ites K a k) xs.length (fun H => SqT K H a xs) (YEs k xs) :=
  ⟨fun i H hi h => ⟨xs, xs[i], h, List.getElem?_eq_getElem hi⟩, fun H h => ⟨xs, h, Nat.le_refl _⟩, fun i H x H' hi h ⟨T, y, e, hT, hH, hy⟩ => ⟨T, y, e, hT, hH, hy xs h⟩⟩
/-- a turn of enumerate(zip(t, u), start=k) -/
def YEz (k : Int) (xs ys : List V) : Nat → Hp → V → Hp → Prop := fun i H v H' => ∃ T0 T1 x y, v = V.ref T1 ∧ H T0 = none ∧ H T1 = none ∧ T0 ≠ T1 ∧ H' = upd (upd H T0 (.tup [x, y])) T1 (.tup [.int (k + i), .ref T0]) ∧ xs[i]? = some x ∧ ys[i]? = some y
theorem walk_ez {K : Frag} {a b : Addr} {k : Int} {xs ys : List V} (hl : xs.length = ys.length) : Walk (Itez K a b k) xs.length (fun H => SqT K H a xs ∧ SqT K H b ys) (YEz k xs ys) :=
  ⟨fun i H hi h => ⟨xs, ys, xs[i], ys[i], h.1, h.2, List.getElem?_eq_getElem hi, List.getElem?_eq_getElem (hl ▸ hi)⟩, fun H h => ⟨xs, ys, h.1, h.2, Nat.le_refl _⟩,
   fun i H x H' hi h ⟨T0, T1, y, z, e, h0, h1, ne, hH, hy, hz⟩ => ⟨T0, T1, y, z, e, h0, h1, ne, hH, hy xs h.1, hz ys h.2⟩⟩
end EL

/- part U -/
/-! Operators by the values that they meet; how a reading goes on -/
namespace EL
open PySem PySem.Spec PyProof.Rows L2
open PySem.W (Frag)
section
variable {X : Cx}
/-! ### rules that take what comes -/
theorem PI.alt {tg e : Expr} {w1 w2 : TI} (h1 : PI X tg e w1) (h2 : PI X tg e w2) : PI X tg e (fun σ H R => w1 σ H R ∨ w2 σ H R) :=
  ⟨fun pins s σ H R I h => h.elim (h1.run pins s σ H R I) (h2.run pins s σ H R I)⟩
theorem get_list : PGet X (rIxL X.K) := by
  rintro pins s σ H o i ov iv Q I ro ri ⟨p, xs, k, v, rfl, rfl, hq, hv, q⟩
  cases ro
  obtain ⟨t, rfl⟩ := ri
  obtain ⟨its, r, pl, hz⟩ := I.list hq
  obtain ⟨j, h1, h2, h3, h4, h5⟩ := atI_get hv
  obtain ⟨u, hu, ru⟩ := r.get h2
  have hl := r.length
  have hn := line63
  by_cases h0 : 0 ≤ k
  · have hj : k.toNat = j := by
      rw [seqIndex_of h0 h5] at h1
      exact Option.some.inj h1
    exact wpAny_getItem_list pl.isList h0 (by omega) (by rw [hj]; simpa using hu) ⟨v, H, I, ru, q⟩
  · have hj : (k + (its.toArray.size : Int)).toNat = j := by
      rw [seqIndex_neg (by omega) h4] at h1
      rw [List.size_toArray, ← hl]
      exact Option.some.inj h1
    exact wpAny_getItem_list_neg pl.isList (by omega) (by rw [List.size_toArray] <;> omega) (by omega) (by rw [hj]; simpa using hu) ⟨v, H, I, ru, q⟩
abbrev rAddI : R2 := rI0 fun i j => .int (i + j)
def rAdd (K : Frag) : R2 := fun x y H Q => rAddI x y H Q ∨ rCat x y H Q ∨ rCatA K x y H Q
theorem u_add : OpR X (binaryOp .Add) (rAdd X.K) := op_add.or (op_cat.or op_catA)
def rMul : R2 := fun x y H Q => rI CMul (fun i j => .int (i * j)) x y H Q ∨ rRep x y H Q
theorem u_mul : OpR X (binaryOp .Mult) rMul := op_mul.or op_rep
def rEqU (K : Frag) : R2 := fun x y H Q => rEq x y H Q ∨ rEqD K x y H Q
def rNeU (K : Frag) : R2 := fun x y H Q => rNe x y H Q ∨ rNeD K x y H Q
theorem u_eq (hu : X.A.units + 64 < cLine) : OpR X (compareOp .Eq) (rEqU X.K) := op_eq.or (op_eqD hu)
theorem u_ne (hu : X.A.units + 64 < cLine) : OpR X (compareOp .NotEq) (rNeU X.K) := op_ne.or (op_neD hu)
abbrev rIsNone : R2 := fun x y H Q => y = .non ∧ Q (.bl (decide (x = .non))) H
abbrev rNotNone : R2 := fun x y H Q => y = .non ∧ Q (.bl (!decide (x = .non))) H
/-- x is True, for any x that is no bool, too -/
abbrev rIsTrue : R2 := rIsB
theorem op_notBI {X : Cx} : OpR X (compareOp .IsNot) (fun x y H Q => ∃ i b, x = .int i ∧ y = .bl b ∧ Q (.bl true) H) := by
  rintro pins s σ H x y v u Q I rx ry ⟨i, b, rfl, rfl, q⟩
  obtain ⟨t, rfl⟩ := rx
  cases ry
  have e : (Value.int i t == Value.bool b) = false := by rfl
  exact wpAny_pure ⟨.bl true, H, I, by rw [e]; rfl, q⟩
theorem op_isBI {X : Cx} : OpR X (compareOp .Is) (fun x y H Q => ∃ i b, x = .int i ∧ y = .bl b ∧ Q (.bl false) H) := by
  rintro pins s σ H x y v u Q I rx ry ⟨i, b, rfl, rfl, q⟩
  obtain ⟨t, rfl⟩ := rx
  cases ry
  have e : (Value.int i t == Value.bool b) = false := by rfl
  exact wpAny_pure ⟨.bl false, H, I, by rw [e]; rfl, q⟩
def rIsU : R2 := fun x y H Q => rIsNone x y H Q ∨ rIsB x y H Q ∨ ∃ i b, x = .int i ∧ y = .bl b ∧ Q (.bl false) H
def rNotU : R2 := fun x y H Q => rNotNone x y H Q ∨ rNotB x y H Q ∨ ∃ i b, x = .int i ∧ y = .bl b ∧ Q (.bl true) H
theorem u_is : OpR X (compareOp .Is) rIsU := op_isN.or (op_isBl.or op_isBI)
theorem u_isnot : OpR X (compareOp .IsNot) rNotU := op_notN.or (op_notBl.or op_notBI)
theorem u_in : OpR X (compareOp .In) (rIn X.K false) := op_in_seq
theorem u_notin : OpR X (compareOp .NotIn) (rIn X.K true) := op_notIn_seq
abbrev rLen (K : Frag) : List V → Hp → VK → Prop := fun xs H Q => ∃ p ys, xs = [.ref p] ∧ (SqL K H p ys ∨ SqT K H p ys) ∧ Q (.int ys.length) H
theorem u_len : CallR X (.builtin "len") (rLen X.K) := call_len_seq
def rIsiU (K : Frag) : List V → Hp → VK → Prop := fun xs H Q => rIsi K xs H Q ∨ rIsiT K xs H Q
theorem u_isi : CallR X (.builtin "isinstance") (rIsiU X.K) := call_isi.or call_isiT
abbrev rInt : List V → Hp → VK → Prop := fun xs H Q => (∃ i, xs = [.int i] ∧ Q (.int i) H) ∨ ∃ k, xs = [.bl k] ∧ Q (.int (if k then 1 else 0)) H
theorem u_int : CallR X (.type "int") rInt := call_int1
abbrev rList (K : Frag) : List V → Hp → VK → Prop := fun xs H Q => ∃ p ys, xs = [.ref p] ∧ (SqL K H p ys ∨ SqT K H p ys) ∧ ∀ l, H l = none → Q (.ref l) (upd H l (.lst ys))
theorem u_list : CallR X (.type "list") (rList X.K) := call_list_of
abbrev rTuple (K : Frag) : List V → Hp → VK → Prop := fun xs H Q => ∃ p ys, xs = [.ref p] ∧ ((SqL K H p ys ∧ ∀ l, H l = none → Q (.ref l) (upd H l (.tup ys))) ∨ (SqT K H p ys ∧ Q (.ref p) H))
theorem u_tuple : CallR X (.type "tuple") (rTuple X.K) := call_tuple_of
def rSlice (K : Frag) : V → Option Int → Option Int → Hp → VK → Prop := fun x lo hi H Q => rSlL K x lo hi H Q ∨ rSlA K x lo hi H Q
theorem u_slice : SlR X (rSlice X.K) := sl_list.or sl_tupA
def iSeq (K : Frag) (tl : TE) : TI := fun σ H R => iList K tl σ H R ∨ iTup K tl σ H R
theorem u_iter {tg l : Expr} {tl : TE} (hl : PE X l tl) : PI X tg l (iSeq X.K tl) := PI.alt (pi_list hl) (pi_tup hl)
theorem u_min (hc : X.calm = true) : CallR X (.builtin "min") (fun xs H Q => (∃ i j, xs = [.int i, .int j] ∧ Q (.int (if j < i then j else i)) H) ∨ rMin X.K xs H Q) := (call_min2 hc).or (cr_min hc)
theorem u_max (hc : X.calm = true) : CallR X (.builtin "max") (fun xs H Q => (∃ i j, xs = [.int i, .int j] ∧ Q (.int (if j > i then j else i)) H) ∨ rMax X.K xs H Q) := (call_max2 hc).or (cr_max hc)
end
/-! ### what stays: all but the bag at b -/
/-- everything else stays -/
def Kp (b : Addr) (H H' : Hp) : Prop := ∀ a o, a ≠ b → H a = some o → H' a = some o
theorem Kp.refl (b : Addr) (H : Hp) : Kp b H H := fun _ _ _ h => h
theorem Kp.trans {b : Addr} {H H1 H2 : Hp} (p : Kp b H H1) (q : Kp b H1 H2) : Kp b H H2 := fun a o n h => q a o n (p a o n h)
theorem Kp.new {b p : Addr} {H H1 : Hp} {o : HO} (k : Kp b H H1) (h : H1 p = none) : Kp b H (upd H1 p o) := fun a u n e => by
  have q := k a u n e
  rw [upd_ne (ne_of_none q h)]
  exact q
/-- an object that is new since H may change -/
theorem Kp.mut {b p : Addr} {H H1 : Hp} {o : HO} (k : Kp b H H1) (h : H p = none) : Kp b H (upd H1 p o) := fun a u n e => by
  rw [upd_ne (ne_of_none e h)]
  exact k a u n e
theorem Kp.bag {b : Addr} {H H1 : Hp} {o : HO} (k : Kp b H H1) : Kp b H (upd H1 b o) := fun a u n e => by
  rw [upd_ne n]
  exact k a u n e
theorem Kp.free {b p : Addr} {H H1 : Hp} (k : Kp b H H1) (h : H1 p = none) (n : p ≠ b) : H p = none := by
  cases q : H p with
  | none => rfl
  | some o =>
    rw [k p o n q] at h
    cases h
theorem same_kp {b : Addr} {H H' : Hp} (s : Same H H') : Kp b H H' := fun a o _ h => s a o h
/-! ### the way on, construct by construct -/
section
variable {σ : L2.St} {H : Hp} {Q : VK} {K : Frag}
theorem n_add {i j : Int} (q : Q (.int (i + j)) H) : rAdd K (.int i) (.int j) H Q := .inl ⟨i, j, rfl, rfl, q⟩
theorem n_cat {l m : Addr} {xs ys : List V} (h1 : H l = some (.lst xs)) (h2 : H m = some (.lst ys)) (z : xs.length + ys.length ≤ sizeLine) (q : ∀ p, H p = none → Q (.ref p) (upd H p (.lst (xs ++ ys)))) : rAdd K (.ref l) (.ref m) H Q :=
  .inr (.inl ⟨l, m, xs, ys, rfl, rfl, h1, h2, z, q⟩)
theorem n_mul {i j : Int} (c : CMul i j) (q : Q (.int (i * j)) H) : rMul (.int i) (.int j) H Q := .inl ⟨i, j, rfl, rfl, c, q⟩
theorem n_eq {x y : V} (s : scal x y = true) (q : Q (.bl (decide (x = y))) H) : rEqU K x y H Q := .inl ⟨s, q⟩
theorem n_ne {x y : V} (s : scal x y = true) (q : Q (.bl (!decide (x = y))) H) : rNeU K x y H Q := .inl ⟨s, q⟩
theorem n_eqD {x y : V} {d e : PyData} (hd : Dp K H x d) (he : Dp K H y e) (sd : SeqAt.shaped d = true) (se : SeqAt.shaped e = true) (q : Q (.bl (PyData.eqv d e)) H) : rEqU K x y H Q := .inr ⟨d, e, hd, he, sd, se, q⟩
theorem n_neD {x y : V} {d e : PyData} (hd : Dp K H x d) (he : Dp K H y e) (sd : SeqAt.shaped d = true) (se : SeqAt.shaped e = true) (q : Q (.bl (!PyData.eqv d e)) H) : rNeU K x y H Q := .inr ⟨d, e, hd, he, sd, se, q⟩
theorem n_isi {x : V} {n m : String} {b : Bool} (ty : TyX K H x (.type n)) (h : kitB n m = some b) (q : Q (.bl b) H) : rIsiU K [x, .ty m] H Q := .inl ⟨x, .ty m, _, _, b, rfl, .ty m, ty, kit_ty h, q⟩
theorem n_isiX {x : V} {t : Value} {m : String} {b : Bool} (ty : TyX K H x t) (h : PySem.W.kitOne K t (.type m) = some b) (q : Q (.bl b) H) : rIsiU K [x, .ty m] H Q := .inl ⟨x, .ty m, _, _, b, rfl, .ty m, ty, h, q⟩
theorem n_len {p : Addr} {ys : List V} (h : SqL K H p ys ∨ SqT K H p ys) (q : Q (.int ys.length) H) : rLen K [.ref p] H Q := ⟨p, ys, rfl, h, q⟩
theorem n_int {i : Int} (q : Q (.int i) H) : rInt [.int i] H Q := .inl ⟨i, rfl, q⟩
theorem n_ib {k : Bool} (q : Q (.int (if k then 1 else 0)) H) : rInt [.bl k] H Q := .inr ⟨k, rfl, q⟩
theorem n_ixL {p : Addr} {xs : List V} {i : Int} {v : V} (h : SqL K H p xs) (hi : atI xs i = some v) (q : Q v H) : rIx K (.ref p) (.int i) H Q := .inl ⟨p, xs, i, v, rfl, rfl, h, hi, q⟩
theorem n_ixT {p : Addr} {xs : List V} {i : Int} {v : V} (h : SqT K H p xs) (hi : atI xs i = some v) (q : Q v H) : rIx K (.ref p) (.int i) H Q := .inr (.inl ⟨p, xs, i, v, rfl, rfl, h, hi, q⟩)
theorem n_inT {x : V} {p : Addr} {xs : List V} (h : H p = some (.tup xs)) (f1 : flatV x = true) (f2 : xs.all flatV = true) (q : Q (.bl (inV x xs)) H) : rIn K false x (.ref p) H Q := ⟨p, xs, rfl, .inr (SqT.of h), f1, f2, q⟩
theorem n_inL {x : V} {p : Addr} {xs : List V} (h : H p = some (.lst xs)) (f1 : flatV x = true) (f2 : xs.all flatV = true) (q : Q (.bl (inV x xs)) H) : rIn K false x (.ref p) H Q := ⟨p, xs, rfl, .inl (SqL.of h), f1, f2, q⟩
theorem n_isN {x : V} (q : Q (.bl (decide (x = .non))) H) : rIsU x .non H Q := .inl ⟨rfl, q⟩
theorem n_notN {x : V} (q : Q (.bl (!decide (x = .non))) H) : rNotU x .non H Q := .inl ⟨rfl, q⟩
theorem n_isB {a b : Bool} (q : Q (.bl (decide (a = b))) H) : rIsU (.bl a) (.bl b) H Q := .inr (.inl ⟨a, b, rfl, rfl, q⟩)
theorem n_isBI {i : Int} {b : Bool} (q : Q (.bl false) H) : rIsU (.int i) (.bl b) H Q := .inr (.inr ⟨i, b, rfl, rfl, q⟩)
theorem n_notB {a b : Bool} (q : Q (.bl (!decide (a = b))) H) : rNotU (.bl a) (.bl b) H Q := .inr (.inl ⟨a, b, rfl, rfl, q⟩)
theorem n_notBI {i : Int} {b : Bool} (q : Q (.bl true) H) : rNotU (.int i) (.bl b) H Q := .inr (.inr ⟨i, b, rfl, rfl, q⟩)
end
end EL

/- part V -/
/-! the administrative steps of a reading -/
namespace EL
open PySem PySem.Spec PyProof.Rows L2
open PySem.W (Frag)
section
variable {σ : L2.St} {H : Hp} {Q : VK} {K : Frag} {i : Nat} {v : V} {D : Ends} {ta tb te tc : TE} {t u t1 t2 : TS} {c c2 : TT} {tl tr : TA} {g : TG}
theorem a_var (h : σ[i]? = some (some v)) (q : Q v H) : tVar i σ H Q := ⟨v, h, q⟩
theorem a_c (q : Q v H) : tC v σ H Q := q
theorem a_op {r : R2} (q : ta σ H fun x H1 => tb σ H1 fun y H2 => r x y H2 Q) : tOp r ta tb σ H Q := q
theorem a_un {r : V → Hp → VK → Prop} (q : ta σ H fun x H1 => r x H1 Q) : tUn r ta σ H Q := q
theorem a_U {j : Int} {f : Int → V} (q : Q (f j) H) : rU f (.int j) H Q := ⟨j, rfl, q⟩
theorem a_nil {R : List V → Hp → Prop} (q : R [] H) : tNil σ H R := q
theorem a_cons {R : List V → Hp → Prop} (q : te σ H fun x H1 => tl σ H1 fun xs H2 => R (x :: xs) H2) : tCons te tl σ H R := q
theorem a_cb {r : List V → Hp → VK → Prop} (q : tl σ H fun vs H1 => r vs H1 Q) : tCB r tl σ H Q := q
theorem a_call {sp : Sp} {E : XK} (q : tl σ H fun vs H1 => sp vs H1 Q E) : tCall sp [] E tl σ H Q := by
  show tl σ H fun vs H1 => sp (vs ++ []) H1 Q E
  simpa only [List.append_nil] using q
theorem a_I0 {f : Int → Int → V} {a b : Int} (q : Q (f a b) H) : rI0 f (.int a) (.int b) H Q := ⟨a, b, rfl, rfl, q⟩
theorem a_I {C : Int → Int → Prop} {f : Int → Int → V} {a b : Int} (hc : C a b) (q : Q (f a b) H) : rI C f (.int a) (.int b) H Q := ⟨a, b, rfl, rfl, hc, q⟩
theorem a_seq (q : t { D with nx := u D } σ H) : tSeq t u D σ H := q
theorem a_asg (q : te σ H fun x H1 => g x σ H1 D.nx) : tAsg te g D σ H := q
theorem a_sasg (q : te σ H fun x H1 => g x σ H1 (u D)) : tSeq (tAsg te g) u D σ H := q
theorem a_gn {R : L2.St → Hp → Prop} (q : R (σ.set i (some v)) H) : gName i v σ H R := q
theorem a_drop (q : te σ H fun _ H1 => D.nx σ H1) : tDrop te D σ H := q
theorem a_sdrop (q : te σ H fun _ H1 => u D σ H1) : tSeq (tDrop te) u D σ H := q
theorem a_ret (q : te σ H D.rt) : tRet te D σ H := q
theorem a_if (q : c σ H fun b H1 => if b = true then t1 D σ H1 else t2 D σ H1) : tIfS c t1 t2 D σ H := q
theorem a_next (q : D.nx σ H) : tNext D σ H := q
theorem a_nx {f k1 k2 : L2.St → Hp → Prop} {r : VK} (q : f σ H) : (Ends.mk f r k1 k2).nx σ H := q
theorem a_rt {f k1 k2 : L2.St → Hp → Prop} {r : VK} (q : r v H) : (Ends.mk f r k1 k2).rt v H := q
theorem a_test {R : Bool → Hp → Prop} (q : te σ H fun x H' => ∃ k, x = .bl k ∧ R k H') : tTest te σ H R := q
theorem a_B {R : Bool → Hp → Prop} (q : te σ H fun x H' => ∃ k, x = .bl k ∧ R k H') : tB te σ H R := q
theorem a_bl {R : Bool → Prop} {b : Bool} (q : R b) : ∃ k, V.bl b = V.bl k ∧ R k := ⟨b, rfl, q⟩
theorem a_and {R : Bool → Hp → Prop} (q : c σ H fun b H1 => if b = true then c2 σ H1 R else R false H1) : tAnd c c2 σ H R := q
theorem a_or {R : Bool → Hp → Prop} (q : c σ H fun b H1 => if b = true then R true H1 else c2 σ H1 R) : tOr c c2 σ H R := q
theorem a_not {R : Bool → Hp → Prop} (q : c σ H fun b H1 => R (!b) H1) : tNot c σ H R := q
theorem a_andV (q : ta σ H fun x H1 => ∃ b, x = .bl b ∧ if b = true then tb σ H1 Q else Q (.bl false) H1) : tAndV ta tb σ H Q := q
theorem a_orV (q : ta σ H fun x H1 => ∃ b, x = .bl b ∧ if b = true then Q (.bl true) H1 else tb σ H1 Q) : tOrV ta tb σ H Q := q
theorem a_notV (q : ta σ H fun x H1 => ∃ b, x = .bl b ∧ Q (.bl (!b)) H1) : tNotV ta σ H Q := q
theorem a_ifx (q : c σ H fun b H1 => if b = true then ta σ H1 Q else tb σ H1 Q) : tIf c ta tb σ H Q := q
theorem a_chain {r r' : R2} (q : ta σ H fun x H1 => tb σ H1 fun y H2 => r x y H2 fun z H3 => ∃ k, z = .bl k ∧ (if k = true then tc σ H3 fun w' H4 => r' y w' H4 Q else Q (.bl false) H3)) : tChain r r' ta tb tc σ H Q := q
theorem a_T {A B : Prop} (q : A) : if true = true then A else B := by rw [if_pos rfl]; exact q
theorem a_F {A B : Prop} (q : B) : if false = true then A else B := by rw [if_neg Bool.false_ne_true]; exact q
theorem a_nT {A B : Prop} (q : B) : if (!true) = true then A else B := q
theorem a_nF {A B : Prop} (q : A) : if (!false) = true then A else B := q
theorem a_fld {tv : TE} {f : Str} (q : tv σ H fun y H1 => ta σ H1 fun x H2 => ∃ a C dx fs, x = .ref a ∧ H2 a = some (.ins C dx fs) ∧ Cls K C ∧ NoAttr K C f ∧ fs.length < 1000 ∧ D.nx σ (upd H2 a (.ins C dx (putF f y fs)))) : sFld K ta tv f D σ H := q
theorem a_getF {f : Str} (q : ta σ H fun x H1 => ∃ a C dx fs v, x = .ref a ∧ H1 a = some (.ins C dx fs) ∧ Cls K C ∧ NoAttr K C f ∧ List.lookup f fs = some v ∧ Q v H1) : tFld K ta f σ H Q := q
theorem a_tup {es : TA} (q : es σ H fun xs H1 => xs.length ≤ sizeLine ∧ ∀ p, H1 p = none → Q (.ref p) (upd H1 p (.tup xs))) : tTup es σ H Q := q
theorem a_lst {es : TA} (q : es σ H fun xs H1 => xs.length ≤ sizeLine ∧ ∀ p, H1 p = none → Q (.ref p) (upd H1 p (.lst xs))) : tLst es σ H Q := q
theorem a_ntup {xs : List V} (z : xs.length ≤ sizeLine) (q : ∀ p, H p = none → Q (.ref p) (upd H p (.tup xs))) : xs.length ≤ sizeLine ∧ ∀ p, H p = none → Q (.ref p) (upd H p (.tup xs)) := ⟨z, q⟩
theorem a_nlst {xs : List V} (z : xs.length ≤ sizeLine) (q : ∀ p, H p = none → Q (.ref p) (upd H p (.lst xs))) : xs.length ≤ sizeLine ∧ ∀ p, H p = none → Q (.ref p) (upd H p (.lst xs)) := ⟨z, q⟩
theorem a_sub {to ti : TE} {ts : TSet} {R : L2.St → Hp → Prop} (q : to σ H fun o H1 => ti σ H1 fun j H2 => ts o j v H2 fun H3 => R σ H3) : gSub to ti ts v σ H R := q
theorem a_set {p : Addr} {xs : List V} {k : Int} {j : Nat} {R : Hp → Prop} (h : H p = some (.lst xs)) (hj : ixN xs.length k = some j) (q : R (upd H p (.lst (xs.set j v)))) : rSetL (.ref p) (.int k) v H R := ⟨p, xs, k, j, rfl, rfl, h, hj, q⟩
theorem a_augS {to ti te : TE} {tget : V → V → Hp → VK → Prop} {tip : TIp} {ts : TSet} (q : to σ H fun o H1 => ti σ H1 fun j H2 => tget o j H2 fun x H3 => te σ H3 fun y H4 => tip x y H4 fun z H5 => ts o j z H5 fun H6 => D.nx σ H6) :
    tAugS to ti te tget tip ts D σ H := q
theorem a_saugS {to ti te : TE} {tget : V → V → Hp → VK → Prop} {tip : TIp} {ts : TSet} (q : to σ H fun o H1 => ti σ H1 fun j H2 => tget o j H2 fun x H3 => te σ H3 fun y H4 => tip x y H4 fun z H5 => ts o j z H5 fun H6 => u D σ H6) :
    tSeq (tAugS to ti te tget tip ts) u D σ H := q
theorem a_getL {p : Addr} {xs : List V} {k : Int} (h : SqL K H p xs) (hk : atI xs k = some v) (q : Q v H) : rIxL K (.ref p) (.int k) H Q := ⟨p, xs, k, v, rfl, rfl, h, hk, q⟩
theorem a_ip {f : Int → Int → Int} {a b : Int} (q : Q (.int (f a b)) H) : ipI f (.int a) (.int b) H Q := ⟨a, b, rfl, rfl, q⟩
theorem a_aug {ti : TIp} {x : V} (h : σ[i]? = some (some x)) (q : te σ H fun y H1 => ti x y H1 fun z H2 => D.nx (σ.set i (some z)) H2) : tAug i te ti D σ H := ⟨x, h, q⟩
theorem a_saug {ti : TIp} {x : V} (h : σ[i]? = some (some x)) (q : te σ H fun y H1 => ti x y H1 fun z H2 => u D (σ.set i (some z)) H2) : tSeq (tAug i te ti) u D σ H := ⟨x, h, q⟩
theorem a_par {j : Nat} {a b : V} (q : tl σ H fun vs H1 => ∃ x y, vs = [x, y] ∧ D.nx ((σ.set i (some x)).set j (some y)) H1) : tPar i j tl D σ H := q
theorem a_spar {j : Nat} (q : tl σ H fun vs H1 => ∃ x y, vs = [x, y] ∧ u D ((σ.set i (some x)).set j (some y)) H1) : tSeq (tPar i j tl) u D σ H := q
theorem a_two {R : V → V → Prop} {a b : V} (q : R a b) : ∃ x y, [a, b] = [x, y] ∧ R x y := ⟨a, b, rfl, q⟩
theorem a_cut (M : L2.St → Hp → Prop) (h : t { D with nx := M } σ H) (k : ∀ σ' H', M σ' H' → u D σ' H') : Evl.tCut t u D σ H := ⟨M, h, k⟩
theorem a_abs {j : Int} {R : Int → Prop} (q : R j) : ∃ i, [V.int j] = [V.int i] ∧ R i := ⟨j, rfl, q⟩
theorem a_gtup {n : Nat} {ts : TGs} {a : Addr} {xs : List V} {R : L2.St → Hp → Prop} (h : SqT K H a xs) (z : xs.length = n) (q : ts xs σ H R) : gTup K n ts (.ref a) σ H R := ⟨a, xs, rfl, h, z, q⟩
theorem a_gcons {ts : TGs} {xs : List V} {R : L2.St → Hp → Prop} (q : g v σ H fun σ' H' => ts xs σ' H' R) : gCons g ts (v :: xs) σ H R := ⟨v, xs, rfl, q⟩
theorem a_gnil {R : L2.St → Hp → Prop} (q : R σ H) : gNil [] σ H R := ⟨rfl, q⟩
end
theorem a_pairs {tk tv : TE} {r : List (TE × TE)} {σ : L2.St} {H : Hp} {R : List (V × V) → Hp → Prop} (q : tk σ H fun k H1 => tv σ H1 fun v H2 => tPairs r σ H2 fun ps H3 => R ((k, v) :: ps) H3) : tPairs ((tk, tv) :: r) σ H R := q
theorem a_pairs0 {σ : L2.St} {H : Hp} {R : List (V × V) → Hp → Prop} (q : R [] H) : tPairs [] σ H R := q
theorem a_bm {K : Frag} {T : String} {r : V → List V → Hp → VK → Prop} {to : TE} {t : TA} {σ : L2.St} {H : Hp} {Q : VK} (q : to σ H fun x H1 => tyV K T x H1 ∧ t σ H1 fun xs H2 => r x xs H2 Q) : tBM K T r to t σ H Q := q
end EL

/- part W -/
/-! values by what they are: numbers, texts, tracked lists, tuples, dicts, books -/
namespace EL
open PySem PySem.Spec PyProof.Rows L2
open PySem.W (Frag)
/-- the built-in names that stand for themselves -/
structure Bi (mg : Str → Option Value) : Prop where
  len_ : mg "len" = none
  isinstance_ : mg "isinstance" = none
  int_ : mg "int" = none
  bool_ : mg "bool" = none
  str_ : mg "str" = none
  list_ : mg "list" = none
  tuple_ : mg "tuple" = none
  range_ : mg "range" = none
  enumerate_ : mg "enumerate" = none
  zip_ : mg "zip" = none
  abs_ : mg "abs" = none
  repr_ : mg "repr" = none
  min_ : mg "min" = none
  max_ : mg "max" = none
  sum_ : mg "sum" = none
  all_ : mg "all" = none
/-- a constant of the program -/
theorem pe_gc {X : Cx} {x : Str} {v : V} {pos : Pos} (hg : Gl X x) (h : ∃ u, X.mg x = some u ∧ L2.RelV v u) (hdb : (x == ("__debug__" : Str)) = false := by decide) : PE X (.Name x pos) (tC v) := by
  obtain ⟨u, h1, h2⟩ := h
  exact pe_glob hg h1 h2 hdb
/-- what isinstance asks of an own class -/
structure OwnC (K : Frag) (C : Addr) : Prop where
  cl : Cls K C
  cls : PySem.W.findIn K (.ref C) "__class__" = some (some (.builtin "object.__class__"))
  get : PySem.W.specialIn K (.builtin "object.__class__") "__get__" = some (some (.builtin "getset_descriptor.__get__"))
  tak : PySem.W.takesIn K (.builtin "object.__class__") = some true
  obj : PySem.W.mroIn K C (.type "object") = some true
  kInt : PySem.W.kitOne K (.ref C) (.type "int") = some false
  kBool : PySem.W.kitOne K (.ref C) (.type "bool") = some false
  kStr : PySem.W.kitOne K (.ref C) (.type "str") = some false
  kTup : PySem.W.kitOne K (.ref C) (.type "tuple") = some false
  kLst : PySem.W.kitOne K (.ref C) (.type "list") = some false
/-- a value that is known -/
inductive Th (K : Frag) (H : Hp) : V → Prop
  | non : Th K H .non
  | bl (b : Bool) : Th K H (.bl b)
  | int (i : Int) : Th K H (.int i)
  | str (x : Str) : Th K H (.str x)
  | lst {a : Addr} {xs : List V} (h : H a = some (.lst xs)) : Th K H (.ref a)
  | tup {a : Addr} {xs : List V} (h : H a = some (.tup xs)) : Th K H (.ref a)
  | dct {a : Addr} {kvs : List (Key × V)} (h : H a = some (.dK kvs)) : Th K H (.ref a)
  | ins {a C dx : Addr} {fs : List (Str × V)} (h : H a = some (.ins C dx fs)) (c : OwnC K C) : Th K H (.ref a)
def isI : V → Bool | .int _ => true | .bl _ => true | _ => false
def isB : V → Bool | .bl _ => true | _ => false
def isS : V → Bool | .str _ => true | _ => false
def obT : Option HO → Bool | some (.tup _) => true | _ => false
def obL : Option HO → Bool | some (.lst _) => true | _ => false
def isT (H : Hp) : V → Bool | .ref a => obT (H a) | _ => false
def isL (H : Hp) : V → Bool | .ref a => obL (H a) | _ => false
structure KitOf (K : Frag) (H : Hp) (x : V) (t : Value) : Prop where
  ty : TyX K H x t
  int : PySem.W.kitOne K t (.type "int") = some (isI x)
  bool : PySem.W.kitOne K t (.type "bool") = some (isB x)
  str : PySem.W.kitOne K t (.type "str") = some (isS x)
  tup : PySem.W.kitOne K t (.type "tuple") = some (isT H x)
  lst : PySem.W.kitOne K t (.type "list") = some (isL H x)
theorem Th.kit {K : Frag} {H : Hp} {x : V} (h : Th K H x) : ∃ t, KitOf K H x t := by
  cases h with
  | non => exact ⟨_, .base .non, kit_ty (by show _ = some false; decide +kernel), kit_ty (by show _ = some false; decide +kernel), kit_ty (by show _ = some false; decide +kernel), kit_ty (by show _ = some false; decide +kernel), kit_ty (by show _ = some false; decide +kernel)⟩
  | bl b => exact ⟨_, .base (.bl b), kit_ty (by show _ = some true; decide +kernel), kit_ty (by show _ = some true; decide +kernel), kit_ty (by show _ = some false; decide +kernel), kit_ty (by show _ = some false; decide +kernel), kit_ty (by show _ = some false; decide +kernel)⟩
  | int i => exact ⟨_, .base (.int i), kit_ty (by show _ = some true; decide +kernel), kit_ty (by show _ = some false; decide +kernel), kit_ty (by show _ = some false; decide +kernel), kit_ty (by show _ = some false; decide +kernel), kit_ty (by show _ = some false; decide +kernel)⟩
  | str s => exact ⟨_, .base (.str s), kit_ty (by show _ = some false; decide +kernel), kit_ty (by show _ = some false; decide +kernel), kit_ty (by show _ = some true; decide +kernel), kit_ty (by show _ = some false; decide +kernel), kit_ty (by show _ = some false; decide +kernel)⟩
  | @lst a xs h =>
    have e1 : isT H (.ref a) = false := by show obT (H a) = _; rw [h]; rfl
    have e2 : isL H (.ref a) = true := by show obL (H a) = _; rw [h]; rfl
    refine ⟨_, .base (.lst h), kit_ty (by show _ = some false; decide +kernel), kit_ty (by show _ = some false; decide +kernel), kit_ty (by show _ = some false; decide +kernel), ?_, ?_⟩
    · rw [e1]; exact kit_ty (by show _ = some _; decide +kernel)
    · rw [e2]; exact kit_ty (by show _ = some _; decide +kernel)
  | @tup a xs h =>
    have e1 : isT H (.ref a) = true := by show obT (H a) = _; rw [h]; rfl
    have e2 : isL H (.ref a) = false := by show obL (H a) = _; rw [h]; rfl
    refine ⟨_, .base (.tup h), kit_ty (by show _ = some false; decide +kernel), kit_ty (by show _ = some false; decide +kernel), kit_ty (by show _ = some false; decide +kernel), ?_, ?_⟩
    · rw [e1]; exact kit_ty (by show _ = some _; decide +kernel)
    · rw [e2]; exact kit_ty (by show _ = some _; decide +kernel)
  | @dct a kvs h =>
    have e1 : isT H (.ref a) = false := by show obT (H a) = _; rw [h]; rfl
    have e2 : isL H (.ref a) = false := by show obL (H a) = _; rw [h]; rfl
    refine ⟨_, .base (.dK h), kit_ty (by show _ = some false; decide +kernel), kit_ty (by show _ = some false; decide +kernel), kit_ty (by show _ = some false; decide +kernel), ?_, ?_⟩
    · rw [e1]; exact kit_ty (by show _ = some _; decide +kernel)
    · rw [e2]; exact kit_ty (by show _ = some _; decide +kernel)
  | @ins a C dx fs h c =>
    have e1 : isT H (.ref a) = false := by show obT (H a) = _; rw [h]; rfl
    have e2 : isL H (.ref a) = false := by show obL (H a) = _; rw [h]; rfl
    refine ⟨_, .base (.ins h c.cl c.cls c.get c.tak c.obj), c.kInt, c.kBool, c.kStr, ?_, ?_⟩
    · rw [e1]; exact c.kTup
    · rw [e2]; exact c.kLst
/-- a known value stays known -/
theorem Th.stay {K : Frag} {b : Addr} {l : List V} {H H' : Hp} {x : V} (h : Th K H x) (hb : H b = some (.lst l)) {l' : List V} (hb' : H' b = some (.lst l')) (k : Kp b H H') : Th K H' x := by
  cases h with
  | non => exact .non
  | bl b => exact .bl b
  | int i => exact .int i
  | str s => exact .str s
  | @lst a xs h =>
    by_cases e : a = b
    · subst e; exact .lst hb'
    · exact .lst (k _ _ e h)
  | @tup a xs h => exact .tup (k _ _ (fun z => by subst z; rw [hb] at h; cases h) h)
  | @dct a xs h => exact .dct (k _ _ (fun z => by subst z; rw [hb] at h; cases h) h)
  | @ins a C dx fs h c => exact .ins (k _ _ (fun z => by subst z; rw [hb] at h; cases h) h) c
section
variable {K : Frag} {H : Hp} {Q : VK} {x : V} {t : Value}
theorem n_isT {m : String} {b : Bool} (k : TyX K H x t) (h : PySem.W.kitOne K t (.type m) = some b) (q : Q (.bl b) H) : rIsiU K [x, .ty m] H Q := n_isiX k h q
theorem n_isInt (k : KitOf K H x t) (q : Q (.bl (isI x)) H) : rIsiU K [x, .ty "int"] H Q := n_isT k.ty k.int q
theorem n_isBool (k : KitOf K H x t) (q : Q (.bl (isB x)) H) : rIsiU K [x, .ty "bool"] H Q := n_isT k.ty k.bool q
theorem n_isStr (k : KitOf K H x t) (q : Q (.bl (isS x)) H) : rIsiU K [x, .ty "str"] H Q := n_isT k.ty k.str q
theorem n_isTup (k : KitOf K H x t) (q : Q (.bl (isT H x)) H) : rIsiU K [x, .ty "tuple"] H Q := n_isT k.ty k.tup q
theorem n_isLst (k : KitOf K H x t) (q : Q (.bl (isL H x)) H) : rIsiU K [x, .ty "list"] H Q := n_isT k.ty k.lst q
/-- isinstance(x, (list, tuple)), the tuple just laid -/
theorem n_isLT {p : Addr} (k : KitOf K H x t) (hp : H p = some (.tup [.ty "list", .ty "tuple"])) (q : Q (.bl (isL H x || isT H x)) H) : rIsiU K [x, .ref p] H Q := by
  refine .inr ⟨x, p, _, t, [.type "list", .type "tuple"], isL H x || isT H x, rfl, hp, .cons (.ty "list") (.cons (.ty "tuple") .nil), k.ty, ?_, q⟩
  refine kitAny_cons k.lst (fun e => ?_) (fun e => by rw [e]; rfl)
  rw [e]
  refine kitAny_cons k.tup (fun e2 => ?_) (fun e2 => by rw [e2]; rfl)
  rw [e2]
  rfl
end
theorem _root_.L2.Same.nw {H H1 : Hp} {p : Addr} {o : HO} (k : Same H H1) (h : H1 p = none) : Same H (upd H1 p o) := fun a u e => by
  have q := k a u e
  rw [upd_ne (ne_of_none q h)]
  exact q
/-- an object that is new since H may change -/
theorem _root_.L2.Same.mu {H H1 : Hp} {p : Addr} {o : HO} (k : Same H H1) (h : H p = none) : Same H (upd H1 p o) := fun a u e => by
  rw [upd_ne (ne_of_none e h)]
  exact k a u e
theorem Th.same {K : Frag} {H H' : Hp} {x : V} (h : Th K H x) (k : Same H H') : Th K H' x := by
  cases h with
  | non => exact .non
  | bl b => exact .bl b
  | int i => exact .int i
  | str s => exact .str s
  | lst h => exact .lst (k _ _ h)
  | tup h => exact .tup (k _ _ h)
  | dct h => exact .dct (k _ _ h)
  | ins h c => exact .ins (k _ _ h) c
/-! ### the class of a sequence; isinstance(x, (list, tuple)) of one -/
theorem _root_.L2.SqT.ty {K : Frag} {H : Hp} {a : Addr} {xs : List V} (h : SqT K H a xs) : TyX K H (.ref a) (.type "tuple") := by
  rcases h with (h | ⟨o, h⟩) | ⟨o, its, n, h, c, _⟩
  · exact .base (.tup h)
  · exact .fTuple h
  · exact .kTuple h c
theorem n_isLTl {K : Frag} {H : Hp} {Q : VK} {x : V} {p : Addr} (ty : TyX K H x (.type "list")) (hp : H p = some (.tup [.ty "list", .ty "tuple"])) (q : Q (.bl true) H) : rIsiU K [x, .ref p] H Q :=
  .inr ⟨x, p, _, _, [.type "list", .type "tuple"], true, rfl, hp, .cons (.ty "list") (.cons (.ty "tuple") .nil), ty, kitAny_cons (b := true) (kit_ty (by decide +kernel)) (fun e => nomatch e) (fun _ => rfl), q⟩
theorem n_isLTt {K : Frag} {H : Hp} {Q : VK} {x : V} {p : Addr} (ty : TyX K H x (.type "tuple")) (hp : H p = some (.tup [.ty "list", .ty "tuple"])) (q : Q (.bl true) H) : rIsiU K [x, .ref p] H Q :=
  .inr ⟨x, p, _, _, [.type "list", .type "tuple"], true, rfl, hp, .cons (.ty "list") (.cons (.ty "tuple") .nil), ty,
    kitAny_cons (b := false) (kit_ty (by decide +kernel)) (fun _ => kitAny_cons (b := true) (kit_ty (by decide +kernel)) (fun e => nomatch e) (fun _ => rfl)) (fun e => nomatch e), q⟩
/-- a list or a tuple, tracked or of the program's top -/
def SqA (K : Frag) (H : Hp) (a : Addr) (xs : List V) : Prop := H a = some (.lst xs) ∨ SqT K H a xs
theorem _root_.L2.SqT.same {K : Frag} {H H' : Hp} {a : Addr} {xs : List V} (h : SqT K H a xs) (s : Same H H') : SqT K H' a xs := by
  rcases h with (h | ⟨o, h⟩) | h
  · exact .inl (.inl (s _ _ h))
  · exact .inl (.inr ⟨o, s _ _ h⟩)
  · exact .inr h
theorem SqA.same {K : Frag} {H H' : Hp} {a : Addr} {xs : List V} (h : SqA K H a xs) (s : Same H H') : SqA K H' a xs := by
  rcases h with h | (h | ⟨o, h⟩) | h
  · exact .inl (s _ _ h)
  · exact .inr (.inl (.inl (s _ _ h)))
  · exact .inr (.inl (.inr ⟨o, s _ _ h⟩))
  · exact .inr (.inr h)
theorem SqA.isLT {K : Frag} {H : Hp} {Q : VK} {a p : Addr} {xs : List V} (h : SqA K H a xs) (hp : H p = some (.tup [.ty "list", .ty "tuple"])) (q : Q (.bl true) H) : rIsiU K [.ref a, .ref p] H Q := by
  rcases h with h | h
  · exact n_isLTl (.base (.lst h)) hp q
  · exact n_isLTt h.ty hp q
theorem SqA.len {K : Frag} {H : Hp} {a : Addr} {xs : List V} (h : SqA K H a xs) : SqL K H a xs ∨ SqT K H a xs := h.elim (fun h => .inl (SqL.of h)) .inr
theorem n_tuple {K : Frag} {H : Hp} {Q : VK} {a : Addr} {xs : List V} (h : SqA K H a xs) (q : ∀ r H', Same H H' → SqT K H' r xs → Q (.ref r) H') : rTuple K [.ref a] H Q := by
  rcases h with h | h
  · exact ⟨a, xs, rfl, .inl ⟨SqL.of h, fun l hl => q l _ (L2.Same.nw (Same.refl _) hl) (SqT.of upd_same)⟩⟩
  · exact ⟨a, xs, rfl, .inr ⟨h, q a H (Same.refl _) h⟩⟩
theorem SqT.kp {K : Frag} {H H' : Hp} {a o : Addr} {xs : List V} {C dx : Addr} {fs : List (Str × V)} (h : SqT K H a xs) (ho : H o = some (.ins C dx fs)) (k : Kp o H H') : SqT K H' a xs := by
  rcases h with (h | ⟨o, h⟩) | h
  · exact .inl (.inl (k _ _ (fun z => by subst z; rw [ho] at h; cases h) h))
  · exact .inl (.inr ⟨_, k _ _ (fun z => by subst z; rw [ho] at h; cases h) h⟩)
  · exact .inr h
theorem SqA.kp {K : Frag} {H H' : Hp} {a o : Addr} {xs : List V} {C dx : Addr} {fs : List (Str × V)} (h : SqA K H a xs) (ho : H o = some (.ins C dx fs)) (k : Kp o H H') : SqA K H' a xs := by
  rcases h with h | h
  · exact .inl (k _ _ (fun z => by subst z; rw [ho] at h; cases h) h)
  · exact .inr (SqT.kp h ho k)
theorem n_ixA {K : Frag} {H : Hp} {Q : VK} {p : Addr} {xs : List V} {i : Int} {v : V} (h : SqA K H p xs) (hi : atI xs i = some v) (q : Q v H) : rIx K (.ref p) (.int i) H Q := h.elim (fun h => n_ixL (SqL.of h) hi q) fun h => n_ixT h hi q
/-! ### loops -/
/-- the loop itself, its walk made -/
def Lp (J : It) (g : TG) (tb : TS) (D : Ends) (σ : L2.St) (H : Hp) : Prop := ∃ W : Nat → Nat → L2.St → Hp → Prop, (∃ m, W 0 m σ H) ∧ ∀ (i m : Nat) (σ : L2.St) (H : Hp), W i m σ H →
  (J.stop i H ∧ D.nx σ H) ∨ (J.go i H ∧ ∃ N : L2.St → Hp → Prop, (∀ σ' H', N σ' H' → ∃ m', m' < m ∧ W (i + 1) m' σ' H') ∧ ∀ x H', J.yld i H x H' → g x σ H' fun σ2 H2 => tb { nx := N, rt := D.rt, bk := D.nx, ct := N } σ2 H2)
section
variable {σ : L2.St} {H : Hp} {K : Frag} {D : Ends} {g : TG} {tb u : TS} {wi : TI} {ta : TA} {te : TE} {R : It → Hp → Prop}
theorem a_for (q : wi σ H fun J H1 => Lp J g tb D σ H1) : tFor wi g tb D σ H := q
theorem a_sfor (q : wi σ H fun J H1 => Lp J g tb { D with nx := u D } σ H1) : tSeq (tFor wi g tb) u D σ H := q
theorem a_iE1 (q : ta σ H fun vs H1 => ∃ a xs, vs = [.ref a] ∧ SqT K H1 a xs ∧ R (Ites K a 0) H1) : iE1 K ta σ H R := q
theorem a_iEs {k : Int} (q : ta σ H fun vs H1 => ∃ a xs, vs = [.ref a] ∧ SqT K H1 a xs ∧ R (Ites K a k) H1) : iEs K k ta σ H R := q
theorem a_iEz {k : Int} (q : ta σ H fun vs H1 => ∃ a b xs ys, vs = [.ref a, .ref b] ∧ SqT K H1 a xs ∧ SqT K H1 b ys ∧ R (Itez K a b k) H1) : iEz K k ta σ H R := q
theorem a_iEnum (q : ta σ H fun vs H1 => ∃ a xs, vs = [.ref a] ∧ SqL K H1 a xs ∧ R (Ite K a) H1) : iEnum K ta σ H R := q
theorem a_iSeq (q : iList K te σ H R ∨ iTup K te σ H R) : iSeq K te σ H R := q
theorem a_iTup (q : te σ H fun x H1 => ∃ a, x = .ref a ∧ (∃ xs, SqT K H1 a xs) ∧ R (Itt K a) H1) : iTup K te σ H R := q
theorem a_iList (q : te σ H fun x H1 => ∃ a, x = .ref a ∧ (∃ xs, SqL K H1 a xs) ∧ R (Itl K a) H1) : iList K te σ H R := q
theorem lp_it {J : It} {n : Nat} {G : Hp → Prop} {Y : Nat → Hp → V → Hp → Prop} (w : Walk J n G Y) (Pv : Nat → L2.St → Hp → Prop) (h0 : Pv 0 σ H) (hG : ∀ i σ H, i ≤ n → Pv i σ H → G H)
    (hs : ∀ i x σ H H', i < n → Pv i σ H → Y i H x H' → g x σ H' fun σ2 H2 => tb { nx := Pv (i + 1), rt := D.rt, bk := D.nx, ct := Pv (i + 1) } σ2 H2) (hd : ∀ σ H, Pv n σ H → D.nx σ H) : Lp J g tb D σ H := for_it w Pv h0 hG hs hd
theorem lp_range {lo : Int} {n : Nat} (Pv : Nat → L2.St → Hp → Prop) (h0 : Pv 0 σ H) (hs : ∀ i σ H, i < n → Pv i σ H → g (.int (lo + i)) σ H fun σ2 H2 => tb { nx := Pv (i + 1), rt := D.rt, bk := D.nx, ct := Pv (i + 1) } σ2 H2) (hd : ∀ σ H, Pv n σ H → D.nx σ H) :
    Lp (Itr lo n) g tb D σ H := for_range Pv h0 hs hd
end
/-! ### comprehensions -/
def Lc (J : It) (g : TG) (tt : TT) (te : TE) (vs : List Nat) (σ : L2.St) (H1 : Hp) (D : Addr) (Qd : Hp → Prop) : Prop := ∃ W : Nat → Nat → Hp → Prop, (∃ m, W 0 m (upd H1 D (.lst []))) ∧ ∀ (i m : Nat) (H : Hp), W i m H →
  (J.stop i H ∧ Qd H) ∨ (J.go i H ∧ ∃ Nx : Hp → Prop, (∀ H', Nx H' → ∃ m', m' < m ∧ W (i + 1) m' H') ∧ ∀ (x : V) (H' : Hp), J.yld i H x H' → g x (wipe σ vs) H' fun σ2 H2 => wipe σ2 vs = wipe σ vs ∧
    tt σ2 H2 fun b H3 => if b = true then te σ2 H3 fun y H4 => ∃ acc, H4 D = some (.lst acc) ∧ acc.length < sizeLine ∧ Nx (upd H4 D (.lst (acc ++ [y]))) else Nx H3)
section
variable {σ : L2.St} {H : Hp} {Q : VK} {g : TG} {tt : TT} {te : TE} {wi : TI} {vs : List Nat}
theorem a_lc (q : wi σ H fun J H1 => ∀ D, H1 D = none → Lc J g tt te vs σ H1 D fun H2 => Q (.ref D) H2) : tLc wi g tt te vs σ H Q := q
theorem lc_of {J : It} {n : Nat} {G : Hp → Prop} {Y : Nat → Hp → V → Hp → Prop} (w : Walk J n G Y) {H1 : Hp} {D : Addr} {Qd : Hp → Prop} (Pv : Nat → Hp → Prop) (h0 : Pv 0 (upd H1 D (.lst []))) (hG : ∀ i H, i ≤ n → Pv i H → G H)
    (hs : ∀ i x H H', i < n → Pv i H → Y i H x H' → g x (wipe σ vs) H' fun σ2 H2 => wipe σ2 vs = wipe σ vs ∧ tt σ2 H2 fun b H3 => if b = true then te σ2 H3 fun y H4 => ∃ acc, H4 D = some (.lst acc) ∧ acc.length < sizeLine ∧ Pv (i + 1) (upd H4 D (.lst (acc ++ [y]))) else Pv (i + 1) H3)
    (hd : ∀ H, Pv n H → Qd H) : Lc J g tt te vs σ H1 D Qd := lc_it w Pv h0 hG hs hd
theorem a_yes {R : Bool → Hp → Prop} (q : R true H) : tYes σ H R := q
theorem a_wp {A B : Prop} (a : A) (b : B) : A ∧ B := ⟨a, b⟩
theorem a_sl {r : V → Option Int → Option Int → Hp → VK → Prop} {tl th : TO} (q : te σ H fun x H1 => tl σ H1 fun l H2 => th σ H2 fun u H3 => r x l u H3 Q) : tSl r te tl th σ H Q := q
theorem a_nop {R : Option Int → Hp → Prop} (q : R none H) : tNoPart σ H R := q
theorem a_prt {R : Option Int → Hp → Prop} (q : te σ H fun x H1 => ∃ i, x = .int i ∧ R (some i) H1) : tPart te σ H R := q
theorem a_ex1 {R : Int → Prop} {i : Int} (q : R i) : ∃ j, V.int i = V.int j ∧ R j := ⟨i, rfl, q⟩
end
section
variable {σ : L2.St} {H : Hp} {ta : TA} {R : It → Hp → Prop}
theorem a_rng1 (q : ta σ H fun vs H1 => ∃ j : Int, vs = [.int j] ∧ -2 ^ 62 ≤ j ∧ j < 2 ^ 62 ∧ R (Itr 0 j.toNat) H1) : iRng1 ta σ H R := q
theorem a_rng2 (q : ta σ H fun vs H1 => ∃ i j : Int, vs = [.int i, .int j] ∧ (-2 ^ 62 ≤ i ∧ i < 2 ^ 62 ∧ -2 ^ 62 ≤ j ∧ j < 2 ^ 62) ∧ R (Itr i (j - i).toNat) H1) : iRng2 ta σ H R := q
end
end EL

/- part T -/
/-! tracked data: what is laid and known, with empty dicts; repr of it; t[::-1] of a tuple -/
namespace EL
open PySem PySem.Spec PyProof.Rows L2
open PySem.W (Frag)
mutual
inductive Tk (H : Hp) : V → PyData → Prop
  | non : Tk H .non .none
  | bl (b : Bool) : Tk H (.bl b) (.bool b)
  | int (i : Int) : Tk H (.int i) (.int i)
  | str (x : Str) : Tk H (.str x) (.str x)
  | lst {a : Addr} {xs : List V} {ds : List PyData} (h : H a = some (.lst xs)) (t : TkAll H xs ds) : Tk H (.ref a) (.list ds)
  | tup {a : Addr} {xs : List V} {ds : List PyData} (h : H a = some (.tup xs)) (t : TkAll H xs ds) : Tk H (.ref a) (.tuple ds)
  | dct {a : Addr} (h : H a = some (.dK [])) : Tk H (.ref a) (.dict [])
inductive TkAll (H : Hp) : List V → List PyData → Prop
  | nil : TkAll H [] []
  | cons {v : V} {vs : List V} {d : PyData} {ds : List PyData} (h : Tk H v d) (t : TkAll H vs ds) : TkAll H (v :: vs) (d :: ds)
end
mutual
theorem tk_same {H H' : Hp} (s : Same H H') : ∀ (d : PyData) (v : V), Tk H v d → Tk H' v d
  | .none, _, h => by cases h; exact .non
  | .bool _, _, h => by cases h; exact .bl _
  | .int _, _, h => by cases h; exact .int _
  | .str _, _, h => by cases h; exact .str _
  | .list ds, _, h => by
    cases h with
    | lst a t => exact .lst (s _ _ a) (tk_sameAll s ds _ t)
  | .tuple ds, _, h => by
    cases h with
    | tup a t => exact .tup (s _ _ a) (tk_sameAll s ds _ t)
  | .dict _, _, h => by
    cases h with
    | dct a => exact .dct (s _ _ a)
theorem tk_sameAll {H H' : Hp} (s : Same H H') : ∀ (ds : List PyData) (vs : List V), TkAll H vs ds → TkAll H' vs ds
  | [], _, h => by cases h; exact .nil
  | d :: ds, _, h => by
    cases h with
    | cons h1 h2 => exact .cons (tk_same s d _ h1) (tk_sameAll s ds _ h2)
end
theorem Tk.same {H H' : Hp} {v : V} {d : PyData} (h : Tk H v d) (s : Same H H') : Tk H' v d := tk_same s d v h
theorem TkAll.same {H H' : Hp} {v : List V} {d : List PyData} (h : TkAll H v d) (s : Same H H') : TkAll H' v d := tk_sameAll s d v h
theorem TkAll.mem {H : Hp} : ∀ {vs : List V} {ds : List PyData}, TkAll H vs ds → ∀ y ∈ vs, ∃ e, e ∈ ds ∧ Tk H y e
  | [], _, _, _, h => nomatch h
  | v :: vs, _, .cons h t, y, hy => by
    rcases List.mem_cons.mp hy with rfl | q
    · exact ⟨_, List.mem_cons_self .., h⟩
    · obtain ⟨e, m, k⟩ := TkAll.mem t y q
      exact ⟨e, List.mem_cons_of_mem _ m, k⟩
theorem TkAll.app {H : Hp} : ∀ {vs ws : List V} {ds es : List PyData}, TkAll H vs ds → TkAll H ws es → TkAll H (vs ++ ws) (ds ++ es)
  | [], _, _, _, .nil, h => h
  | _ :: _, _, _, _, .cons h t, k => .cons h (TkAll.app t k)
theorem TkAll.at_ {H : Hp} {vs : List V} {ds : List PyData} (h : TkAll H vs ds) : ∀ (i : Nat) (v : V), vs[i]? = some v → ∃ d, ds[i]? = some d ∧ Tk H v d := by
  induction vs generalizing ds with
  | nil => intro i v e; cases i <;> cases e
  | cons w ws ih =>
    intro i v e
    cases h with
    | cons h1 h2 =>
      cases i with
      | zero => cases e; exact ⟨_, rfl, h1⟩
      | succ i => exact ih h2 i v e
theorem tk_ints {H : Hp} : ∀ (js : List Int), TkAll H (js.map V.int) (js.map PyData.int)
  | [] => .nil
  | j :: r => .cons (.int j) (tk_ints r)
theorem Tk.th {K : Frag} {H : Hp} {v : V} {d : PyData} (h : Tk H v d) : Th K H v := by
  cases h with
  | non => exact .non
  | bl b => exact .bl b
  | int i => exact .int i
  | str x => exact .str x
  | lst h _ => exact .lst h
  | tup h _ => exact .tup h
  | dct h => exact .dct h
theorem Tk.el {H : Hp} {q : Addr} {d : PyData} {xs : List V} (h : Tk H (.ref q) d) (e : H q = some (.tup xs)) : ∃ ds, d = .tuple ds ∧ TkAll H xs ds := by
  cases h with
  | lst h _ => rw [h] at e; cases e
  | tup h t => rw [h] at e; cases e; exact ⟨_, rfl, t⟩
  | dct h => rw [h] at e; cases e
theorem Tk.elL {H : Hp} {q : Addr} {d : PyData} {xs : List V} (h : Tk H (.ref q) d) (e : H q = some (.lst xs)) : ∃ ds, d = .list ds ∧ TkAll H xs ds := by
  cases h with
  | lst h t => rw [h] at e; cases e; exact ⟨_, rfl, t⟩
  | tup h _ => rw [h] at e; cases e
  | dct h => rw [h] at e; cases e
theorem Tk.els {K : Frag} {H : Hp} {x : V} {d : PyData} (h : Tk H x d) (q : Addr) (xs : List V) (ex : x = .ref q) (e : H q = some (.tup xs)) : ∀ y ∈ xs, Th K H y := fun y hy => by
  subst ex
  obtain ⟨ds, _, t⟩ := h.el e
  obtain ⟨e, _, k⟩ := t.mem y hy
  exact k.th
/-! ### the heap without the bag -/
def wo (b : Addr) (H : Hp) : Hp := fun a => if a = b then none else H a
theorem wo_ne {b a : Addr} {H : Hp} {o : HO} (n : a ≠ b) (h : H a = some o) : wo b H a = some o := by unfold wo; rw [if_neg n]; exact h
theorem wo_same {b : Addr} {H : Hp} : Same (wo b H) H := fun a o h => by
  unfold wo at h
  by_cases e : a = b
  · rw [if_pos e] at h; cases h
  · rw [if_neg e] at h; exact h
theorem wo_kp {b : Addr} {H H' : Hp} (k : Kp b H H') : Same (wo b H) (wo b H') := fun a o h => by
  unfold wo at h
  by_cases e : a = b
  · rw [if_pos e] at h; cases h
  · rw [if_neg e] at h; exact wo_ne e (k a o e h)
theorem wo_sm {b : Addr} {H H' : Hp} (s : Same H H') : Same (wo b H) (wo b H') := wo_kp (same_kp s)
/-- known apart from the bag -/
abbrev TkB (b : Addr) (H : Hp) (v : V) (d : PyData) : Prop := Tk (wo b H) v d
theorem TkB.tk {b : Addr} {H : Hp} {v : V} {d : PyData} (h : TkB b H v d) : Tk H v d := h.same wo_same
theorem TkB.kp {b : Addr} {H H' : Hp} {v : V} {d : PyData} (h : TkB b H v d) (k : Kp b H H') : TkB b H' v d := h.same (wo_kp k)
/-! ### what can be shown -/
mutual
def gd : PyData → Bool
  | .none | .bool _ => true
  | .int i => decide (i.natAbs < 10 ^ 40)
  | .str x => x.cps.toList.all fun c => decide (c < 16 ^ 8)
  | .list xs | .tuple xs => gdAll xs
  | .dict kvs => kvs.isEmpty
def gdAll : List PyData → Bool
  | [] => true
  | x :: xs => gd x && gdAll xs
end
mutual
def noL : PyData → Bool
  | .list _ => false
  | .tuple xs => noLAll xs
  | _ => true
def noLAll : List PyData → Bool
  | [] => true
  | x :: xs => noL x && noLAll xs
end
structure Fine (d : PyData) : Prop where
  good : gd d = true
  bulk : d.bulk ≤ 300000
  depth : d.depth ≤ 40
  mix : d.hasDict = true → noL d = true
theorem pow10 : (10 : Nat) ^ 40 ≤ 2 ^ 1920 := by decide +kernel
mutual
theorem gd_showable : ∀ (d : PyData), gd d = true → d.showable = true
  | .none, _ => rfl
  | .bool _, _ => rfl
  | .str _, _ => rfl
  | .int i, h => by
    have q : i.natAbs < 10 ^ 40 := by simpa [gd] using h
    have q2 : i.natAbs < 2 ^ 1920 := Nat.lt_of_lt_of_le q pow10
    show decide (i.natAbs.log2 < 1920) = true
    rw [decide_eq_true_iff]
    by_cases e : i.natAbs = 0
    · rw [e]; decide
    · exact (Nat.log2_lt e).mpr q2
  | .list xs, h => gd_showableAll xs h
  | .tuple xs, h => gd_showableAll xs h
  | .dict [], _ => rfl
  | .dict (_ :: _), h => by cases h
theorem gd_showableAll : ∀ (ds : List PyData), gdAll ds = true → PyData.showableAll ds = true
  | [], _ => rfl
  | d :: ds, h => by
    have q : gd d = true ∧ gdAll ds = true := by simpa [gdAll] using h
    show (d.showable && PyData.showableAll ds) = true
    rw [gd_showable d q.1, gd_showableAll ds q.2]
    rfl
end
theorem int_shown {i : Int} (h : i.natAbs < 10 ^ 40) : (PyData.shown (.int i)).length ≤ 42 := by
  have q := int_text_length_le10 (a := i) (k := 40) (by decide) h
  have e : (PyData.shown (.int i)).length = (toString i).length := by
    show (Str.ofString (toString i)).length = _
    exact PySem.ofString_length _
  omega
mutual
theorem gd_short : ∀ (d : PyData), gd d = true → d.leavesShort 42 = true
  | .none, _ => rfl
  | .bool _, _ => rfl
  | .str _, h => h
  | .int i, h => by
    have q : i.natAbs < 10 ^ 40 := by simpa [gd] using h
    show decide (_ ≤ 42) = true
    rw [decide_eq_true_iff]
    exact int_shown q
  | .list xs, h => gd_shortAll xs h
  | .tuple xs, h => gd_shortAll xs h
  | .dict [], _ => rfl
  | .dict (_ :: _), h => by cases h
theorem gd_shortAll : ∀ (ds : List PyData), gdAll ds = true → PyData.leavesShortAll 42 ds = true
  | [], _ => rfl
  | d :: ds, h => by
    have q : gd d = true ∧ gdAll ds = true := by simpa [gdAll] using h
    show (d.leavesShort 42 && PyData.leavesShortAll 42 ds) = true
    rw [gd_short d q.1, gd_shortAll ds q.2]
    rfl
end
theorem Fine.len {d : PyData} (h : Fine d) : d.shown.length ≤ sizeLine := by
  have q := PyData.shown_le_bulk 42 (by decide) d (gd_short d h.good)
  have e : sizeLine = 16777216 := rfl
  have := h.bulk
  omega
/-! ### what the real heap has of it -/
section
variable {X : Cx} {pins : List (Addr × Obj)} {σ : L2.St} {H : Hp} {s : Shared}
mutual
theorem tk_reads (I : Inv X pins σ H s) : ∀ (d : PyData) (v : V) (u : Value), Tk H v d → RelV v u → ∃ as, Reads s.heap u d as ∧ (noL d = true → sysModules ∉ as)
  | .none, _, _, h, r => by
    cases h
    cases r
    exact ⟨_, Reads.none, fun _ => List.not_mem_nil⟩
  | .bool b, _, _, h, r => by
    cases h
    cases r
    exact ⟨_, Reads.bool b, fun _ => List.not_mem_nil⟩
  | .int i, _, _, h, r => by
    cases h
    obtain ⟨t, rfl⟩ := r
    exact ⟨_, Reads.int i t, fun _ => List.not_mem_nil⟩
  | .str x, _, _, h, r => by
    cases h
    obtain ⟨t, rfl⟩ := r
    exact ⟨_, Reads.str x t, fun _ => List.not_mem_nil⟩
  | .list ds, _, _, h, r => by
    cases h with
    | lst hs ha =>
      cases r
      obtain ⟨its, rv, ⟨o, n, ho, hc, _, hd⟩, _⟩ := I.list (SqL.of hs)
      obtain ⟨as, hr, _⟩ := tk_readsAll I ds _ its ha rv
      exact ⟨_, Reads.list ho hc hd hr, fun z => nomatch z⟩
  | .tuple ds, _, _, h, r => by
    cases h with
    | tup hs ha =>
      cases r
      obtain ⟨its, rv, ⟨o, ho, hc, n, hd⟩, _⟩ := I.tuple (SqT.of hs)
      obtain ⟨as, hr, hm⟩ := tk_readsAll I ds _ its ha rv
      exact ⟨_, Reads.tuple ho hc hd hr, hm⟩
  | .dict _, _, _, h, r => by
    cases h with
    | @dct p hp =>
      cases r
      obtain ⟨_, ns, vs, kv, o, es, ep, ho, ex, hd, _, pr, _⟩ := I.hok p _ hp
      cases kv
      have e0 : es.toList = [] := by
        generalize es.toList = l at pr
        cases pr
        rfl
      have e1 : es = #[] := Array.toList_inj.mp e0
      subst e1
      refine ⟨_, .dict ho ex.1 hd .nil .nil, fun _ z => ?_⟩
      have z' : sysModules = p := by simpa using z
      rw [← z'] at ns
      exact absurd ns (by decide)
theorem tk_readsAll (I : Inv X pins σ H s) : ∀ (ds : List PyData) (vs : List V) (us : List Value), TkAll H vs ds → Vals vs us → ∃ as, ReadsAll s.heap us ds as ∧ (noLAll ds = true → sysModules ∉ as)
  | [], _, _, h, r => by
    cases h
    cases r
    exact ⟨_, ReadsAll.nil, fun _ => List.not_mem_nil⟩
  | d :: ds, _, _, h, r => by
    cases h with
    | cons h1 h2 =>
      cases r with
      | cons r1 r2 =>
        obtain ⟨as, q1, m1⟩ := tk_reads I d _ _ h1 r1
        obtain ⟨bs, q2, m2⟩ := tk_readsAll I ds _ _ h2 r2
        refine ⟨_, ReadsAll.cons q1 q2, fun z => ?_⟩
        have q : noL d = true ∧ noLAll ds = true := by simpa [noLAll] using z
        exact fun w => (List.mem_append.mp w).elim (m1 q.1) (m2 q.2)
end
end
def rShowT : List V → Hp → VK → Prop := fun xs H Q => ∃ x d, xs = [x] ∧ Tk H x d ∧ Fine d ∧ Q (.str d.shown) H
theorem u_showT {X : Cx} (hq : Quiet X.A) (hu : X.A.units + 64 < cLine) : CallR X (.builtin "repr") rShowT := by
  rintro pins s σ H xs us Q I r ⟨x, d, rfl, hd, hf, q⟩
  have hlen := hf.len
  have hs := gd_showable d hf.good
  have hdep := hf.depth
  have hm := hf.mix
  cases r with
  | cons rx rn =>
    rename_i u us
    cases rn
    obtain ⟨as, rd, ns⟩ := tk_reads I d x u hd rx
    have ns2 : d.hasDict = true → sysModules ∉ as := fun z => ns (hm z)
    have fin : ∀ t k, EP X pins σ Q (.str d.shown t) { s with toks := k } := fun t k => ⟨V.str d.shown, H, I.tok _, ⟨t, rfl⟩, q⟩
    have fin2 : ∀ h' t k, (∀ b o, s.heap.get? b = some o → h'.get? b = some o) → EP X pins σ Q (.str d.shown t) { s with heap := h', toks := k } := fun h' t tk k => ⟨V.str _, H, I.kept k, ⟨t, rfl⟩, q⟩
    cases rd with
    | none => exact PySem.P.repr_of_none (fin _ _)
    | bool b => exact PySem.P.repr_of_bool (fin _ _)
    | int i t => exact PySem.P.repr_of_int (by simpa [PyData.showable] using hs) (fin _ _)
    | str y t => exact PySem.P.repr_of_str (fin _ _) hlen
    | list h1 h2 h3 h4 => exact repr_of_reads' (h₀ := s.heap) (.list h1 h2 h3 h4) hs ns2 hq (by omega) (fun _ _ e => e) fin2 hlen
    | tuple h1 h2 h3 h4 => exact repr_of_reads' (h₀ := s.heap) (.tuple h1 h2 h3 h4) hs ns2 hq (by omega) (fun _ _ e => e) fin2 hlen
    | dict h1 h2 h3 h4 h5 => exact repr_of_reads' (h₀ := s.heap) (.dict h1 h2 h3 h4 h5) hs ns2 hq (by omega) (fun _ _ e => e) fin2 hlen
end EL

/- part T2 -/
/-! t[::-1] of a tuple -/
namespace EL
open PySem PySem.Spec PyProof.Rows L2
open PySem.W (Frag)
theorem rev_adjust (n : Nat) : Builtin.Slice.sliceAdjust none none (-1) (n : Int) = ((n : Int) - 1, -1) := by
  unfold Builtin.Slice.sliceAdjust
  rfl
theorem rev_places (n : Nat) : Builtin.Slice.slicePlaces ((n : Int) - 1) (-1) (-1) = n := by
  unfold Builtin.Slice.slicePlaces
  have h1 : ¬ ((-1 : Int) > 0) := by omega
  rw [if_neg h1]
  by_cases h : (n : Int) - 1 > -1
  · rw [if_pos h, show (- -1 : Int) = 1 by decide, Int.ediv_one]
    omega
  · rw [if_neg h]
    omega
theorem fm_congr {α β : Type} {f g : α → Option β} : ∀ (l : List α), (∀ x ∈ l, f x = g x) → l.filterMap f = l.filterMap g
  | [], _ => rfl
  | a :: l, h => by rw [List.filterMap_cons, List.filterMap_cons, h a (List.mem_cons_self ..), fm_congr l fun x hx => h x (List.mem_cons_of_mem _ hx)]
theorem rev_pick (xs : Array Value) : ((List.range xs.size).filterMap fun (k : Nat) => xs[((xs.size : Int) - 1 + (k : Int) * (-1)).toNat]?).toArray = xs.toList.reverse.toArray := by
  have e : (List.range xs.size).filterMap (fun (k : Nat) => xs[((xs.size : Int) - 1 + (k : Int) * (-1)).toNat]?) = ((List.range xs.size).map fun k => xs.size - 1 - k).filterMap (xs[·]?) := by
    rw [List.filterMap_map]
    apply fm_congr
    intro k hk
    have := List.mem_range.mp hk
    have q : ((xs.size : Int) - 1 + (k : Int) * (-1)).toNat = xs.size - 1 - k := by omega
    show xs[((xs.size : Int) - 1 + (k : Int) * (-1)).toNat]? = xs[xs.size - 1 - k]?
    rw [q]
  rw [e, PySem.W.krv_range, List.filterMap_reverse, PySem.W.krv_all]
section
variable {prog : Program} {w : World} {A : Around} {E : Value → Shared → Prop} {s : Shared}
open HT in
theorem getItem_tuple_rev {t sl : Addr} {items : Array Value} {vl vu vs : Value} {Q : Value → Shared → Prop} (ht : IsTup s.heap t items) (hs : s.heap.IsSliceOf sl vl vu vs) (pl : IsPart vl none) (pu : IsPart vu none) (ps : IsPart vs (some (-1)))
    (h : Q (.ref s.heap.objs.size) { s with heap := s.heap.push { cls := .type "tuple", data := .seq items.toList.reverse.toArray } }) (hsz : items.size ≤ sizeLine) : wpAny (model prog w) A (getItem (.ref t) (.ref sl)) Q E s := by
  have htake : sizeOk (.seq items.toList.reverse.toArray) := by
    show items.toList.reverse.toArray.size ≤ sizeLine
    rw [List.size_toArray, List.length_reverse, Array.length_toList]
    exact hsz
  obtain ⟨os, hos, hcs, hds⟩ := id hs
  have hTs : s.TypeIs (.ref sl) "slice" := ⟨os, hos, hcs⟩
  unfold getItem
  try with_reducible refine wpAny_holding ?_
  first | refine wpAny_bind (wpAny_pure ?_) | skip
  refine wpAny_bind (wpAny_sequenceKey ht.typeIs (by decide) ?_)
  refine wpAny_bind (wpAny_callSpecial?_slot (name := Str.ofString "__getitem__") ht.typeIs PyProof.Rows.slot_tuple_getitem
    (wpAny_call_entry PyProof.Rows.slot_tuple_getitem ht.typeIs entry_tuple_getitem ?_ (args_tuple_getitem _ _)))
  show wpAny _ _ (Builtin.Tuple.tupleItemsOf (.ref t) >>= _) _ _ s
  refine wpAny_bind (tupleItemsOf_ ht ?_)
  refine wpAny_bind (wpAny_typeOf hTs ?_)
  rw [if_pos (by decide)]
  have ap : ∀ {R : Int × Int × Nat → Shared → Prop}, R ((items.size : Int) - 1, -1, items.size) s → wpAny (model prog w) A.in1 (Builtin.Slice.sliceApplied (.ref sl) (pure (items.size : Int))) R E s := by
    intro R hR
    unfold Builtin.Slice.sliceApplied Builtin.Slice.sliceFields
    refine wpAny_bind (wpAny_bind (wpAny_field hos hds (x := vl) rfl (wpAny_bind (wpAny_field hos hds (x := vu) rfl (wpAny_bind (wpAny_field hos hds (x := vs) rfl (wpAny_pure ?_)))))))
    refine wpAny_bind (slicePart_ ps ?_)
    show wpAny _ _ (if ((-1 : Int) == 0) = true then _ else _) _ _ s
    rw [if_neg (by decide)]
    refine wpAny_bind (slicePart_ pl (wpAny_bind (slicePart_ pu (wpAny_bind (wpAny_pure ?_)))))
    show wpAny _ _ (match Builtin.Slice.sliceAdjust none none (-1) (items.size : Int) with | (lo, hi) => pure (lo, (-1 : Int), Builtin.Slice.slicePlaces lo hi (-1))) _ _ s
    rw [rev_adjust]
    show wpAny _ _ (pure ((items.size : Int) - 1, (-1 : Int), Builtin.Slice.slicePlaces ((items.size : Int) - 1) (-1) (-1))) _ _ s
    rw [rev_places]
    exact wpAny_pure hR
  refine wpAny_bind (ap ?_)
  have hno : ¬ ((((items.size : Int) - 1) == 0 && (-1 : Int) == 1 && items.size == items.size) = true) := by
    intro q
    rw [Bool.and_eq_true, Bool.and_eq_true] at q
    exact absurd q.1.2 (by decide)
  show wpAny _ _ (if (((items.size : Int) - 1) == 0 && (-1 : Int) == 1 && items.size == items.size) = true then _ else _) _ _ s
  rw [if_neg hno, rev_pick]
  first
    | exact wpAny_bind (m := Builtin.Tuple.tupleExact _) (wpAny_newObj_type (wpAny_pure ⟨_, rfl, wpAny_pure h⟩) htake)
    | exact wpAny_bind (m := Builtin.Tuple.tupleExact _) (wpAny_newObj_type (wpAny_bind (wpAny_pure (wpAny_pure ⟨_, rfl, wpAny_pure h⟩))) htake)
    | exact wpAny_bind (wpAny_bind (m := Builtin.Tuple.tupleExact _) (wpAny_newObj_type (wpAny_pure (wpAny_pure ⟨_, rfl, wpAny_pure h⟩)) htake))
    | exact wpAny_bind (wpAny_bind (m := Builtin.Tuple.tupleExact _) (wpAny_newObj_type (wpAny_pure ⟨_, rfl, wpAny_pure h⟩) htake))
end
section
variable {X : Cx}
def tRevT (K : Frag) (te : TE) : TE := fun σ H Q => te σ H fun x H1 => ∃ a xs, x = .ref a ∧ SqT K H1 a xs ∧ ∀ p, H1 p = none → Q (.ref p) (upd H1 p (.tup xs.reverse))
theorem pe_revT {e : Expr} {te : TE} {k : Nat} {p1 p2 p3 pos : Pos} (he : PE X e te) : PE X (.Subscript e (.Slice none none (some (.UnaryOp .USub (.Constant (.int 1) k p1) p2)) p3) pos) (tRevT X.K te) := by
  refine ⟨fun pins s σ H Q I h => ?_⟩
  refine Subscript_ (thn (he.run pins s σ H _ I h) fun v s1 ⟨x, H1, I1, r1, q1⟩ => ?_)
  obtain ⟨a, xs, ex, hx, q⟩ := q1
  subst ex
  cases r1
  have hst : PO X (some (.UnaryOp .USub (.Constant (.int 1) k p1) p2)) (tPart (tUn (rU fun i => .int (-i)) (tC (.int 1)))) := po_some (pe_un un_neg pe_int)
  refine wpAny_Slice (thn (po_none.run pins s1 σ H1 (fun o H2 => o = none ∧ H2 = H1) I1 ⟨rfl, rfl⟩) fun vl s2 ⟨l, H2, I2, pl, el, e2⟩ => ?_)
  subst el e2
  refine thn (po_none.run pins s2 σ H2 (fun o H3 => o = none ∧ H3 = H2) I2 ⟨rfl, rfl⟩) fun vu s3 ⟨u, H3, I3, pu, eu, e3⟩ => ?_
  subst eu e3
  refine thn (hst.run pins s3 σ H3 (fun o H4 => o = some (-1) ∧ H4 = H3) I3 ⟨1, rfl, -1, rfl, rfl, rfl⟩) fun vs s4 ⟨o, H4, I4, ps, eo, e4⟩ => ?_
  subst eo e4
  have I5 : Inv X pins σ H4 { s4 with heap := s4.heap.push { cls := .type "slice", data := .fields #[vl, vu, vs] } } := I4.kept (t' := s4.toks) fun b ob q => Heap.get?_push_of_some _ q
  obtain ⟨its, r, ht, hz⟩ := I5.tuple hx
  have hlen := r.length
  show wpAny (model X.prog X.w) X.A (subscriptTail e (.Slice none none (some (.UnaryOp .USub (.Constant (.int 1) k p1) p2)) p3) (.ref a) (.ref s4.heap.objs.size)) (EP X pins σ Q) X.xe { s4 with heap := s4.heap.push { cls := .type "slice", data := .fields #[vl, vu, vs] } }
  refine tail_any (ops := [.ref a, .ref s4.heap.objs.size]) ht.typeIs (PyProof.Rows.slot_tuple_getitem.lookup) ?_ (by with_unfolding_all rfl)
  refine getItem_tuple_rev ht (Heap.IsSliceOf.new _ vl vu vs) pl pu ps ?_ (by rw [List.size_toArray]; omega)
  refine ⟨.ref _, _, I5.laid (t' := s4.toks) (o := .tup xs.reverse) (fun b ob q => Heap.get?_push_of_some _ q) (Nat.le_refl _) ?_, rfl, q _ (I5.hok.fresh (Nat.le_refl _))⟩
  exact ⟨by rw [List.length_reverse]; exact hz, _, r.reverse, IsTup.new _ _⟩
end
end EL

/- part T3 -/
/-! data of a size; parts of tuples -/
namespace EL
open PySem PySem.Spec PyProof.Rows L2
open PySem.W (Frag)
/-- no dict, so big, so deep -/
structure Sz (n k : Nat) (d : PyData) : Prop where
  good : gd d = true
  bulk : d.bulk ≤ n
  depth : d.depth ≤ k
  nod : d.hasDict = false
theorem Sz.le {n k n' k' : Nat} {d : PyData} (h : Sz n k d) (a : n ≤ n') (b : k ≤ k') : Sz n' k' d := ⟨h.good, Nat.le_trans h.bulk a, Nat.le_trans h.depth b, h.nod⟩
theorem Sz.fine {n k : Nat} {d : PyData} (h : Sz n k d) (a : n ≤ 300000) (b : k ≤ 40) : Fine d := ⟨h.good, Nat.le_trans h.bulk a, Nat.le_trans h.depth b, fun z => by rw [h.nod] at z; cases z⟩
theorem sz_all {n k : Nat} : ∀ {ds : List PyData}, (∀ d ∈ ds, Sz n k d) → gdAll ds = true ∧ PyData.bulkAll ds ≤ ds.length * (n + 1) ∧ PyData.depthAll ds ≤ k ∧ PyData.hasDictAll ds = false
  | [], _ => ⟨rfl, Nat.zero_le _, Nat.zero_le _, rfl⟩
  | d :: ds, h => by
    have q := h d (List.mem_cons_self ..)
    obtain ⟨a, b, c, e⟩ := sz_all fun x hx => h x (List.mem_cons_of_mem _ hx)
    refine ⟨?_, ?_, ?_, ?_⟩
    · show (gd d && gdAll ds) = true
      rw [q.good, a]; rfl
    · show d.bulk + 1 + PyData.bulkAll ds ≤ (ds.length + 1) * (n + 1)
      have := q.bulk
      rw [Nat.add_mul, Nat.one_mul]
      omega
    · show max d.depth (PyData.depthAll ds) ≤ k
      exact Nat.max_le.mpr ⟨q.depth, c⟩
    · show (d.hasDict || PyData.hasDictAll ds) = false
      rw [q.nod, e]; rfl
theorem sz_tup {n k : Nat} {ds : List PyData} (h : ∀ d ∈ ds, Sz n k d) : Sz (ds.length * (n + 1)) (k + 1) (.tuple ds) := by
  obtain ⟨a, b, c, e⟩ := sz_all h
  exact ⟨a, b, Nat.succ_le_succ c, e⟩
theorem sz_lst {n k : Nat} {ds : List PyData} (h : ∀ d ∈ ds, Sz n k d) : Sz (ds.length * (n + 1)) (k + 1) (.list ds) := by
  obtain ⟨a, b, c, e⟩ := sz_all h
  exact ⟨a, b, Nat.succ_le_succ c, e⟩
theorem sz_non : Sz 0 0 .none := ⟨rfl, Nat.le_refl _, Nat.le_refl _, rfl⟩
theorem sz_bl {b : Bool} : Sz 0 0 (.bool b) := ⟨rfl, Nat.le_refl _, Nat.le_refl _, rfl⟩
theorem sz_int {i : Int} (h : i.natAbs < 10 ^ 40) : Sz 0 0 (.int i) := ⟨by show decide _ = true; exact decide_eq_true h, Nat.le_refl _, Nat.le_refl _, rfl⟩
theorem sz_str {s : Str} (h : gd (.str s) = true) : Sz s.cps.size 0 (.str s) := ⟨h, Nat.le_refl _, Nat.le_refl _, rfl⟩
/-- a value that is known apart from the bag, of a size -/
def NiS (n k : Nat) (b : Addr) (H : Hp) (v : V) : Prop := ∃ d, TkB b H v d ∧ Sz n k d
/-- a value that is known apart from the bag, and can be shown -/
def Nice (b : Addr) (H : Hp) (v : V) : Prop := ∃ d, TkB b H v d ∧ Fine d
section
variable {n k : Nat} {b : Addr} {H H' : Hp} {v : V}
theorem NiS.le {n' k' : Nat} (h : NiS n k b H v) (a : n ≤ n') (c : k ≤ k') : NiS n' k' b H v := by
  obtain ⟨d, t, z⟩ := h
  exact ⟨d, t, z.le a c⟩
theorem NiS.nice (h : NiS n k b H v) (a : n ≤ 300000) (c : k ≤ 40) : Nice b H v := by
  obtain ⟨d, t, z⟩ := h
  exact ⟨d, t, z.fine a c⟩
theorem NiS.kp (h : NiS n k b H v) (q : Kp b H H') : NiS n k b H' v := by
  obtain ⟨d, t, z⟩ := h
  exact ⟨d, t.kp q, z⟩
theorem Nice.kp (h : Nice b H v) (q : Kp b H H') : Nice b H' v := by
  obtain ⟨d, t, z⟩ := h
  exact ⟨d, t.kp q, z⟩
theorem NiS.same (h : NiS n k b H v) (q : Same H H') : NiS n k b H' v := h.kp (same_kp q)
theorem Nice.same (h : Nice b H v) (q : Same H H') : Nice b H' v := h.kp (same_kp q)
theorem ni_non : NiS 0 0 b H .non := ⟨_, .non, sz_non⟩
theorem ni_bl {x : Bool} : NiS 0 0 b H (.bl x) := ⟨_, .bl x, sz_bl⟩
theorem ni_int {i : Int} (h : i.natAbs < 10 ^ 40) : NiS 0 0 b H (.int i) := ⟨_, .int i, sz_int h⟩
theorem ni_str {s : Str} (h : gd (.str s) = true := by decide +kernel) : NiS s.cps.size 0 b H (.str s) := ⟨_, .str s, sz_str h⟩
theorem tk_pick {P : PyData → Prop} : ∀ {xs : List V}, (∀ v ∈ xs, ∃ d, TkB b H v d ∧ P d) → ∃ ds, TkAll (wo b H) xs ds ∧ ds.length = xs.length ∧ ∀ d ∈ ds, P d
  | [], _ => ⟨[], .nil, rfl, fun _ h => nomatch h⟩
  | x :: xs, h => by
    obtain ⟨ds, t, l, p⟩ := tk_pick fun v hv => h v (List.mem_cons_of_mem _ hv)
    obtain ⟨d, t1, p1⟩ := h x (List.mem_cons_self ..)
    exact ⟨d :: ds, .cons t1 t, by rw [List.length_cons, List.length_cons, l], fun y hy => (List.mem_cons.mp hy).elim (fun e => e ▸ p1) (p y)⟩
theorem ni_tup {p : Addr} {xs : List V} (hp : H p = some (.tup xs)) (nb : p ≠ b) (h : ∀ v ∈ xs, NiS n k b H v) : NiS (xs.length * (n + 1)) (k + 1) b H (.ref p) := by
  obtain ⟨ds, t, l, q⟩ := tk_pick (P := Sz n k) h
  exact ⟨.tuple ds, .tup (wo_ne nb hp) t, l ▸ sz_tup q⟩
theorem ni_lst {p : Addr} {xs : List V} (hp : H p = some (.lst xs)) (nb : p ≠ b) (h : ∀ v ∈ xs, NiS n k b H v) : NiS (xs.length * (n + 1)) (k + 1) b H (.ref p) := by
  obtain ⟨ds, t, l, q⟩ := tk_pick (P := Sz n k) h
  exact ⟨.list ds, .lst (wo_ne nb hp) t, l ▸ sz_lst q⟩
theorem nice_dct {p : Addr} (hp : H p = some (.dK [])) (nb : p ≠ b) : Nice b H (.ref p) := ⟨_, .dct (wo_ne nb hp), ⟨rfl, by decide, by decide, fun _ => rfl⟩⟩
/-- the items of a known tuple -/
theorem ni_at {p : Addr} {xs : List V} (h : NiS n (k + 1) b H (.ref p)) (hp : H p = some (.tup xs)) : ∀ v ∈ xs, NiS n k b H v := by
  obtain ⟨d, t, z⟩ := h
  cases t with
  | lst e _ => rw [wo_same _ _ e] at hp; cases hp
  | dct e => rw [wo_same _ _ e] at hp; cases hp
  | @tup _ ys ds e t =>
    rw [wo_same _ _ e] at hp
    cases hp
    intro v hv
    obtain ⟨d, hd, q⟩ := t.mem v hv
    refine ⟨d, q, ?_⟩
    have a : ∀ {ds : List PyData}, d ∈ ds → gdAll ds = true → PyData.bulkAll ds ≤ n → PyData.depthAll ds ≤ k → PyData.hasDictAll ds = false → Sz n k d := by
      intro ds
      induction ds with
      | nil => intro h; cases h
      | cons e r ih =>
        intro hm h1 h2 h3 h4
        have g1 : gd e = true ∧ gdAll r = true := by simpa [gdAll] using h1
        have g2 : e.bulk + 1 + PyData.bulkAll r ≤ n := h2
        have g3 : max e.depth (PyData.depthAll r) ≤ k := h3
        have g4 : e.hasDict = false ∧ PyData.hasDictAll r = false := by simpa [PyData.hasDictAll] using h4
        have g5 := Nat.max_le.mp g3
        rcases List.mem_cons.mp hm with rfl | hm
        · exact ⟨g1.1, by omega, g5.1, g4.1⟩
        · exact ih hm g1.2 (by omega) g5.2 g4.2
    have z3 : PyData.depthAll ds + 1 ≤ k + 1 := z.depth
    exact a hd z.good z.bulk (by omega) z.nod
end
/-! ### parts of tuples, joined tuples -/
section
variable {K : Frag} {H : Hp} {Q : VK}
theorem n_catT {a b : Addr} {xs ys : List V} (ha : H a = some (.tup xs)) (hb : H b = some (.tup ys)) (z : xs.length + ys.length ≤ sizeLine) (q : ∀ p H', Same H H' → H' p = some (.tup (xs ++ ys)) → Q (.ref p) H') : rAdd K (.ref a) (.ref b) H Q := by
  refine .inr (.inr ⟨a, b, xs, ys, rfl, rfl, SqT.of ha, SqT.of hb, z, fun e => ?_, fun e1 e2 => ?_, fun _ _ p hp => q p _ (L2.Same.nw (Same.refl _) hp) upd_same⟩)
  · subst e
    exact q b H (Same.refl _) hb
  · subst e2
    exact q a H (Same.refl _) (by rw [List.append_nil]; exact ha)
theorem n_slT {a : Addr} {xs : List V} {lo hi : Option Int} (ha : H a = some (.tup xs)) (q : ∀ p H', Same H H' → H' p = some (.tup (cutV xs lo hi)) → Q (.ref p) H') : rSlice K (.ref a) lo hi H Q := by
  refine .inr ⟨a, xs, rfl, SqT.of ha, fun e => ?_, fun _ p hp => q p _ (L2.Same.nw (Same.refl _) hp) upd_same⟩
  refine q a H (Same.refl _) ?_
  have w : cutV xs lo hi = xs := by
    unfold cutV
    rw [e.1, e.2, List.drop_zero, Nat.sub_zero, List.take_length]
  rw [w]
  exact ha
theorem a_spar3 {σ : L2.St} {D : Ends} {u : TS} {ta : TA} {i j l : Nat} (q : ta σ H fun vs H1 => ∃ x y z, vs = [x, y, z] ∧ u D (((σ.set i (some x)).set j (some y)).set l (some z)) H1) : tSeq (tPar3 i j l ta) u D σ H := q
theorem a_par3 {σ : L2.St} {D : Ends} {ta : TA} {i j l : Nat} (q : ta σ H fun vs H1 => ∃ x y z, vs = [x, y, z] ∧ D.nx (((σ.set i (some x)).set j (some y)).set l (some z)) H1) : tPar3 i j l ta D σ H := q
theorem a_three {R : V → V → V → Prop} {a b c : V} (q : R a b c) : ∃ x y z, [a, b, c] = [x, y, z] ∧ R x y z := ⟨a, b, c, rfl, q⟩
theorem a_revT {σ : L2.St} {te : TE} (q : te σ H fun x H1 => ∃ a xs, x = .ref a ∧ SqT K H1 a xs ∧ ∀ p, H1 p = none → Q (.ref p) (upd H1 p (.tup xs.reverse))) : tRevT K te σ H Q := q
end
theorem cut_mem {xs : List V} {lo hi : Option Int} {v : V} (h : v ∈ cutV xs lo hi) : v ∈ xs := by
  unfold cutV at h
  exact List.mem_of_mem_drop (List.mem_of_mem_take h)
theorem cut_le (xs : List V) (lo hi : Option Int) : (cutV xs lo hi).length ≤ xs.length := by
  unfold cutV
  rw [List.length_take, List.length_drop]
  omega
end EL

/- part A -/
namespace EL
open PySem PySem.Spec PyProof.Rows L2
open PySem.W (Frag)
def top (i : Nat) : Stmt := PySem.Challenge.pw_earlyorlate_k25_steps_judged.main.body.getD i (.Pass ⟨0, 0, 0, 0⟩)
abbrev s_take : Stmt := top 46
abbrev N_take : List Str := ["_law_bag_here", "_law_many", "_law_cell", "_law_mixed_here", "_law_drawn_here", "_law_early", "_law_second"]
theorem sc_take : FnScope N_take ["_law_bag_here", "_law_many"] (defScope s_take) := ⟨rfl, rfl, rfl, by decide +kernel, rfl, by decide +kernel, by decide +kernel⟩
structure Tb (mg : Str → Option Value) : Prop where
  b : Bi mg
local macro_rules | `(tactic| walk_at "el1") => `(tactic| with_reducible first
  | refine a_sasg ?_ | refine a_sdrop ?_ | refine a_saugS ?_ | refine a_spar ?_ | refine a_seq ?_ | refine a_asg ?_ | refine a_drop ?_ | refine a_ret ?_ | refine a_if ?_ | refine a_next ?_
  | refine a_op ?_ | refine a_cons ?_ | refine a_nil ?_ | refine a_cb ?_ | refine a_call ?_ | refine a_c ?_ | refine a_gn ?_ | refine a_nx ?_ | refine a_rt ?_ | refine a_un ?_
  | refine a_test ?_ | refine a_B ?_ | refine a_bl ?_ | refine a_and ?_ | refine a_or ?_ | refine a_not ?_ | refine a_andV ?_ | refine a_orV ?_ | refine a_notV ?_ | refine a_ifx ?_ | refine a_chain ?_
  | refine a_nT ?_ | refine a_nF ?_ | refine a_fld ?_ | refine a_getF ?_ | refine a_T ?_ | refine a_F ?_ | refine a_tup ?_ | refine a_lst ?_ | refine a_sub ?_ | refine a_augS ?_ | refine a_two ?_ | refine a_I0 ?_ | refine a_U ?_ | refine n_add ?_ | refine n_int ?_ | refine n_ib ?_ | refine a_ip ?_ | refine a_rng1 ?_ | refine a_rng2 ?_ | refine a_bm ?_ | refine a_abs ?_ | refine a_pairs ?_ | refine a_pairs0 ?_ | refine a_bk ?_ | refine a_prp ?_ | refine a_lc ?_ | refine a_yes ?_ | refine a_sl ?_ | refine a_nop ?_ | refine a_prt ?_ | refine a_ex1 ?_ | refine a_for ?_ | refine a_sfor ?_ | refine a_iE1 ?_ | refine a_iEs ?_ | refine a_iEz ?_ | refine a_iEnum ?_ | refine a_iTup ?_ | refine a_iList ?_ | refine a_gcons ?_ | refine a_gnil ?_ | refine a_revT ?_ | refine a_spar3 ?_ | refine a_par3 ?_ | refine a_three ?_)
local macro_rules | `(tactic| walk_at "el2") => `(tactic| first
  | (refine a_var (by rfl) ?_)
  | (refine n_ixL (SqL.of (by assumption)) (by rfl) ?_) | (refine n_ixT (SqT.of (by assumption)) (by rfl) ?_) | (refine n_eq (by rfl) ?_) | (refine n_ne (by rfl) ?_)
  | (refine n_isN ?_) | (refine n_notN ?_) | (refine n_isB ?_) | (refine n_notB ?_) | (refine n_isBI ?_) | (refine n_notBI ?_) | (refine n_len (.inl (SqL.of (by assumption))) ?_) | (refine n_len (.inr (SqT.of (by assumption))) ?_)
  | (refine a_getL (SqL.of (by assumption)) (by rfl) ?_)
  | (refine n_isInt (by assumption) ?_) | (refine n_isBool (by assumption) ?_) | (refine n_isStr (by assumption) ?_) | (refine n_isTup (by assumption) ?_) | (refine n_isLst (by assumption) ?_))
local macro_rules | `(tactic| walk_at "el") => `(tactic| repeat (first | walk_at "el1" | walk_at "el2"))

/-! ### the bag -/
def Bag (H : Hp) (b c : Addr) : Prop := ∃ (i j k : Int) (cs : List Int), H b = some (.lst [.int i, .int j, .int k, .ref c]) ∧ H c = some (.lst (cs.map V.int)) ∧ c ≠ b ∧ 0 ≤ i ∧ 0 ≤ j ∧ j < 2147483647 ∧ 0 ≤ k ∧ ∀ x ∈ cs, 0 ≤ x
/-- a draw: a number from 0 to many - 1, the bag changed -/
def spTake : Sp := fun vs H Q _ => ∃ (b c : Addr) (m : Int), vs = [.ref b, .int m] ∧ Bag H b c ∧ 0 < m ∧ m ≤ 1000000000 ∧ ∀ (r : Int) H', 0 ≤ r → r < m → Bag H' b c → Kp b H H' → Q (.int r) H'
theorem cell_at {cs : List Int} {k : Int} (h0 : 0 ≤ k) (h1 : k < (cs.map V.int).length) (hc : ∀ x ∈ cs, (0 : Int) ≤ x) : ∃ x, atI (cs.map V.int) k = some (V.int x) ∧ 0 ≤ x := by
  obtain ⟨n, rfl⟩ : ∃ n : Nat, k = n := ⟨k.toNat, by omega⟩
  have hn : n < cs.length := by rw [List.length_map] at h1; omega
  refine ⟨cs[n], atI_nat (by rw [List.getElem?_map, List.getElem?_eq_getElem hn]; rfl), hc _ (List.getElem_mem hn)⟩
section
variable {P : Program} {w : World} {K : Frag} {mg : Str → Option Value} {base : Heap} {f : Addr} {fd : FuncData}
theorem ok_take (F : Fun K "_law_take" "_law_take" s_take f fd) (T : Tb mg) : FnOk P w K mg base CX0 1 f fd ["_law_bag_here", "_law_many"] spTake := by
  refine F.ok sc_take (fun vs H Q E h => ?_) (fun cdv A outer s H vs Q E hr h => ?_)
  · obtain ⟨b, c, m, rfl, _⟩ := h
    rfl
  · obtain ⟨b, c, m, rfl, hB, hm0, hm1, k⟩ := h
    refine ⟨_, (Evl.pss_cut (ps_if (pt_cmpR (u_eq hr.units) (pe_ix ix_seq (pv 0) pe_int (fun _ _ => rfl)) pe_int (nomark _))
    (pss_cons (ps_set (i := 2) sc_take.nd rfl (Or.inl rfl) pe_int)
  (Evl.pss_cut (ps_if (pt_cmpR op_lt (pe_ix ix_seq (pv 0) pe_int (fun _ _ => rfl)) (pe_callB u_len rfl T.b.len_ boot_len (pa_cons (pe_ix ix_seq (pv 0) pe_int (fun _ _ => rfl)) pa_nil)) (nomark _))
    (pss_one (ps_set (i := 2) sc_take.nd rfl (Or.inl rfl) (pe_ix ix_seq (pe_ix ix_seq (pv 0) pe_int (fun _ _ => rfl)) (pe_ix ix_seq (pv 0) pe_int (fun _ _ => rfl)) (fun _ _ => rfl))))
    pss_nil)
  (pss_cons (ps_augS (pv 0) pe_int get_list pe_int ip_add set_list)
  (Evl.pss_cut (ps_if (pt_cmpR op_ge (pv 2) pe_int (nomark _))
    (pss_one (ps_asg (pv 2) (pg_sub (pv 0) pe_int set_list)))
    pss_nil)
  (pss_cons (ps_set (i := 3) sc_take.nd rfl (Or.inl rfl) (pe_op u_add (pe_op u_add (pe_op u_mul (pe_ix ix_seq (pv 0) pe_int (fun _ _ => rfl)) pe_int) (pe_op op_mod (pe_callTy u_int rfl T.b.int_ (by decide +kernel) (pa_cons (pv 2) pa_nil)) pe_int)) (pe_op u_mul pe_int (pe_ix ix_seq (pv 0) pe_int (fun _ _ => rfl)))))
  (pss_one (ps_asg (pe_op op_mod (pe_callTy u_int rfl T.b.int_ (by decide +kernel) (pa_cons (pv 3) pa_nil)) pe_int) (pg_sub (pv 0) pe_int set_list))))))))
    pss_nil)
  (pss_cons (ps_if (pt_cmpR op_gt (pe_ix ix_seq (pv 0) pe_int (fun _ _ => rfl)) pe_int (nomark _))
    (pss_cons (ps_set (i := 4) sc_take.nd rfl (Or.inl rfl) (pe_op op_mod (pe_callTy u_int rfl T.b.int_ (by decide +kernel) (pa_cons (pe_ix ix_seq (pv 0) pe_int (fun _ _ => rfl)) pa_nil)) (pv 1)))
  (pss_cons (ps_asg (pe_op op_fdiv (pe_callTy u_int rfl T.b.int_ (by decide +kernel) (pa_cons (pe_ix ix_seq (pv 0) pe_int (fun _ _ => rfl)) pa_nil)) (pv 1)) (pg_sub (pv 0) pe_int set_list))
  (pss_one (ps_ret (pv 4)))))
    pss_nil)
  (pss_cons (ps_set (i := 5) sc_take.nd rfl (Or.inl rfl) (pe_op op_mod (pe_callTy u_int rfl T.b.int_ (by decide +kernel) (pa_cons (pe_op u_mul (pe_op u_add (pe_ix ix_seq (pv 0) pe_int (fun _ _ => rfl)) pe_int) pe_int) pa_nil)) pe_int))
  (pss_cons (ps_set (i := 6) sc_take.nd rfl (Or.inl rfl) (pe_op op_mod (pe_callTy u_int rfl T.b.int_ (by decide +kernel) (pa_cons (pe_op u_mul (pe_op op_mod (pe_callTy u_int rfl T.b.int_ (by decide +kernel) (pa_cons (pe_op u_mul (pv 5) (pv 5)) pa_nil)) pe_int) pe_int) pa_nil)) pe_int))
  (pss_one (ps_ret (pe_op op_mod (pe_callTy u_int rfl T.b.int_ (by decide +kernel) (pa_cons (pe_op op_fdiv (pv 6) pe_int) pa_nil)) (pv 1)))))))), ?_⟩
    obtain ⟨i, j, n, cs, hb, hc, hcb, hi, hj, hj2, hn, hcs⟩ := hB
    -- the bag fed, or not
    refine a_cut (fun σ' H' => ∃ v2 v3, σ' = [some (.ref b), some (.int m), v2, v3, none, none, none] ∧ Bag H' b c ∧ Kp b H H') ?_ ?_
    · walk_at "el"
      walk_at "el"
      refine ite2 (fun h0 => ?_) (fun h0 => ?_)
      · walk_at "el"
        refine a_cut (fun σ' H' => ∃ x : Int, 0 ≤ x ∧ σ' = [some (.ref b), some (.int m), some (.int x), none, none, none, none] ∧ H' = H) ?_ ?_
        · walk_at "el"
          walk_at "el"
          refine ite2 (fun h1 => ?_) (fun h1 => ?_)
          · obtain ⟨x, hx, x0⟩ := cell_at hn (of_decide_eq_true h1) hcs
            walk_at "el"
            refine n_ixL (SqL.of hc) hx ?_
            walk_at "el"
            exact ⟨x, x0, rfl, rfl⟩
          · walk_at "el"
            exact ⟨0, by decide, rfl, rfl⟩
        · rintro σ' H' ⟨x, x0, rfl, rfl⟩
          walk_at "el"
          refine a_set hb rfl ?_
          refine a_cut (fun σ' H1 => ∃ i', 0 ≤ i' ∧ σ' = [some (.ref b), some (.int m), some (.int x), none, none, none, none] ∧ H1 b = some (.lst [.int i', .int j, .int (n + 1), .ref c]) ∧ ∀ a, a ≠ b → H1 a = H' a) ?_ ?_
          · walk_at "el"
            refine ite2 (fun h1 => ?_) (fun h1 => ?_)
            · walk_at "el"
              refine a_set upd_same rfl ?_
              walk_at "el"
              exact ⟨x, x0, rfl, upd_same, fun a h => by rw [upd_ne h, upd_ne h]⟩
            · walk_at "el"
              exact ⟨i, hi, rfl, upd_same, fun a h => upd_ne h⟩
          · rintro σ' H1 ⟨i', hi', rfl, hb', ho⟩
            have hc' : H1 c = some (.lst (cs.map V.int)) := (ho c hcb).trans hc
            walk_at "el"
            refine n_mul (.inr (by decide)) ?_
            walk_at "el"
            refine a_I (by show (0 : Int) < 2147483647; decide) ?_
            walk_at "el"
            refine n_mul (.inl (by decide)) ?_
            walk_at "el"
            refine a_I (by show (0 : Int) < 2147483647; decide) ?_
            walk_at "el"
            refine a_set hb' rfl ?_
            walk_at "el"
            refine ⟨_, _, rfl, ⟨i', _, n + 1, cs, upd_same, by rw [upd_ne hcb]; exact hc', hcb, hi', Int.emod_nonneg _ (by decide), Int.emod_lt_of_pos _ (by decide), by omega, hcs⟩, fun a o h e => ?_⟩
            rw [upd_ne h, ho a h]
            exact e
      · walk_at "el"
        exact ⟨_, _, rfl, ⟨i, j, n, cs, hb, hc, hcb, hi, hj, hj2, hn, hcs⟩, Kp.refl b H⟩
    · clear hb hc hcb hi hj hj2 hn hcs
      rintro σ' H1 ⟨v2, v3, rfl, ⟨i, j, n, cs, hb, hc, hcb, hi, hj, hj2, hn, hcs⟩, k1⟩
      walk_at "el"
      refine ite2 (fun h0 => ?_) (fun h0 => ?_)
      · walk_at "el"
        walk_at "el"
        refine a_I hm0 ?_
        walk_at "el"
        refine a_I ⟨hm0, by omega⟩ ?_
        walk_at "el"
        refine a_set hb rfl ?_
        walk_at "el"
        refine k _ _ (Int.emod_nonneg _ (by omega)) (Int.emod_lt_of_pos _ hm0) ?_ k1.bag
        exact ⟨_, j, n, cs, upd_same, by rw [upd_ne hcb]; exact hc, hcb, Int.ediv_nonneg hi (by omega), hj, hj2, hn, hcs⟩
      · walk_at "el"
        walk_at "el"
        refine n_mul (.inr (by decide)) ?_
        walk_at "el"
        refine a_I (by show (0 : Int) < 1000000007; decide) ?_
        have e0 := Int.emod_nonneg ((j + 1) * 39373) (show (1000000007 : Int) ≠ 0 by decide)
        have e1 := Int.emod_lt_of_pos ((j + 1) * 39373) (show (0 : Int) < 1000000007 by decide)
        walk_at "el"
        refine n_mul (.inl ⟨by omega, by omega⟩) ?_
        walk_at "el"
        refine a_I (by show (0 : Int) < 998244353; decide) ?_
        walk_at "el"
        refine n_mul (.inr (by decide)) ?_
        walk_at "el"
        refine a_I (by show (0 : Int) < 998244353; decide) ?_
        walk_at "el"
        refine a_I ⟨by decide, by decide⟩ ?_
        walk_at "el"
        refine a_I hm0 ?_
        walk_at "el"
        exact k _ _ (Int.emod_nonneg _ (by omega)) (Int.emod_lt_of_pos _ hm0) ⟨i, j, n, cs, hb, hc, hcb, hi, hj, hj2, hn, hcs⟩ k1
end
end EL

/- part B -/
namespace EL
open PySem PySem.Spec PyProof.Rows L2
open PySem.W (Frag)
abbrev s_is_integer : Stmt := top 3
abbrev N_is_integer : List Str := ["thing"]
theorem sc_is_integer : FnScope N_is_integer ["thing"] (defScope s_is_integer) := ⟨rfl, rfl, rfl, by decide +kernel, rfl, by decide +kernel, by decide +kernel⟩
abbrev s_is_number : Stmt := top 4
abbrev N_is_number : List Str := ["thing"]
theorem sc_is_number : FnScope N_is_number ["thing"] (defScope s_is_number) := ⟨rfl, rfl, rfl, by decide +kernel, rfl, by decide +kernel, by decide +kernel⟩
abbrev s_is_kind : Stmt := top 5
abbrev N_is_kind : List Str := ["thing"]
theorem sc_is_kind : FnScope N_is_kind ["thing"] (defScope s_is_kind) := ⟨rfl, rfl, rfl, by decide +kernel, rfl, by decide +kernel, by decide +kernel⟩
abbrev s_contrary : Stmt := top 6
abbrev N_contrary : List Str := ["kind"]
theorem sc_contrary : FnScope N_contrary ["kind"] (defScope s_contrary) := ⟨rfl, rfl, rfl, by decide +kernel, rfl, by decide +kernel, by decide +kernel⟩
abbrev s_is_tuple : Stmt := top 7
abbrev N_is_tuple : List Str := ["thing", "many"]
theorem sc_is_tuple : FnScope N_is_tuple ["thing", "many"] (defScope s_is_tuple) := ⟨rfl, rfl, rfl, by decide +kernel, rfl, by decide +kernel, by decide +kernel⟩
abbrev s_is_headed : Stmt := top 8
abbrev N_is_headed : List Str := ["thing", "word"]
theorem sc_is_headed : FnScope N_is_headed ["thing", "word"] (defScope s_is_headed) := ⟨rfl, rfl, rfl, by decide +kernel, rfl, by decide +kernel, by decide +kernel⟩
structure Wo (K : Frag) (mg : Str → Option Value) : Prop where
  b : Bi mg
  k_GREATEST_NUMBER : ∃ u, mg "GREATEST_NUMBER" = some u ∧ L2.RelV (.int 1000000000000000) u
local macro_rules | `(tactic| walk_at "el1") => `(tactic| with_reducible first
  | refine a_sasg ?_ | refine a_sdrop ?_ | refine a_saugS ?_ | refine a_spar ?_ | refine a_seq ?_ | refine a_asg ?_ | refine a_drop ?_ | refine a_ret ?_ | refine a_if ?_ | refine a_next ?_
  | refine a_op ?_ | refine a_cons ?_ | refine a_nil ?_ | refine a_cb ?_ | refine a_call ?_ | refine a_c ?_ | refine a_gn ?_ | refine a_nx ?_ | refine a_rt ?_ | refine a_un ?_
  | refine a_test ?_ | refine a_B ?_ | refine a_bl ?_ | refine a_and ?_ | refine a_or ?_ | refine a_not ?_ | refine a_andV ?_ | refine a_orV ?_ | refine a_notV ?_ | refine a_ifx ?_ | refine a_chain ?_
  | refine a_nT ?_ | refine a_nF ?_ | refine a_fld ?_ | refine a_getF ?_ | refine a_T ?_ | refine a_F ?_ | refine a_tup ?_ | refine a_lst ?_ | refine a_sub ?_ | refine a_augS ?_ | refine a_two ?_ | refine a_I0 ?_ | refine a_U ?_ | refine n_add ?_ | refine n_int ?_ | refine n_ib ?_ | refine a_ip ?_ | refine a_rng1 ?_ | refine a_rng2 ?_ | refine a_bm ?_ | refine a_abs ?_ | refine a_pairs ?_ | refine a_pairs0 ?_ | refine a_bk ?_ | refine a_prp ?_ | refine a_lc ?_ | refine a_yes ?_ | refine a_sl ?_ | refine a_nop ?_ | refine a_prt ?_ | refine a_ex1 ?_ | refine a_for ?_ | refine a_sfor ?_ | refine a_iE1 ?_ | refine a_iEs ?_ | refine a_iEz ?_ | refine a_iEnum ?_ | refine a_iTup ?_ | refine a_iList ?_ | refine a_gcons ?_ | refine a_gnil ?_ | refine a_revT ?_ | refine a_spar3 ?_ | refine a_par3 ?_ | refine a_three ?_)
local macro_rules | `(tactic| walk_at "el2") => `(tactic| first
  | (refine a_var (by rfl) ?_)
  | (refine n_ixL (SqL.of (by assumption)) (by rfl) ?_) | (refine n_ixT (SqT.of (by assumption)) (by rfl) ?_) | (refine n_eq (by rfl) ?_) | (refine n_ne (by rfl) ?_)
  | (refine n_isN ?_) | (refine n_notN ?_) | (refine n_isB ?_) | (refine n_notB ?_) | (refine n_isBI ?_) | (refine n_notBI ?_) | (refine n_len (.inl (SqL.of (by assumption))) ?_) | (refine n_len (.inr (SqT.of (by assumption))) ?_)
  | (refine a_getL (SqL.of (by assumption)) (by rfl) ?_)
  | (refine n_isInt (by assumption) ?_) | (refine n_isBool (by assumption) ?_) | (refine n_isStr (by assumption) ?_) | (refine n_isTup (by assumption) ?_) | (refine n_isLst (by assumption) ?_))
local macro_rules | `(tactic| walk_at "el") => `(tactic| repeat (first | walk_at "el1" | walk_at "el2"))

/-! ### what the words mean -/
def intB : V → Bool | .int _ => true | _ => false
def numB : V → Bool | .int i => decide (-1000000000000000 ≤ i) && decide (i ≤ 1000000000000000) | _ => false
def kindB : V → Bool | .str s => decide (s = "early") || decide (s = "late") | _ => false
def otherK (s : Str) : Str := if s = "early" then "late" else "early"
def spB (f : V → Bool) (K : Frag) : Sp := fun vs H Q _ => ∃ x, vs = [x] ∧ Th K H x ∧ ∀ H', Same H H' → Q (.bl (f x)) H'
theorem intB_eq (x : V) : (if isI x = true then !isB x else false) = intB x := by cases x <;> rfl
/-- a tuple of so many -/
def tupN (H : Hp) (x : V) (n : Int) : Prop := ∃ a xs, x = .ref a ∧ H a = some (.tup xs) ∧ (xs.length : Int) = n
def spTu (K : Frag) : Sp := fun vs H Q _ => ∃ (x : V) (n : Int), vs = [x, .int n] ∧ Th K H x ∧ ∀ b, (b = true ↔ tupN H x n) → Q (.bl b) H
theorem isT_tup {K : Frag} {H : Hp} {x : V} (th : Th K H x) (e : isT H x = true) : ∃ a xs, x = .ref a ∧ H a = some (.tup xs) := by
  cases th with
  | tup h => exact ⟨_, _, rfl, h⟩
  | @lst a xs h => (exfalso; have q : obT (H a) = true := e; rw [h] at q; cases q)
  | @dct a xs h => (exfalso; have q : obT (H a) = true := e; rw [h] at q; cases q)
  | @ins a C dx fs h c => (exfalso; have q : obT (H a) = true := e; rw [h] at q; cases q)
  | _ => cases e
theorem isT_of {H : Hp} {a : Addr} {xs : List V} (h : H a = some (.tup xs)) : isT H (.ref a) = true := by show obT (H a) = true; rw [h]; rfl
section
variable {P : Program} {w : World} {K : Frag} {mg : Str → Option Value} {base : Heap} {f : Addr} {fd : FuncData}
theorem ok_is_tuple (F : Fun K "is_tuple" "is_tuple" s_is_tuple f fd) (T : Wo K mg) : FnOk P w K mg base CX0 1 f fd ["thing", "many"] (spTu K) := by
  refine F.ok sc_is_tuple (fun vs H Q E h => ?_) (fun cdv A outer s H vs Q E hr h => ?_)
  · obtain ⟨x, n, rfl, _⟩ := h
    rfl
  · obtain ⟨x, n, rfl, hx, k⟩ := h
    refine ⟨_, (pss_one (ps_ret (pe_and (pe_callB u_isi rfl T.b.isinstance_ boot_isinstance (pa_cons (pv 0) (pa_cons (pe_bltn (v := V.ty "tuple") rfl T.b.tuple_ (by decide +kernel) rfl) pa_nil))) (pe_one (pe_cmpR (u_eq hr.units) (pe_callB u_len rfl T.b.len_ boot_len (pa_cons (pv 0) pa_nil)) (pv 1) (nomark _)))))), ?_⟩
    obtain ⟨t, kt⟩ := hx.kit
    walk_at "el"
    refine ite2 (fun h0 => ?_) (fun h0 => ?_)
    · obtain ⟨a, xs, rfl, ha⟩ := isT_tup hx h0
      walk_at "el"
      refine k _ ⟨fun z => ⟨a, xs, rfl, ha, by simpa using z⟩, ?_⟩
      rintro ⟨a', xs', e, ha', hl⟩
      cases e
      rw [ha] at ha'
      cases ha'
      simpa using hl
    · walk_at "el"
      refine k _ ⟨(fun h => nomatch h), ?_⟩
      rintro ⟨a, xs, rfl, ha, _⟩
      rw [isT_of ha] at h0
      exact absurd rfl h0
/-- a tuple of this word and one value more -/
def spHd (K : Frag) : Sp := fun vs H Q _ => ∃ (x : V) (wd : Str), vs = [x, .str wd] ∧ Th K H x ∧ (∀ q xs, x = .ref q → H q = some (.tup xs) → ∀ y ∈ xs, Th K H y) ∧ ∀ b, (b = true ↔ ∃ a y, x = .ref a ∧ H a = some (.tup [.str wd, y])) → Q (.bl b) H
theorem ok_is_headed (F : Fun K "is_headed" "is_headed" s_is_headed f fd) (T : Wo K mg) (c_is_tuple : Cal P w K mg base CX0 1 "is_tuple" ["thing", "many"] (spTu K)) : FnOk P w K mg base CX0 2 f fd ["thing", "word"] (spHd K) := by
  refine F.ok sc_is_headed (fun vs H Q E h => ?_) (fun cdv A outer s H vs Q E hr h => ?_)
  · obtain ⟨x, wd, rfl, _⟩ := h
    rfl
  · obtain ⟨x, wd, rfl, hx, te, k⟩ := h
    refine ⟨_, (pss_one (ps_ret (pe_and (pe_cal c_is_tuple (hr.mono (by decide)) pass0 (pa_cons (pv 0) (pa_cons pe_int pa_nil))) (pe_and (pe_callB u_isi rfl T.b.isinstance_ boot_isinstance (pa_cons (pe_ix ix_seq (pv 0) pe_int (fun _ _ => rfl)) (pa_cons (pe_bltn (v := V.ty "str") rfl T.b.str_ (by decide +kernel) rfl) pa_nil))) (pe_one (pe_cmpR (u_eq hr.units) (pe_ix ix_seq (pv 0) pe_int (fun _ _ => rfl)) (pv 1) (nomark _))))))), ?_⟩
    walk_at "el"
    refine ⟨x, _, rfl, hx, fun b hb => ?_⟩
    rcases b with _ | _
    · walk_at "el"
      refine k _ ⟨(fun h => nomatch h), ?_⟩
      rintro ⟨a, y, rfl, ha⟩
      exact absurd (hb.mpr ⟨a, _, rfl, ha, rfl⟩) (by decide)
    · obtain ⟨a, xs, rfl, ha, hl⟩ := hb.mp rfl
      match xs, hl with
      | [y, z], _ =>
        obtain ⟨t, kt⟩ := (te a _ rfl ha y (List.mem_cons_self ..)).kit
        walk_at "el"
        refine ite2 (fun h0 => ?_) (fun h0 => ?_)
        · obtain ⟨s, rfl⟩ : ∃ s, y = .str s := by cases y <;> first | exact ⟨_, rfl⟩ | cases h0
          walk_at "el"
          refine k _ ⟨fun hz => ⟨a, z, rfl, ?_⟩, ?_⟩
          · have e : s = wd := by
              have q : V.str s = V.str wd := by simpa using hz
              cases q; rfl
            rw [← e]; exact ha
          · rintro ⟨a', y', e, ha'⟩
            cases e
            rw [ha] at ha'
            cases ha'
            simp
        · walk_at "el"
          refine k _ ⟨(fun h => nomatch h), ?_⟩
          rintro ⟨a', y', e, ha'⟩
          cases e
          rw [ha] at ha'
          cases ha'
          exact absurd rfl h0
theorem ok_is_integer (F : Fun K "is_integer" "is_integer" s_is_integer f fd) (T : Wo K mg) : FnOk P w K mg base CX0 1 f fd ["thing"] (spB intB K) := by
  refine F.ok sc_is_integer (fun vs H Q E h => ?_) (fun cdv A outer s H vs Q E hr h => ?_)
  · obtain ⟨x, rfl, _⟩ := h
    rfl
  · obtain ⟨x, rfl, hx, k⟩ := h
    refine ⟨_, (pss_one (ps_ret (pe_and (pe_callB u_isi rfl T.b.isinstance_ boot_isinstance (pa_cons (pv 0) (pa_cons (pe_bltn (v := V.ty "int") rfl T.b.int_ (by decide +kernel) rfl) pa_nil))) (pe_one (pe_not (pe_callB u_isi rfl T.b.isinstance_ boot_isinstance (pa_cons (pv 0) (pa_cons (pe_bltn (v := V.ty "bool") rfl T.b.bool_ (by decide +kernel) rfl) pa_nil)))))))), ?_⟩
    obtain ⟨t, kt⟩ := hx.kit
    walk_at "el"
    refine ite2 (fun h0 => ?_) (fun h0 => ?_)
    · walk_at "el"
      rw [← intB_eq, if_pos h0] at k
      exact k _ (Same.refl _)
    · walk_at "el"
      rw [← intB_eq, if_neg h0] at k
      exact k _ (Same.refl _)
theorem ok_is_number (F : Fun K "is_number" "is_number" s_is_number f fd) (T : Wo K mg) (c_is_integer : Cal P w K mg base CX0 1 "is_integer" ["thing"] (spB intB K)) : FnOk P w K mg base CX0 2 f fd ["thing"] (spB numB K) := by
  refine F.ok sc_is_number (fun vs H Q E h => ?_) (fun cdv A outer s H vs Q E hr h => ?_)
  · obtain ⟨x, rfl, _⟩ := h
    rfl
  · obtain ⟨x, rfl, hx, k⟩ := h
    refine ⟨_, (pss_one (ps_ret (pe_and (pe_cal c_is_integer (hr.mono (by decide)) pass0 (pa_cons (pv 0) pa_nil)) (pe_one (pe_chain op_le op_le (pe_un un_neg (pe_gc (v := .int 1000000000000000) rfl T.k_GREATEST_NUMBER)) (pv 0) (pe_gc (v := .int 1000000000000000) rfl T.k_GREATEST_NUMBER)))))), ?_⟩
    walk_at "el"
    refine ⟨x, rfl, hx, fun H1 s1 => ?_⟩
    walk_at "el"
    refine ite2 (fun h0 => ?_) (fun h0 => ?_)
    · obtain ⟨i, rfl⟩ : ∃ i, x = .int i := by cases x <;> first | exact ⟨_, rfl⟩ | cases h0
      walk_at "el"
      refine ite2 (fun h1 => ?_) (fun h1 => ?_)
      · walk_at "el"
        have e : numB (.int i) = decide (i ≤ 1000000000000000) := by show (decide _ && decide _) = _; rw [h1]; rfl
        rw [e] at k
        exact k _ s1
      · walk_at "el"
        have e : numB (.int i) = false := by show (decide _ && decide _) = _; rw [Bool.not_eq_true _ |>.mp h1]; rfl
        rw [e] at k
        exact k _ s1
    · walk_at "el"
      have e : numB x = false := by cases x <;> first | rfl | exact absurd rfl h0
      rw [e] at k
      exact k _ s1
theorem ok_is_kind (F : Fun K "is_kind" "is_kind" s_is_kind f fd) (T : Wo K mg) : FnOk P w K mg base CX0 1 f fd ["thing"] (spB kindB K) := by
  refine F.ok sc_is_kind (fun vs H Q E h => ?_) (fun cdv A outer s H vs Q E hr h => ?_)
  · obtain ⟨x, rfl, _⟩ := h
    rfl
  · obtain ⟨x, rfl, hx, k⟩ := h
    refine ⟨_, (pss_one (ps_ret (pe_and (pe_callB u_isi rfl T.b.isinstance_ boot_isinstance (pa_cons (pv 0) (pa_cons (pe_bltn (v := V.ty "str") rfl T.b.str_ (by decide +kernel) rfl) pa_nil))) (pe_one (pe_cmpR u_in (pv 0) (pe_tup (pa_cons pe_str (pa_cons pe_str pa_nil))) rfl))))), ?_⟩
    obtain ⟨t, kt⟩ := hx.kit
    walk_at "el"
    refine ite2 (fun h0 => ?_) (fun h0 => ?_)
    · obtain ⟨i, rfl⟩ : ∃ i, x = .str i := by cases x <;> first | exact ⟨_, rfl⟩ | cases h0
      walk_at "el"
      refine ⟨by decide, fun p hp => n_inT upd_same rfl rfl ?_⟩
      walk_at "el"
      have e : kindB (.str i) = inV (.str i) [.str "early", .str "late"] := by
        show (decide _ || decide _) = (_ == _ || (_ == _ || false))
        rw [Bool.or_false]
        congr 1 <;> (rw [Bool.eq_iff_iff, decide_eq_true_iff, beq_iff_eq]; exact ⟨fun h => h.symm, fun h => h.symm⟩)
      rw [e] at k
      exact k _ (L2.Same.nw (Same.refl _) hp)
    · walk_at "el"
      have e : kindB x = false := by cases x <;> first | rfl | exact absurd rfl h0
      rw [e] at k
      exact k _ (Same.refl _)
theorem ok_contrary (F : Fun K "contrary" "contrary" s_contrary f fd) : FnOk P w K mg base CX0 1 f fd ["kind"] (fun vs H Q _ => ∃ s, vs = [.str s] ∧ Q (.str (otherK s)) H) := by
  refine F.ok sc_contrary (fun vs H Q E h => ?_) (fun cdv A outer s H vs Q E hr h => ?_)
  · obtain ⟨x, rfl, _⟩ := h
    rfl
  · obtain ⟨x, rfl, k⟩ := h
    refine ⟨_, (pss_cons (ps_if (pt_cmpR (u_eq hr.units) (pv 0) pe_str (nomark _))
    (pss_one (ps_ret pe_str))
    pss_nil)
  (pss_one (ps_ret pe_str))), ?_⟩
    walk_at "el"
    unfold otherK at k
    refine ite2 (fun h0 => ?_) (fun h0 => ?_)
    · walk_at "el"
      rw [if_pos (by simpa using h0)] at k
      exact k
    · walk_at "el"
      rw [if_neg (by simpa using h0)] at k
      exact k
def spTl : Sp := fun vs H Q _ => ∃ p x s, vs = [.ref p] ∧ H p = some (.tup [x, .str s]) ∧ ∀ r, H r = none → Q (.ref r) (upd H r (.tup [x, .str (otherK s)]))
end
end EL

/- part C -/
namespace EL
open PySem PySem.Spec PyProof.Rows L2
open PySem.W (Frag)
abbrev s_is_below : Stmt := top 12
abbrev N_is_below : List Str := ["thing", "many"]
theorem sc_is_below : FnScope N_is_below ["thing", "many"] (defScope s_is_below) := ⟨rfl, rfl, rfl, by decide +kernel, rfl, by decide +kernel, by decide +kernel⟩
abbrev s_is_side : Stmt := top 13
abbrev N_is_side : List Str := ["thing"]
theorem sc_is_side : FnScope N_is_side ["thing"] (defScope s_is_side) := ⟨rfl, rfl, rfl, by decide +kernel, rfl, by decide +kernel, by decide +kernel⟩
abbrev s_first_wrong : Stmt := top 14
abbrev N_first_wrong : List Str := ["part", "values", "events", "witnesses", "place", "word"]
theorem sc_first_wrong : FnScope N_first_wrong ["part", "values", "events", "witnesses"] (defScope s_first_wrong) := ⟨rfl, rfl, rfl, by decide +kernel, rfl, by decide +kernel, by decide +kernel⟩
abbrev s__can_stand : Stmt := top 15
abbrev N__can_stand : List Str := ["word", "values", "place", "events", "witnesses", "thing"]
theorem sc__can_stand : FnScope N__can_stand ["word", "values", "place", "events", "witnesses"] (defScope s__can_stand) := ⟨rfl, rfl, rfl, by decide +kernel, rfl, by decide +kernel, by decide +kernel⟩
abbrev s_is_item : Stmt := top 16
abbrev N_is_item : List Str := ["part", "thing", "events", "witnesses"]
theorem sc_is_item : FnScope N_is_item ["part", "thing", "events", "witnesses"] (defScope s_is_item) := ⟨rfl, rfl, rfl, by decide +kernel, rfl, by decide +kernel, by decide +kernel⟩
local macro_rules | `(tactic| walk_at "el1") => `(tactic| with_reducible first
  | refine a_sasg ?_ | refine a_sdrop ?_ | refine a_saugS ?_ | refine a_spar ?_ | refine a_seq ?_ | refine a_asg ?_ | refine a_drop ?_ | refine a_ret ?_ | refine a_if ?_ | refine a_next ?_
  | refine a_op ?_ | refine a_cons ?_ | refine a_nil ?_ | refine a_cb ?_ | refine a_call ?_ | refine a_c ?_ | refine a_gn ?_ | refine a_nx ?_ | refine a_rt ?_ | refine a_un ?_
  | refine a_test ?_ | refine a_B ?_ | refine a_bl ?_ | refine a_and ?_ | refine a_or ?_ | refine a_not ?_ | refine a_andV ?_ | refine a_orV ?_ | refine a_notV ?_ | refine a_ifx ?_ | refine a_chain ?_
  | refine a_nT ?_ | refine a_nF ?_ | refine a_fld ?_ | refine a_getF ?_ | refine a_T ?_ | refine a_F ?_ | refine a_tup ?_ | refine a_lst ?_ | refine a_sub ?_ | refine a_augS ?_ | refine a_two ?_ | refine a_I0 ?_ | refine a_U ?_ | refine n_add ?_ | refine n_int ?_ | refine n_ib ?_ | refine a_ip ?_ | refine a_rng1 ?_ | refine a_rng2 ?_ | refine a_bm ?_ | refine a_abs ?_ | refine a_pairs ?_ | refine a_pairs0 ?_ | refine a_bk ?_ | refine a_prp ?_ | refine a_lc ?_ | refine a_yes ?_ | refine a_sl ?_ | refine a_nop ?_ | refine a_prt ?_ | refine a_ex1 ?_ | refine a_for ?_ | refine a_sfor ?_ | refine a_iE1 ?_ | refine a_iEs ?_ | refine a_iEz ?_ | refine a_iEnum ?_ | refine a_iTup ?_ | refine a_iList ?_ | refine a_gcons ?_ | refine a_gnil ?_ | refine a_revT ?_ | refine a_spar3 ?_ | refine a_par3 ?_ | refine a_three ?_)
local macro_rules | `(tactic| walk_at "el2") => `(tactic| first
  | (refine a_var (by rfl) ?_)
  | (refine n_ixL (SqL.of (by assumption)) (by rfl) ?_) | (refine n_ixT (SqT.of (by assumption)) (by rfl) ?_) | (refine n_eq (by rfl) ?_) | (refine n_ne (by rfl) ?_)
  | (refine n_isN ?_) | (refine n_notN ?_) | (refine n_isB ?_) | (refine n_notB ?_) | (refine n_isBI ?_) | (refine n_notBI ?_) | (refine n_len (.inl (SqL.of (by assumption))) ?_) | (refine n_len (.inr (SqT.of (by assumption))) ?_)
  | (refine a_getL (SqL.of (by assumption)) (by rfl) ?_)
  | (refine n_isInt (by assumption) ?_) | (refine n_isBool (by assumption) ?_) | (refine n_isStr (by assumption) ?_) | (refine n_isTup (by assumption) ?_) | (refine n_isLst (by assumption) ?_))
local macro_rules | `(tactic| walk_at "el") => `(tactic| repeat (first | walk_at "el1" | walk_at "el2"))

/-! ### items -/
inductive Pt | tel | gap | sur | cla
  deriving DecidableEq
def Pt.name : Pt → Str | .tel => "tellings" | .gap => "gaps" | .sur => "sure" | .cla => "clauses"
def Pt.form : Pt → List Str
  | .tel => ["witness", "event", "number"]
  | .gap => ["event", "another event", "number"]
  | .sur => ["event", "side", "number"]
  | .cla => ["witness", "kind", "witness", "kind"]
def belowB (x : V) (n : Int) : Bool := match x with | .int i => decide (0 ≤ i) && decide (i < n) | _ => false
def sideB : V → Bool | .str s => decide (s = "least") || decide (s = "most") | _ => false
def turnS (s : Str) : Str := if s = "least" then "most" else "least"
structure It4 (K : Frag) (w : World) (mg : Str → Option Value) (aForms aParts : Addr) : Prop where
  b : Bi mg
  gForms : mg "FORMS" = some (.ref aForms)
  gParts : mg "PARTS" = some (.ref aParts)
  forms : ∀ p : Pt, ∃ a, KDct K w aForms p.name (.ref a) ∧ ∀ H, SqT K H a (p.form.map V.str)
  parts : ∀ H, SqT K H aParts [.str "tellings", .str "gaps", .str "sure", .str "clauses"]
def spBelow (K : Frag) : Sp := fun vs H Q _ => ∃ x n, vs = [x, .int n] ∧ Th K H x ∧ ∀ H', Same H H' → Q (.bl (belowB x n)) H'
section
variable {P : Program} {w : World} {K : Frag} {mg : Str → Option Value} {base : Heap} {f : Addr} {fd : FuncData} {aForms aParts : Addr}
theorem ok_is_below (F : Fun K "is_below" "is_below" s_is_below f fd) (c_is_integer : Cal P w K mg base CX0 1 "is_integer" ["thing"] (spB intB K)) : FnOk P w K mg base CX0 2 f fd ["thing", "many"] (spBelow K) := by
  refine F.ok sc_is_below (fun vs H Q E h => ?_) (fun cdv A outer s H vs Q E hr h => ?_)
  · obtain ⟨x, n, rfl, _⟩ := h
    rfl
  · obtain ⟨x, n, rfl, hx, k⟩ := h
    refine ⟨_, (pss_one (ps_ret (pe_and (pe_cal c_is_integer (hr.mono (by decide)) pass0 (pa_cons (pv 0) pa_nil)) (pe_one (pe_chain op_le op_lt pe_int (pv 0) (pv 1)))))), ?_⟩
    walk_at "el"
    refine ⟨x, rfl, hx, fun H1 s1 => ?_⟩
    walk_at "el"
    refine ite2 (fun h0 => ?_) (fun h0 => ?_)
    · obtain ⟨i, rfl⟩ : ∃ i, x = .int i := by cases x <;> first | exact ⟨_, rfl⟩ | cases h0
      walk_at "el"
      refine ite2 (fun h1 => ?_) (fun h1 => ?_)
      · walk_at "el"
        have e : belowB (.int i) n = decide (i < n) := by show (decide _ && decide _) = _; rw [h1]; rfl
        rw [e] at k
        exact k _ s1
      · walk_at "el"
        have e : belowB (.int i) n = false := by show (decide _ && decide _) = _; rw [Bool.not_eq_true _ |>.mp h1]; rfl
        rw [e] at k
        exact k _ s1
    · walk_at "el"
      have e : belowB x n = false := by cases x <;> first | rfl | exact absurd rfl h0
      rw [e] at k
      exact k _ s1
theorem ok_is_side (F : Fun K "is_side" "is_side" s_is_side f fd) (T : It4 K w mg aForms aParts) : FnOk P w K mg base CX0 1 f fd ["thing"] (spB sideB K) := by
  refine F.ok sc_is_side (fun vs H Q E h => ?_) (fun cdv A outer s H vs Q E hr h => ?_)
  · obtain ⟨x, rfl, _⟩ := h
    rfl
  · obtain ⟨x, rfl, hx, k⟩ := h
    refine ⟨_, (pss_one (ps_ret (pe_and (pe_callB u_isi rfl T.b.isinstance_ boot_isinstance (pa_cons (pv 0) (pa_cons (pe_bltn (v := V.ty "str") rfl T.b.str_ (by decide +kernel) rfl) pa_nil))) (pe_one (pe_cmpR u_in (pv 0) (pe_tup (pa_cons pe_str (pa_cons pe_str pa_nil))) rfl))))), ?_⟩
    obtain ⟨t, kt⟩ := hx.kit
    walk_at "el"
    refine ite2 (fun h0 => ?_) (fun h0 => ?_)
    · obtain ⟨i, rfl⟩ : ∃ i, x = .str i := by cases x <;> first | exact ⟨_, rfl⟩ | cases h0
      walk_at "el"
      refine ⟨by decide, fun p hp => n_inT upd_same rfl rfl ?_⟩
      walk_at "el"
      have e : sideB (.str i) = inV (.str i) [.str "least", .str "most"] := by
        show (decide _ || decide _) = (_ == _ || (_ == _ || false))
        rw [Bool.or_false]
        congr 1 <;> (rw [Bool.eq_iff_iff, decide_eq_true_iff, beq_iff_eq]; exact ⟨fun h => h.symm, fun h => h.symm⟩)
      rw [e] at k
      exact k _ (L2.Same.nw (Same.refl _) hp)
    · walk_at "el"
      have e : sideB x = false := by cases x <;> first | rfl | exact absurd rfl h0
      rw [e] at k
      exact k _ (Same.refl _)
/-- what may stand at a place -/
def standB (word : Str) (xs : List V) (i : Nat) (x : V) (ev wi : Int) : Bool :=
  if word = "witness" then belowB x wi else if word = "event" then belowB x ev else if word = "another event" then belowB x ev && !decide (some x = xs[i - 1]?)
  else if word = "side" then sideB x else if word = "kind" then kindB x else numB x
def spCan (K : Frag) : Sp := fun vs H Q _ => ∃ (word : Str) (a : Addr) (xs : List V) (i : Nat) (x : V) (ev wi : Int), vs = [.str word, .ref a, .int i, .int ev, .int wi] ∧ H a = some (.tup xs) ∧ xs[i]? = some x ∧ Th K H x ∧
  (word = "another event" → 1 ≤ i ∧ ∃ j, xs[i - 1]? = some (.int j)) ∧ ∀ H', Same H H' → Q (.bl (standB word xs i x ev wi)) H'
theorem ok_can_stand (F : Fun K "_can_stand" "_can_stand" s__can_stand f fd) (c_is_below : Cal P w K mg base CX0 2 "is_below" ["thing", "many"] (spBelow K)) (c_is_side : Cal P w K mg base CX0 1 "is_side" ["thing"] (spB sideB K))
    (c_is_kind : Cal P w K mg base CX0 1 "is_kind" ["thing"] (spB kindB K)) (c_is_number : Cal P w K mg base CX0 2 "is_number" ["thing"] (spB numB K)) :
    FnOk P w K mg base CX0 3 f fd ["word", "values", "place", "events", "witnesses"] (spCan K) := by
  refine F.ok sc__can_stand (fun vs H Q E h => ?_) (fun cdv A outer s H vs Q E hr h => ?_)
  · obtain ⟨_, _, _, _, _, _, _, rfl, _⟩ := h
    rfl
  · obtain ⟨word, a, xs, i, x, ev, wi, rfl, ha, hx, th, hp, k⟩ := h
    refine ⟨_, (pss_cons (ps_set (i := 5) sc__can_stand.nd rfl (Or.inl rfl) (pe_ix ix_seq (pv 1) (pv 2) (fun _ _ => rfl)))
  (pss_cons (ps_if (pt_cmpR (u_eq hr.units) (pv 0) pe_str (nomark _))
    (pss_one (ps_ret (pe_cal c_is_below (hr.mono (by decide)) pass0 (pa_cons (pv 5) (pa_cons (pv 4) pa_nil)))))
    pss_nil)
  (pss_cons (ps_if (pt_cmpR (u_eq hr.units) (pv 0) pe_str (nomark _))
    (pss_one (ps_ret (pe_cal c_is_below (hr.mono (by decide)) pass0 (pa_cons (pv 5) (pa_cons (pv 3) pa_nil)))))
    pss_nil)
  (pss_cons (ps_if (pt_cmpR (u_eq hr.units) (pv 0) pe_str (nomark _))
    (pss_one (ps_ret (pe_and (pe_cal c_is_below (hr.mono (by decide)) pass0 (pa_cons (pv 5) (pa_cons (pv 3) pa_nil))) (pe_one (pe_cmpR (u_ne hr.units) (pv 5) (pe_ix ix_seq (pv 1) (pe_op op_sub (pv 2) pe_int) (fun _ _ => rfl)) (nomark _))))))
    pss_nil)
  (pss_cons (ps_if (pt_cmpR (u_eq hr.units) (pv 0) pe_str (nomark _))
    (pss_one (ps_ret (pe_cal c_is_side (hr.mono (by decide)) pass0 (pa_cons (pv 5) pa_nil))))
    pss_nil)
  (pss_cons (ps_if (pt_cmpR (u_eq hr.units) (pv 0) pe_str (nomark _))
    (pss_one (ps_ret (pe_cal c_is_kind (hr.mono (by decide)) pass0 (pa_cons (pv 5) pa_nil))))
    pss_nil)
  (pss_one (ps_ret (pe_cal c_is_number (hr.mono (by decide)) pass0 (pa_cons (pv 5) pa_nil)))))))))), ?_⟩
    unfold standB at k
    walk_at "el"
    refine n_ixT (SqT.of ha) (atI_nat hx) ?_
    walk_at "el"
    refine ite2 (fun h0 => ?_) (fun h0 => ?_)
    · rw [if_pos (by simpa using h0)] at k
      walk_at "el"
      exact ⟨x, wi, rfl, th, fun H1 s1 => k _ s1⟩
    rw [if_neg (by simpa using h0)] at k
    walk_at "el"
    refine ite2 (fun h0 => ?_) (fun h0 => ?_)
    · rw [if_pos (by simpa using h0)] at k
      walk_at "el"
      exact ⟨x, ev, rfl, th, fun H1 s1 => k _ s1⟩
    rw [if_neg (by simpa using h0)] at k
    walk_at "el"
    refine ite2 (fun h0 => ?_) (fun h0 => ?_)
    · rw [if_pos (by simpa using h0)] at k
      obtain ⟨i1, j, hj⟩ := hp (by simpa using h0)
      walk_at "el"
      refine ⟨x, ev, rfl, th, fun H1 s1 => ?_⟩
      walk_at "el"
      refine ite2 (fun h1 => ?_) (fun h1 => ?_)
      · obtain ⟨z, rfl⟩ : ∃ z, x = .int z := by cases x <;> first | exact ⟨_, rfl⟩ | cases h1
        walk_at "el"
        have ei : (i : Int) - 1 = ((i - 1 : Nat) : Int) := by omega
        refine n_ixT (SqT.of (s1 _ _ ha)) (by rw [ei]; exact atI_nat hj) ?_
        walk_at "el"
        have e : (belowB (.int z) ev && !decide (some (.int z) = xs[i - 1]?)) = !decide (V.int z = V.int j) := by
          rw [h1, hj, Bool.true_and]
          congr 1
          rw [Bool.eq_iff_iff, decide_eq_true_iff, decide_eq_true_iff]
          exact ⟨fun h => Option.some.inj h, fun h => congrArg some h⟩
        rw [e] at k
        exact k _ s1
      · walk_at "el"
        rw [Bool.not_eq_true _ |>.mp h1, Bool.false_and] at k
        exact k _ s1
    rw [if_neg (by simpa using h0)] at k
    walk_at "el"
    refine ite2 (fun h0 => ?_) (fun h0 => ?_)
    · rw [if_pos (by simpa using h0)] at k
      walk_at "el"
      exact ⟨x, rfl, th, fun H1 s1 => k _ s1⟩
    rw [if_neg (by simpa using h0)] at k
    walk_at "el"
    refine ite2 (fun h0 => ?_) (fun h0 => ?_)
    · rw [if_pos (by simpa using h0)] at k
      walk_at "el"
      exact ⟨x, rfl, th, fun H1 s1 => k _ s1⟩
    rw [if_neg (by simpa using h0)] at k
    walk_at "el"
    exact ⟨x, rfl, th, fun H1 s1 => k _ s1⟩
/-- the values that may stand in an item -/
def StandsTo (p : Pt) (xs : List V) (ev wi : Int) (n : Nat) : Prop := ∀ j, j < n → ∀ wd x, p.form[j]? = some wd → xs[j]? = some x → standB wd xs j x ev wi = true
def spFw (K : Frag) : Sp := fun vs H Q _ => ∃ (p : Pt) (a : Addr) (xs : List V) (ev wi : Int), vs = [.str p.name, .ref a, .int ev, .int wi] ∧ H a = some (.tup xs) ∧ xs.length = p.form.length ∧ (∀ x ∈ xs, Th K H x) ∧
  (StandsTo p xs ev wi p.form.length → ∀ H', Same H H' → Q .non H') ∧
  (∀ i wd x, StandsTo p xs ev wi i → p.form[i]? = some wd → xs[i]? = some x → standB wd xs i x ev wi = false → ∀ H', Same H H' → Q (.int i) H')
theorem another_at {p : Pt} {i : Nat} (h : p.form[i]? = some ("another event" : Str)) : p = .gap ∧ i = 1 := by
  cases p <;> (rcases i with _ | _ | _ | _ | i) <;> first | exact ⟨rfl, rfl⟩ | (exfalso; revert h; decide) | cases h
theorem below_int {x : V} {n : Int} (h : belowB x n = true) : ∃ j, x = .int j ∧ 0 ≤ j ∧ j < n := by
  cases x with
  | int j =>
    have q : (decide (0 ≤ j) && decide (j < n)) = true := h
    rw [Bool.and_eq_true, decide_eq_true_iff, decide_eq_true_iff] at q
    exact ⟨j, rfl, q⟩
  | _ => cases h
theorem stands_prev {p : Pt} {xs : List V} {ev wi : Int} {i : Nat} (hl : xs.length = p.form.length) (h : StandsTo p xs ev wi i) (hw : p.form[i]? = some ("another event" : Str)) : 1 ≤ i ∧ ∃ j, xs[i - 1]? = some (.int j) := by
  obtain ⟨rfl, rfl⟩ := another_at hw
  have l0 : 0 < xs.length := by rw [hl]; decide
  have e0 : xs[0]? = some xs[0] := List.getElem?_eq_getElem l0
  have q := h 0 (by decide) "event" _ rfl e0
  obtain ⟨j, hj, _⟩ := below_int (x := xs[0]) (n := ev) (by
    unfold standB at q
    rw [if_neg (by decide), if_pos rfl] at q
    exact q)
  exact ⟨by decide, j, by rw [← hj]; exact e0⟩
theorem ok_first_wrong (F : Fun K "first_wrong" "first_wrong" s_first_wrong f fd) (T : It4 K w mg aForms aParts) (c__can_stand : Cal P w K mg base CX0 3 "_can_stand" ["word", "values", "place", "events", "witnesses"] (spCan K)) :
    FnOk P w K mg base CX0 4 f fd ["part", "values", "events", "witnesses"] (spFw K) := by
  refine F.ok sc_first_wrong (fun vs H Q E h => ?_) (fun cdv A outer s H vs Q E hr h => ?_)
  · obtain ⟨_, _, _, _, _, rfl, _⟩ := h
    rfl
  · obtain ⟨p, a, xs, ev, wi, rfl, ha, hl, th, kn, ki⟩ := h
    refine ⟨_, (pss_cons (ps_for PassesOwn.never rfl (pi_e1 rfl T.b.enumerate_ (pa_cons (pe_ix ix_kdict (pe_glob (v := .ref aForms) rfl T.gForms rfl) (pv 0) (fun _ _ => rfl)) pa_nil)) (pg_tup rfl (pgs_cons (pg_name (i := 4) sc_first_wrong.nd rfl (Or.inl rfl)) (pgs_cons (pg_name (i := 5) sc_first_wrong.nd rfl (Or.inl rfl)) pgs_nil)))
    (pss_one (ps_if (pt_not (pt_val (pe_cal c__can_stand (hr.mono (by decide)) pass0 (pa_cons (pv 5) (pa_cons (pv 1) (pa_cons (pv 4) (pa_cons (pv 2) (pa_cons (pv 3) pa_nil))))))))
    (pss_one (ps_ret (pv 4)))
    pss_nil)))
  (pss_one (ps_ret pe_non))), ?_⟩
    obtain ⟨aF, hF, sF⟩ := T.forms p
    walk_at "el"
    refine ⟨_, _, _, rfl, rfl, hF, ?_⟩
    walk_at "el"
    refine ⟨aF, _, rfl, sF _, ?_⟩
    refine lp_it (walk_es (xs := p.form.map V.str)) (fun i σ H1 => Same H H1 ∧ StandsTo p xs ev wi i ∧ ∃ v4 v5, σ = [some (.str p.name), some (.ref a), some (.int ev), some (.int wi), v4, v5]) ⟨Same.refl _, fun j h => absurd h (Nat.not_lt_zero j), _, _, rfl⟩ (fun i σ H1 hi h => sF _) ?_ ?_
    · rintro i x σ H1 H2 hi ⟨s1, hst, v4, v5, rfl⟩ ⟨t, _, rfl, ht, rfl, hwd⟩
      rw [List.length_map] at hi
      have hi2 : i < xs.length := by omega
      rw [List.getElem?_map, List.getElem?_eq_getElem hi] at hwd
      cases hwd
      have ew : p.form[i]? = some p.form[i] := List.getElem?_eq_getElem hi
      have ex : xs[i]? = some xs[i] := List.getElem?_eq_getElem hi2
      have s2 := L2.Same.nw (o := .tup [.int ((0 : Int) + i), .str p.form[i]]) s1 ht
      refine a_gtup (SqT.of upd_same) rfl ?_
      walk_at "el"
      refine ⟨p.form[i], a, xs, i, xs[i], ev, wi, by rw [Int.zero_add], s2 _ _ ha, ex, (th _ (List.getElem_mem hi2)).same s2, fun hn => stands_prev hl hst (by rw [ew, hn]), fun H3 s3 => ?_⟩
      walk_at "el"
      refine ite2 (fun h0 => ?_) (fun h0 => ?_)
      · walk_at "el"
        rw [Int.zero_add]
        exact ki i _ _ hst ew ex (by simpa using h0) _ (s2.trans s3)
      · walk_at "el"
        refine ⟨s2.trans s3, fun j hj wd x hw hx => ?_, _, _, rfl⟩
        by_cases e : j = i
        · subst e
          rw [ew] at hw; cases hw
          rw [ex] at hx; cases hx
          simpa using h0
        · exact hst j (by omega) wd x hw hx
    · rintro σ H1 ⟨s1, hst, v4, v5, rfl⟩
      rw [List.length_map] at hst
      walk_at "el"
      exact kn hst _ s1
/-- an item of a part -/
def ItemOk (p : Pt) (H : Hp) (x : V) (ev wi : Int) : Prop := ∃ a xs, x = .ref a ∧ H a = some (.tup xs) ∧ xs.length = p.form.length ∧ StandsTo p xs ev wi p.form.length
def spItem (K : Frag) : Sp := fun vs H Q _ => ∃ (p : Pt) (x : V) (ev wi : Int), vs = [.str p.name, x, .int ev, .int wi] ∧ Th K H x ∧ (∀ a xs, x = .ref a → H a = some (.tup xs) → ∀ y ∈ xs, Th K H y) ∧ ∀ H' b, Same H H' → (b = true ↔ ItemOk p H x ev wi) → Q (.bl b) H'
theorem ok_is_item (F : Fun K "is_item" "is_item" s_is_item f fd) (T : It4 K w mg aForms aParts) (c_is_tuple : Cal P w K mg base CX0 1 "is_tuple" ["thing", "many"] (spTu K)) (c_first_wrong : Cal P w K mg base CX0 4 "first_wrong" ["part", "values", "events", "witnesses"] (spFw K)) :
    FnOk P w K mg base CX0 5 f fd ["part", "thing", "events", "witnesses"] (spItem K) := by
  refine F.ok sc_is_item (fun vs H Q E h => ?_) (fun cdv A outer s H vs Q E hr h => ?_)
  · obtain ⟨_, _, _, _, rfl, _⟩ := h
    rfl
  · obtain ⟨p, x, ev, wi, rfl, th, te, k⟩ := h
    refine ⟨_, (pss_one (ps_ret (pe_and (pe_cal c_is_tuple (hr.mono (by decide)) pass0 (pa_cons (pv 1) (pa_cons (pe_callB u_len rfl T.b.len_ boot_len (pa_cons (pe_ix ix_kdict (pe_glob (v := .ref aForms) rfl T.gForms rfl) (pv 0) (fun _ _ => rfl)) pa_nil)) pa_nil))) (pe_one (pe_cmpR u_is (pe_cal c_first_wrong (hr.mono (by decide)) pass0 (pa_cons (pv 0) (pa_cons (pv 1) (pa_cons (pv 2) (pa_cons (pv 3) pa_nil))))) pe_non (nomark _)))))), ?_⟩
    obtain ⟨t, kt⟩ := th.kit
    obtain ⟨aF, hF, sF⟩ := T.forms p
    walk_at "el"
    refine ⟨_, _, _, rfl, rfl, hF, ?_⟩
    walk_at "el"
    refine n_len (.inr (sF _)) ?_
    walk_at "el"
    rw [List.length_map]
    refine ⟨x, _, rfl, th, fun b hb => ?_⟩
    rcases b with _ | _
    · walk_at "el"
      refine k _ false (Same.refl _) ⟨(fun h => nomatch h), ?_⟩
      rintro ⟨a, xs, rfl, ha, hl, _⟩
      exact absurd (hb.mpr ⟨a, xs, rfl, ha, by rw [hl]⟩) (by decide)
    · obtain ⟨a, xs, rfl, ha, hl'⟩ := hb.mp rfl
      have hl : xs.length = p.form.length := by omega
      walk_at "el"
      refine ⟨p, a, xs, ev, wi, rfl, ha, hl, te a xs rfl ha, fun hs H1 s1 => ?_, fun i wd x hs hw hx hb H1 s1 => ?_⟩
      · walk_at "el"
        exact k _ _ s1 ⟨fun _ => ⟨a, xs, rfl, ha, hl, hs⟩, fun _ => by decide⟩
      · walk_at "el"
        refine k _ _ s1 ⟨(fun h => by cases h), ?_⟩
        rintro ⟨a', xs', e, ha', hl', hs'⟩
        cases e
        rw [ha] at ha'
        cases ha'
        have hi : i < p.form.length := (List.getElem?_eq_some_iff.mp hw).1
        rw [hs' i hi wd x hw hx] at hb
        cases hb
end
end EL

/- part D -/
namespace EL
open PySem PySem.Spec PyProof.Rows L2
open PySem.W (Frag)
abbrev s__check_arguments : Stmt := top 41
abbrev N__check_arguments : List Str := ["events", "witnesses", "parts", "place", "items"]
theorem sc__check_arguments : FnScope N__check_arguments ["events", "witnesses", "parts"] (defScope s__check_arguments) := ⟨rfl, rfl, rfl, by decide +kernel, rfl, by decide +kernel, by decide +kernel⟩
abbrev s__check_items : Stmt := top 42
abbrev N__check_items : List Str := ["place", "part", "items", "events", "witnesses", "index", "item"]
theorem sc__check_items : FnScope N__check_items ["place", "part", "items", "events", "witnesses"] (defScope s__check_items) := ⟨rfl, rfl, rfl, by decide +kernel, rfl, by decide +kernel, by decide +kernel⟩
abbrev s_Book_init : Stmt := inClass (top 43) 0
abbrev N_Book_init : List Str := ["self", "events", "witnesses", "tellings", "gaps", "sure", "clauses", "parts", "place", "part", "items"]
theorem sc_Book_init : FnScope N_Book_init ["self", "events", "witnesses", "tellings", "gaps", "sure", "clauses"] (defScope s_Book_init) := ⟨rfl, rfl, rfl, by decide +kernel, rfl, by decide +kernel, by decide +kernel⟩
local macro_rules | `(tactic| walk_at "el1") => `(tactic| with_reducible first
  | refine a_sasg ?_ | refine a_sdrop ?_ | refine a_saugS ?_ | refine a_spar ?_ | refine a_seq ?_ | refine a_asg ?_ | refine a_drop ?_ | refine a_ret ?_ | refine a_if ?_ | refine a_next ?_
  | refine a_op ?_ | refine a_cons ?_ | refine a_nil ?_ | refine a_cb ?_ | refine a_call ?_ | refine a_c ?_ | refine a_gn ?_ | refine a_nx ?_ | refine a_rt ?_ | refine a_un ?_
  | refine a_test ?_ | refine a_B ?_ | refine a_bl ?_ | refine a_and ?_ | refine a_or ?_ | refine a_not ?_ | refine a_andV ?_ | refine a_orV ?_ | refine a_notV ?_ | refine a_ifx ?_ | refine a_chain ?_
  | refine a_nT ?_ | refine a_nF ?_ | refine a_fld ?_ | refine a_getF ?_ | refine a_T ?_ | refine a_F ?_ | refine a_tup ?_ | refine a_lst ?_ | refine a_sub ?_ | refine a_augS ?_ | refine a_two ?_ | refine a_I0 ?_ | refine a_U ?_ | refine n_add ?_ | refine n_int ?_ | refine n_ib ?_ | refine a_ip ?_ | refine a_rng1 ?_ | refine a_rng2 ?_ | refine a_bm ?_ | refine a_abs ?_ | refine a_pairs ?_ | refine a_pairs0 ?_ | refine a_bk ?_ | refine a_prp ?_ | refine a_lc ?_ | refine a_yes ?_ | refine a_sl ?_ | refine a_nop ?_ | refine a_prt ?_ | refine a_ex1 ?_ | refine a_for ?_ | refine a_sfor ?_ | refine a_iE1 ?_ | refine a_iEs ?_ | refine a_iEz ?_ | refine a_iEnum ?_ | refine a_iTup ?_ | refine a_iList ?_ | refine a_gcons ?_ | refine a_gnil ?_ | refine a_revT ?_ | refine a_spar3 ?_ | refine a_par3 ?_ | refine a_three ?_)
local macro_rules | `(tactic| walk_at "el2") => `(tactic| first
  | (refine a_var (by rfl) ?_)
  | (refine n_ixL (SqL.of (by assumption)) (by rfl) ?_) | (refine n_ixT (SqT.of (by assumption)) (by rfl) ?_) | (refine n_eq (by rfl) ?_) | (refine n_ne (by rfl) ?_)
  | (refine n_isN ?_) | (refine n_notN ?_) | (refine n_isB ?_) | (refine n_notB ?_) | (refine n_isBI ?_) | (refine n_notBI ?_) | (refine n_len (.inl (SqL.of (by assumption))) ?_) | (refine n_len (.inr (SqT.of (by assumption))) ?_)
  | (refine a_getL (SqL.of (by assumption)) (by rfl) ?_)
  | (refine n_isInt (by assumption) ?_) | (refine n_isBool (by assumption) ?_) | (refine n_isStr (by assumption) ?_) | (refine n_isTup (by assumption) ?_) | (refine n_isLst (by assumption) ?_))
local macro_rules | `(tactic| walk_at "el") => `(tactic| repeat (first | walk_at "el1" | walk_at "el2"))

/-! ### books -/
structure Bo (mg : Str → Option Value) : Prop where
  k_MOST_EVENTS : ∃ u, mg "MOST_EVENTS" = some u ∧ L2.RelV (.int 8) u
  k_MOST_WITNESSES : ∃ u, mg "MOST_WITNESSES" = some u ∧ L2.RelV (.int 8) u
  k_MOST_ITEMS : ∃ u, mg "MOST_ITEMS" = some u ∧ L2.RelV (.int 24) u
structure BoT (K : Frag) (w : World) (mg : Str → Option Value) (aForms aParts : Addr) : Prop extends It4 K w mg aForms aParts, Bo mg
theorem stand_th {K : Frag} {H : Hp} {wd : Str} {xs : List V} {j : Nat} {x : V} {ev wi : Int} (h : standB wd xs j x ev wi = true) : Th K H x := by
  cases x with
  | int i => exact .int i
  | str s => exact .str s
  | _ => (exfalso; simp [standB, belowB, sideB, kindB, numB] at h)
theorem ItemOk.th {K : Frag} {p : Pt} {H : Hp} {x : V} {ev wi : Int} (h : ItemOk p H x ev wi) : Th K H x ∧ ∀ a xs, x = .ref a → H a = some (.tup xs) → ∀ y ∈ xs, Th K H y := by
  obtain ⟨a, xs, rfl, ha, hl, hs⟩ := h
  refine ⟨.tup ha, fun a' xs' e ha' y hy => ?_⟩
  cases e
  rw [ha] at ha'
  cases ha'
  obtain ⟨j, hj, rfl⟩ := List.getElem_of_mem hy
  have h2 : j < p.form.length := by omega
  exact stand_th (hs j h2 _ _ (List.getElem?_eq_getElem h2) (List.getElem?_eq_getElem hj))
theorem ItemOk.same {p : Pt} {H H' : Hp} {x : V} {ev wi : Int} (h : ItemOk p H x ev wi) (s : Same H H') : ItemOk p H' x ev wi := by
  obtain ⟨a, xs, rfl, ha, hl, hs⟩ := h
  exact ⟨a, xs, rfl, s _ _ ha, hl, hs⟩
/-- a part that a book may have -/
structure PartOk (K : Frag) (p : Pt) (H : Hp) (a : Addr) (xs : List V) (ev wi : Int) : Prop where
  seq : SqA K H a xs
  len : xs.length ≤ 24
  items : ∀ x ∈ xs, ItemOk p H x ev wi
theorem PartOk.same {K : Frag} {p : Pt} {H H' : Hp} {a : Addr} {xs : List V} {ev wi : Int} (h : PartOk K p H a xs ev wi) (s : Same H H') : PartOk K p H' a xs ev wi := ⟨h.seq.same s, h.len, fun x hx => (h.items x hx).same s⟩
def spCa (K : Frag) : Sp := fun vs H Q _ => ∃ (ev wi : Int) (q t g s c : Addr) (ts gs ss cs : List V), vs = [.int ev, .int wi, .ref q] ∧ H q = some (.tup [.ref t, .ref g, .ref s, .ref c]) ∧ 0 ≤ ev ∧ ev ≤ 8 ∧ 0 ≤ wi ∧ wi ≤ 8 ∧ SqA K H t ts ∧ SqA K H g gs ∧ SqA K H s ss ∧ SqA K H c cs ∧ ∀ H', Same H H' → Q .non H'
def spCi (K : Frag) : Sp := fun vs H Q _ => ∃ (n : Int) (p : Pt) (a : Addr) (xs : List V) (ev wi : Int), vs = [.int n, .str p.name, .ref a, .int ev, .int wi] ∧ PartOk K p H a xs ev wi ∧ ∀ H', Same H H' → Q .non H'
section
variable {P : Program} {w : World} {K : Frag} {mg : Str → Option Value} {base : Heap} {f : Addr} {fd : FuncData} {aForms aParts : Addr}
theorem below_true {i n : Int} (h0 : 0 ≤ i) (h1 : i < n) : belowB (.int i) n = true := by show (decide _ && decide _) = true; rw [decide_eq_true h0, decide_eq_true h1]; rfl
theorem ok_check_arguments (F : Fun K "_check_arguments" "_check_arguments" s__check_arguments f fd) (T : BoT K w mg aForms aParts) (c_is_below : Cal P w K mg base CX0 2 "is_below" ["thing", "many"] (spBelow K)) :
    FnOk P w K mg base CX0 3 f fd ["events", "witnesses", "parts"] (spCa K) := by
  refine F.ok sc__check_arguments (fun vs H Q E h => ?_) (fun cdv A outer s H vs Q E hr h => ?_)
  · obtain ⟨_, _, _, _, _, _, _, _, _, _, _, rfl, _⟩ := h
    rfl
  · obtain ⟨ev, wi, q, t, g, s, c, ts, gs, ss, cs, rfl, hq, e0, e8, w0, w8, ht, hg, hs, hc, k⟩ := h
    refine ⟨_, (pss_cons (ps_if (pt_not (pt_val (pe_cal c_is_below (hr.mono (by decide)) pass0 (pa_cons (pv 0) (pa_cons (pe_op u_add (pe_gc (v := .int 8) rfl T.k_MOST_EVENTS) pe_int) pa_nil)))))
    (pss_one ps_never)
    pss_nil)
  (pss_cons (ps_if (pt_not (pt_val (pe_cal c_is_below (hr.mono (by decide)) pass0 (pa_cons (pv 1) (pa_cons (pe_op u_add (pe_gc (v := .int 8) rfl T.k_MOST_WITNESSES) pe_int) pa_nil)))))
    (pss_one ps_never)
    pss_nil)
  (pss_one (ps_for PassesOwn.never rfl (pi_es rfl T.b.enumerate_ (pa_cons (pv 2) pa_nil) (by decide) (by decide)) (pg_tup rfl (pgs_cons (pg_name (i := 3) sc__check_arguments.nd rfl (Or.inl rfl)) (pgs_cons (pg_name (i := 4) sc__check_arguments.nd rfl (Or.inl rfl)) pgs_nil)))
    (pss_one (ps_if (pt_not (pt_val (pe_callB u_isi rfl T.b.isinstance_ boot_isinstance (pa_cons (pv 4) (pa_cons (pe_tup (pa_cons (pe_bltn (v := V.ty "list") rfl T.b.list_ (by decide +kernel) rfl) (pa_cons (pe_bltn (v := V.ty "tuple") rfl T.b.tuple_ (by decide +kernel) rfl) pa_nil))) pa_nil)))))
    (pss_one ps_never)
    pss_nil)))))), ?_⟩
    walk_at "el"
    refine ⟨.int ev, 9, rfl, .int ev, fun H1 s1 => ?_⟩
    rw [below_true e0 (by omega)]
    walk_at "el"
    refine ⟨.int wi, 9, rfl, .int wi, fun H2 s2 => ?_⟩
    rw [below_true w0 (by omega)]
    walk_at "el"
    have s12 := s1.trans s2
    refine ⟨q, _, rfl, SqT.of (s12 _ _ hq), ?_⟩
    have all : ∀ (i : Nat) (x : V), [V.ref t, V.ref g, V.ref s, V.ref c][i]? = some x → ∃ a xs, x = .ref a ∧ SqA K H a xs := by
      intro i x hx
      rcases i with _ | _ | _ | _ | i <;> cases hx
      · exact ⟨_, _, rfl, ht⟩
      · exact ⟨_, _, rfl, hg⟩
      · exact ⟨_, _, rfl, hs⟩
      · exact ⟨_, _, rfl, hc⟩
    refine lp_it walk_es (fun i σ H3 => Same H H3 ∧ ∃ v3 v4, σ = [some (.int ev), some (.int wi), some (.ref q), v3, v4]) ⟨s12, _, _, rfl⟩ (fun i σ H3 hi h => SqT.of (h.1 _ _ hq)) ?_ ?_
    · rintro i x σ H3 H4 hi ⟨s3, v3, v4, rfl⟩ ⟨r, y, rfl, hr, rfl, hy⟩
      obtain ⟨a, xs, rfl, ha⟩ := all i y hy
      have s4 := L2.Same.nw (o := .tup [.int ((2 : Int) + i), .ref a]) s3 hr
      refine a_gtup (SqT.of upd_same) rfl ?_
      walk_at "el"
      refine ⟨by show 2 ≤ sizeLine; decide, fun r2 hr2 => ?_⟩
      have s5 := L2.Same.nw (o := .tup [.ty "list", .ty "tuple"]) s4 hr2
      walk_at "el"
      refine (ha.same s5).isLT upd_same ?_
      walk_at "el"
      exact ⟨s5, _, _, rfl⟩
    · rintro σ H3 ⟨s3, v3, v4, rfl⟩
      exact k _ s3
theorem ok_check_items (F : Fun K "_check_items" "_check_items" s__check_items f fd) (T : BoT K w mg aForms aParts) (c_is_item : Cal P w K mg base CX0 5 "is_item" ["part", "thing", "events", "witnesses"] (spItem K)) :
    FnOk P w K mg base CX0 6 f fd ["place", "part", "items", "events", "witnesses"] (spCi K) := by
  refine F.ok sc__check_items (fun vs H Q E h => ?_) (fun cdv A outer s H vs Q E hr h => ?_)
  · obtain ⟨_, _, _, _, _, _, rfl, _⟩ := h
    rfl
  · obtain ⟨n, p, a, xs, ev, wi, rfl, hp, k⟩ := h
    refine ⟨_, (pss_cons (ps_if (pt_cmpR op_gt (pe_callB u_len rfl T.b.len_ boot_len (pa_cons (pv 2) pa_nil)) (pe_gc (v := .int 24) rfl T.k_MOST_ITEMS) (nomark _))
    (pss_one ps_never)
    pss_nil)
  (pss_one (ps_for PassesOwn.never rfl (PI.alt (pi_enum rfl T.b.enumerate_ (pa_cons (pv 2) pa_nil)) (pi_e1 rfl T.b.enumerate_ (pa_cons (pv 2) pa_nil))) (pg_tup rfl (pgs_cons (pg_name (i := 5) sc__check_items.nd rfl (Or.inl rfl)) (pgs_cons (pg_name (i := 6) sc__check_items.nd rfl (Or.inl rfl)) pgs_nil)))
    (pss_one (ps_if (pt_not (pt_val (pe_cal c_is_item (hr.mono (by decide)) pass0 (pa_cons (pv 1) (pa_cons (pv 6) (pa_cons (pv 3) (pa_cons (pv 4) pa_nil)))))))
    (pss_one ps_never)
    pss_nil))))), ?_⟩
    walk_at "el"
    refine n_len hp.seq.len ?_
    walk_at "el"
    have hn : decide ((xs.length : Int) > 24) = false := decide_eq_false (by have q := hp.len; omega)
    rw [hn]
    walk_at "el"
    rcases hp.seq with ha | ha
    · refine Or.inl ?_
      walk_at "el"
      refine ⟨a, xs, rfl, SqL.of ha, ?_⟩
      refine lp_it walk_enum (fun i σ H3 => Same H H3 ∧ ∃ v3 v4, σ = [some (.int n), some (.str p.name), some (.ref a), some (.int ev), some (.int wi), v3, v4]) ⟨Same.refl _, _, _, rfl⟩ (fun i σ H3 hi h => SqL.of (h.1 _ _ ha)) ?_ ?_
      · rintro i x σ H3 H4 hi ⟨s3, v3, v4, rfl⟩ ⟨r, _, y, rfl, hr, rfl, ei, hy⟩
        cases ei
        have s4 := L2.Same.nw (o := .tup [.int i, y]) s3 hr
        have io := (hp.items y (List.mem_of_getElem? hy)).same s4
        refine a_gtup (SqT.of upd_same) rfl ?_
        walk_at "el"
        refine ⟨p, y, ev, wi, rfl, io.th.1, io.th.2, fun H5 b s5 hb => ?_⟩
        rw [hb.mpr io]
        walk_at "el"
        exact ⟨s4.trans s5, _, _, rfl⟩
      · rintro σ H3 ⟨s3, v3, v4, rfl⟩
        exact k _ s3
    · refine Or.inr ?_
      walk_at "el"
      refine ⟨a, xs, rfl, ha, ?_⟩
      refine lp_it walk_es (fun i σ H3 => Same H H3 ∧ ∃ v3 v4, σ = [some (.int n), some (.str p.name), some (.ref a), some (.int ev), some (.int wi), v3, v4]) ⟨Same.refl _, _, _, rfl⟩ (fun i σ H3 hi h => ha.same h.1) ?_ ?_
      · rintro i x σ H3 H4 hi ⟨s3, v3, v4, rfl⟩ ⟨r, y, rfl, hr, rfl, hy⟩
        have s4 := L2.Same.nw (o := .tup [.int ((0 : Int) + i), y]) s3 hr
        have io := (hp.items y (List.mem_of_getElem? hy)).same s4
        refine a_gtup (SqT.of upd_same) rfl ?_
        walk_at "el"
        refine ⟨p, y, ev, wi, rfl, io.th.1, io.th.2, fun H5 b s5 hb => ?_⟩
        rw [hb.mpr io]
        walk_at "el"
        exact ⟨s4.trans s5, _, _, rfl⟩
      · rintro σ H3 ⟨s3, v3, v4, rfl⟩
        exact k _ s3
/-- a book, its parts told by their addresses -/
def bookO (C dx : Addr) (ev wi : Int) (t g s c : Addr) : HO := .ins C dx [("_events", .int ev), ("_witnesses", .int wi), ("_tellings", .ref t), ("_gaps", .ref g), ("_sure", .ref s), ("_clauses", .ref c)]
structure BkC (K : Frag) (C : Addr) : Prop where
  own : OwnC K C
  n0 : NoAttr K C "_events"
  n1 : NoAttr K C "_witnesses"
  n2 : NoAttr K C "_tellings"
  n3 : NoAttr K C "_gaps"
  n4 : NoAttr K C "_sure"
  n5 : NoAttr K C "_clauses"
def spInit (K : Frag) (C : Addr) : Sp := fun vs H Q _ => ∃ (o dx : Addr) (ev wi : Int) (t g s c : Addr) (ts gs ss cs : List V), vs = [.ref o, .int ev, .int wi, .ref t, .ref g, .ref s, .ref c] ∧ H o = some (.ins C dx []) ∧ 0 ≤ ev ∧ ev ≤ 8 ∧ 0 ≤ wi ∧ wi ≤ 8 ∧
  PartOk K .tel H t ts ev wi ∧ PartOk K .gap H g gs ev wi ∧ PartOk K .sur H s ss ev wi ∧ PartOk K .cla H c cs ev wi ∧
  ∀ H' t' g' s' c', Kp o H H' → H' o = some (bookO C dx ev wi t' g' s' c') → SqT K H' t' ts → SqT K H' g' gs → SqT K H' s' ss → SqT K H' c' cs → Q .non H'
theorem ok_init {dvs : List V} {C : Addr} (F : FunD K "__init__" "Book.__init__" (defArgs s_Book_init) (defBody s_Book_init) (defScope s_Book_init) dvs [] f fd) (T : BoT K w mg aForms aParts) (B : BkC K C)
    (c__check_arguments : Cal P w K mg base CX0 3 "_check_arguments" ["events", "witnesses", "parts"] (spCa K)) (c__check_items : Cal P w K mg base CX0 6 "_check_items" ["place", "part", "items", "events", "witnesses"] (spCi K)) :
    FnOk P w K mg base CX0 7 f fd ["self", "events", "witnesses", "tellings", "gaps", "sure", "clauses"] (spInit K C) := by
  refine F.ok sc_Book_init (fun vs H Q E h => ?_) (fun cdv A outer s H vs Q E hr h => ?_)
  · obtain ⟨_, _, _, _, _, _, _, _, _, _, _, _, rfl, _⟩ := h
    rfl
  · obtain ⟨o, dx, ev, wi, t, g, s, c, ts, gs, ss, cs, rfl, ho, e0, e8, w0, w8, ht, hg, hs, hc, k⟩ := h
    refine ⟨_, PSs.nox (pss_cons (ps_set (i := 7) sc_Book_init.nd rfl (Or.inl rfl) (pe_tup (pa_cons (pv 3) (pa_cons (pv 4) (pa_cons (pv 5) (pa_cons (pv 6) pa_nil))))))
  (pss_cons (ps_expr (pe_cal c__check_arguments (hr.mono (by decide)) pass0 (pa_cons (pv 1) (pa_cons (pv 2) (pa_cons (pv 7) pa_nil)))))
  (pss_cons (ps_for PassesOwn.never rfl (pi_ez rfl T.b.enumerate_ rfl T.b.zip_ (pa_cons (pe_glob (v := .ref aParts) rfl T.gParts rfl) (pa_cons (pv 7) pa_nil)) (by decide) (by decide)) (pg_tup rfl (pgs_cons (pg_name (i := 8) sc_Book_init.nd rfl (Or.inl rfl)) (pgs_cons (pg_tup rfl (pgs_cons (pg_name (i := 9) sc_Book_init.nd rfl (Or.inl rfl)) (pgs_cons (pg_name (i := 10) sc_Book_init.nd rfl (Or.inl rfl)) pgs_nil))) pgs_nil)))
    (pss_one (ps_expr (pe_cal c__check_items (hr.mono (by decide)) pass0 (pa_cons (pv 8) (pa_cons (pv 9) (pa_cons (pv 10) (pa_cons (pv 1) (pa_cons (pv 2) pa_nil)))))))))
  (pss_cons (ps_fld (pv 0) (pv 1) rfl)
  (pss_cons (ps_fld (pv 0) (pv 2) rfl)
  (pss_cons (ps_fld (pv 0) (pe_callTy u_tuple rfl T.b.tuple_ (by decide +kernel) (pa_cons (pv 3) pa_nil)) rfl)
  (pss_cons (ps_fld (pv 0) (pe_callTy u_tuple rfl T.b.tuple_ (by decide +kernel) (pa_cons (pv 4) pa_nil)) rfl)
  (pss_cons (ps_fld (pv 0) (pe_callTy u_tuple rfl T.b.tuple_ (by decide +kernel) (pa_cons (pv 5) pa_nil)) rfl)
  (pss_one (ps_fld (pv 0) (pe_callTy u_tuple rfl T.b.tuple_ (by decide +kernel) (pa_cons (pv 6) pa_nil)) rfl)))))))))), ?_⟩
    walk_at "el"
    refine ⟨by show 4 ≤ sizeLine; decide, fun q hq => ?_⟩
    have s1 := L2.Same.nw (o := .tup [.ref t, .ref g, .ref s, .ref c]) (Same.refl H) hq
    walk_at "el"
    refine ⟨ev, wi, q, t, g, s, c, ts, gs, ss, cs, rfl, upd_same, e0, e8, w0, w8, ht.seq.same s1, hg.seq.same s1, hs.seq.same s1, hc.seq.same s1, fun H2 s2 => ?_⟩
    have hq2 : H2 q = some (.tup [.ref t, .ref g, .ref s, .ref c]) := s2 _ _ upd_same
    have s12 := s1.trans s2
    clear s1 s2
    walk_at "el"
    refine ⟨aParts, q, _, _, rfl, T.parts _, SqT.of hq2, ?_⟩
    have all : ∀ (i : Nat) (x y : V), [V.str "tellings", V.str "gaps", V.str "sure", V.str "clauses"][i]? = some x → [V.ref t, V.ref g, V.ref s, V.ref c][i]? = some y → ∃ p a xs, x = .str (Pt.name p) ∧ y = .ref a ∧ PartOk K p H a xs ev wi := by
      intro i x y hx hy
      rcases i with _ | _ | _ | _ | i <;> cases hx <;> cases hy
      · exact ⟨.tel, _, _, rfl, rfl, ht⟩
      · exact ⟨.gap, _, _, rfl, rfl, hg⟩
      · exact ⟨.sur, _, _, rfl, rfl, hs⟩
      · exact ⟨.cla, _, _, rfl, rfl, hc⟩
    refine lp_it (walk_ez (xs := [.str "tellings", .str "gaps", .str "sure", .str "clauses"]) (ys := [.ref t, .ref g, .ref s, .ref c]) rfl) (fun i σ H3 => Same H H3 ∧ H3 q = some (.tup [.ref t, .ref g, .ref s, .ref c]) ∧ ∃ v3 v4 v5, σ = [some (.ref o), some (.int ev), some (.int wi), some (.ref t), some (.ref g), some (.ref s), some (.ref c), some (.ref q), v3, v4, v5]) ⟨s12, hq2, _, _, _, rfl⟩ (fun i σ H3 hi h => ⟨T.parts _, SqT.of h.2.1⟩) ?_ ?_
    · rintro i x σ H3 H4 hi ⟨s3, hq3, v3, v4, v5, rfl⟩ ⟨r0, r1, x0, y0, rfl, hr0, hr1, ne, rfl, hx, hy⟩
      obtain ⟨p, a, xs, rfl, rfl, hp⟩ := all i _ _ hx hy
      have s4 := L2.Same.nw (o := .tup [.str p.name, .ref a]) (Same.refl H3) hr0
      have s5 := L2.Same.nw (H1 := upd H3 r0 (.tup [.str p.name, .ref a])) (o := .tup [.int ((2 : Int) + i), .ref r0]) s4 (by rw [upd_ne (Ne.symm ne)]; exact hr1)
      have s35 := s3.trans s5
      refine a_gtup (SqT.of upd_same) rfl ?_
      walk_at "el"
      refine a_gtup (SqT.of (by rw [upd_ne ne]; exact upd_same)) rfl ?_
      walk_at "el"
      refine ⟨_, p, a, xs, ev, wi, rfl, hp.same s35, fun H6 s6 => ?_⟩
      walk_at "el"
      exact ⟨s35.trans s6, s6 _ _ (s5 _ _ hq3), _, _, _, rfl⟩
    · rintro σ H3 ⟨s3, _, v3, v4, v5, rfl⟩
      have o3 := s3 _ _ ho
      have k0 : Kp o H H3 := same_kp s3
      clear all hq2 s12
      walk_at "el"
      refine ⟨o, C, dx, _, rfl, o3, B.own.cl, B.n0, by decide, ?_⟩
      walk_at "el"
      refine ⟨o, C, dx, _, rfl, upd_same, B.own.cl, B.n1, by show 1 < 1000; decide, ?_⟩
      walk_at "el"
      have k1 : Kp o H (upd (upd H3 o (.ins C dx (putF "_events" (.int ev) []))) o (.ins C dx (putF "_witnesses" (.int wi) (putF "_events" (.int ev) [])))) := k0.bag.bag
      refine n_tuple (ht.seq.kp ho k1) fun t' H4 s4 ht' => ?_
      have o4 := s4 _ _ upd_same
      have k2 := k1.trans (same_kp s4)
      clear k1 s4 o3 k0
      walk_at "el"
      refine ⟨o, C, dx, _, rfl, o4, B.own.cl, B.n2, by show 2 < 1000; decide, ?_⟩
      walk_at "el"
      have k3 := k2.bag (o := .ins C dx (putF "_tellings" (.ref t') (putF "_witnesses" (.int wi) (putF "_events" (.int ev) []))))
      have ht1 := SqT.kp ht' o4 (Kp.bag (Kp.refl o H4) (o := .ins C dx (putF "_tellings" (.ref t') (putF "_witnesses" (.int wi) (putF "_events" (.int ev) [])))))
      refine n_tuple (hg.seq.kp ho k3) fun g' H5 s5 hg' => ?_
      have o5 := s5 _ _ upd_same
      have k4 := k3.trans (same_kp s5)
      have ht2 := ht1.same s5
      clear k3 s5 o4 k2 ht1 ht'
      walk_at "el"
      refine ⟨o, C, dx, _, rfl, o5, B.own.cl, B.n3, by show 3 < 1000; decide, ?_⟩
      walk_at "el"
      generalize hfs : putF "_gaps" (.ref g') (putF "_tellings" (.ref t') (putF "_witnesses" (.int wi) (putF "_events" (.int ev) []))) = fs4
      have k5 := k4.bag (o := .ins C dx fs4)
      have kk := Kp.bag (Kp.refl o H5) (o := .ins C dx fs4)
      refine n_tuple (hs.seq.kp ho k5) fun s' H6 s6 hs' => ?_
      have o6 := s6 _ _ upd_same
      have k6 := k5.trans (same_kp s6)
      have ht3 := (SqT.kp ht2 o5 kk).same s6
      have hg3 := (SqT.kp hg' o5 kk).same s6
      clear k5 s6 o5 k4 ht2 hg' kk
      walk_at "el"
      refine ⟨o, C, dx, _, rfl, o6, B.own.cl, B.n4, by subst hfs; show 4 < 1000; decide, ?_⟩
      walk_at "el"
      generalize hfs5 : putF "_sure" (.ref s') fs4 = fs5
      have k7 := k6.bag (o := .ins C dx fs5)
      have kk := Kp.bag (Kp.refl o H6) (o := .ins C dx fs5)
      refine n_tuple (hc.seq.kp ho k7) fun c' H7 s7 hc' => ?_
      have o7 := s7 _ _ upd_same
      have k8 := k7.trans (same_kp s7)
      have ht4 := (SqT.kp ht3 o6 kk).same s7
      have hg4 := (SqT.kp hg3 o6 kk).same s7
      have hs4 := (SqT.kp hs' o6 kk).same s7
      clear k7 s7 o6 k6 ht3 hg3 hs' kk
      walk_at "el"
      refine ⟨o, C, dx, _, rfl, o7, B.own.cl, B.n5, by subst hfs5; subst hfs; show 5 < 1000; decide, ?_⟩
      walk_at "el"
      have kk := Kp.bag (Kp.refl o H7) (o := .ins C dx (putF "_clauses" (.ref c') fs5))
      refine k _ t' g' s' c' (k8.trans kk) ?_ (SqT.kp ht4 o7 kk) (SqT.kp hg4 o7 kk) (SqT.kp hs4 o7 kk) (SqT.kp hc' o7 kk)
      rw [upd_same]
      subst hfs5
      subst hfs
      rfl
end
end EL

/- part L -/
namespace EL
open PySem PySem.Spec PyProof.Rows L2
open PySem.W (Frag)
abbrev s_bag : Stmt := top 45
abbrev N_bag : List Str := ["_law_script", "_law_cell"]
theorem sc_bag : FnScope N_bag ["_law_script"] (defScope s_bag) := ⟨rfl, rfl, rfl, by decide +kernel, rfl, by decide +kernel, by decide +kernel⟩
abbrev s_one : Stmt := top 47
abbrev N_one : List Str := ["_law_bag_here", "_law_menu"]
theorem sc_one : FnScope N_one ["_law_bag_here", "_law_menu"] (defScope s_one) := ⟨rfl, rfl, rfl, by decide +kernel, rfl, by decide +kernel, by decide +kernel⟩
local macro_rules | `(tactic| walk_at "el1") => `(tactic| with_reducible first
  | refine a_sasg ?_ | refine a_sdrop ?_ | refine a_saugS ?_ | refine a_spar ?_ | refine a_seq ?_ | refine a_asg ?_ | refine a_drop ?_ | refine a_ret ?_ | refine a_if ?_ | refine a_next ?_
  | refine a_op ?_ | refine a_cons ?_ | refine a_nil ?_ | refine a_cb ?_ | refine a_call ?_ | refine a_c ?_ | refine a_gn ?_ | refine a_nx ?_ | refine a_rt ?_ | refine a_un ?_
  | refine a_test ?_ | refine a_B ?_ | refine a_bl ?_ | refine a_and ?_ | refine a_or ?_ | refine a_not ?_ | refine a_andV ?_ | refine a_orV ?_ | refine a_notV ?_ | refine a_ifx ?_ | refine a_chain ?_
  | refine a_nT ?_ | refine a_nF ?_ | refine a_fld ?_ | refine a_getF ?_ | refine a_T ?_ | refine a_F ?_ | refine a_tup ?_ | refine a_lst ?_ | refine a_sub ?_ | refine a_augS ?_ | refine a_two ?_ | refine a_I0 ?_ | refine a_U ?_ | refine n_add ?_ | refine n_int ?_ | refine n_ib ?_ | refine a_ip ?_ | refine a_rng1 ?_ | refine a_rng2 ?_ | refine a_bm ?_ | refine a_abs ?_ | refine a_pairs ?_ | refine a_pairs0 ?_ | refine a_bk ?_ | refine a_prp ?_ | refine a_lc ?_ | refine a_yes ?_ | refine a_sl ?_ | refine a_nop ?_ | refine a_prt ?_ | refine a_ex1 ?_ | refine a_for ?_ | refine a_sfor ?_ | refine a_iE1 ?_ | refine a_iEs ?_ | refine a_iEz ?_ | refine a_iEnum ?_ | refine a_iTup ?_ | refine a_iList ?_ | refine a_gcons ?_ | refine a_gnil ?_ | refine a_revT ?_ | refine a_spar3 ?_ | refine a_par3 ?_ | refine a_three ?_)
local macro_rules | `(tactic| walk_at "el2") => `(tactic| first
  | (refine a_var (by rfl) ?_)
  | (refine n_ixL (SqL.of (by assumption)) (by rfl) ?_) | (refine n_ixT (SqT.of (by assumption)) (by rfl) ?_) | (refine n_eq (by rfl) ?_) | (refine n_ne (by rfl) ?_)
  | (refine n_isN ?_) | (refine n_notN ?_) | (refine n_isB ?_) | (refine n_notB ?_) | (refine n_isBI ?_) | (refine n_notBI ?_) | (refine n_len (.inl (SqL.of (by assumption))) ?_) | (refine n_len (.inr (SqT.of (by assumption))) ?_)
  | (refine a_getL (SqL.of (by assumption)) (by rfl) ?_)
  | (refine n_isInt (by assumption) ?_) | (refine n_isBool (by assumption) ?_) | (refine n_isStr (by assumption) ?_) | (refine n_isTup (by assumption) ?_) | (refine n_isLst (by assumption) ?_))
local macro_rules | `(tactic| walk_at "el") => `(tactic| repeat (first | walk_at "el1" | walk_at "el2"))

/-! ### the bag is made; one of a menu -/
def spBag (K : Frag) : Sp := fun vs H Q _ => ∃ (a : Addr) (ns : List Int), vs = [.ref a] ∧ SqL K H a (ns.map V.int) ∧ ∀ b c H', H b = none → H c = none → Bag H' b c → Same H H' → Q (.ref b) H'
def spOne (K : Frag) : Sp := fun vs H Q _ => ∃ (b c m : Addr) (xs : List V), vs = [.ref b, .ref m] ∧ Bag H b c ∧ m ≠ b ∧ SqA K H m xs ∧ 0 < xs.length ∧ xs.length ≤ 1000000000 ∧ ∀ x H', x ∈ xs → Bag H' b c → Kp b H H' → Q x H'
theorem cut_map {α : Type} (f : α → V) (ns : List α) (lo hi : Option Int) : ∃ ms : List α, cutV (ns.map f) lo hi = ms.map f ∧ ms.length ≤ ns.length := by
  unfold cutV
  refine ⟨(ns.drop (HT.sIx (ns.map f).length 0 lo)).take (HT.sIx (ns.map f).length (ns.map f).length hi - HT.sIx (ns.map f).length 0 lo), by rw [List.map_take, List.map_drop], ?_⟩
  rw [List.length_take, List.length_drop]
  omega
theorem atI_mem {xs : List V} {k : Int} {x : V} (h : atI xs k = some x) : x ∈ xs := by
  obtain ⟨j, h1, h2, _⟩ := atI_get h
  exact List.mem_of_getElem? h2
theorem cut_len63 (xs : List V) : (cutV xs none (some 63)).length ≤ 63 := by
  unfold cutV
  rw [List.length_take]
  refine Nat.le_trans (Nat.min_le_left _ _) ?_
  show min (63 : Int).toNat xs.length - 0 ≤ 63
  have q : (63 : Int).toNat = 63 := rfl
  omega
section
variable {P : Program} {w : World} {K : Frag} {mg : Str → Option Value} {base : Heap} {f : Addr} {fd : FuncData}
theorem ok_bag (F : Fun K "_law_bag" "_law_bag" s_bag f fd) (T : Tb mg) : FnOk P w K mg base CX0 1 f fd ["_law_script"] (spBag K) := by
  refine F.ok sc_bag (fun vs H Q E h => ?_) (fun cdv A outer s H vs Q E hr h => ?_)
  · obtain ⟨_, _, rfl, _⟩ := h
    rfl
  · obtain ⟨a, ns, rfl, ha, k⟩ := h
    refine ⟨_, (pss_one (ps_ret (pe_lst (pa_cons pe_int (pa_cons pe_int (pa_cons pe_int (pa_cons (pe_lc (own := [("_law_cell", 1)]) rfl sc_bag.nd (u_iter (pe_slice u_slice (pv 0) po_none (po_some pe_int))) (blkOk_by (own := [("_law_cell", 1)]) (N := N_bag) (sc := defScope s_bag) (by decide +kernel)) (fun _ _ _ _ _ => (pg_name (i := 1) sc_bag.nd rfl (Or.inl rfl))) (fun _ _ _ _ _ => pts_nil) (fun _ _ _ _ _ => (pe_callB call_abs rfl T.b.abs_ (by decide +kernel) (pa_cons (pv 1) pa_nil)))) pa_nil))))))), ?_⟩
    walk_at "el"
    refine a_iSeq (.inl ?_)
    walk_at "el"
    refine .inl ⟨a, _, rfl, ha, fun p hp => ?_⟩
    obtain ⟨ms, em, lm⟩ := cut_map V.int ns none (some 63)
    have l63 := cut_len63 (ns.map V.int)
    rw [em] at l63 ⊢
    rw [List.length_map] at l63
    have s1 := L2.Same.nw (o := .lst (ms.map V.int)) (Same.refl H) hp
    refine ⟨p, rfl, ⟨_, SqL.of upd_same⟩, fun D hD => ?_⟩
    have hDp : D ≠ p := fun z => by subst z; rw [upd_same] at hD; cases hD
    have hD0 : H D = none := s1.free hD
    refine lc_of (walk_list (xs := ms.map V.int)) (fun i H3 => Same H H3 ∧ H3 p = some (.lst (ms.map V.int)) ∧ ∃ cs : List Int, H3 D = some (.lst (cs.map V.int)) ∧ cs.length = i ∧ ∀ x ∈ cs, 0 ≤ x) ⟨s1.nw hD, by rw [upd_ne hDp.symm]; exact upd_same, [], upd_same, rfl, fun _ h => nomatch h⟩ (fun i H3 hi h => SqL.of h.2.1) ?_ ?_
    · rintro i x H3 H4 hi ⟨s3, hp3, cs, hD3, hl, hc⟩ ⟨rfl, hx⟩
      rw [List.length_map] at hi
      rw [List.getElem?_map, List.getElem?_eq_getElem hi] at hx
      cases hx
      walk_at "el"
      refine ⟨rfl, ?_⟩
      walk_at "el"
      refine ⟨_, hD3, by rw [List.length_map, hl]; exact Nat.lt_of_lt_of_le (m := 63) (by omega) (by decide), ?_⟩
      refine ⟨s3.mu hD0, by rw [upd_ne hDp.symm]; exact hp3, cs ++ [if ms[i] < 0 then -ms[i] else ms[i]], by rw [upd_same, List.map_append]; rfl, by rw [List.length_append, hl]; rfl, ?_⟩
      intro x hx
      rcases List.mem_append.mp hx with h | h
      · exact hc x h
      · cases List.mem_singleton.mp h
        split <;> omega
    · rintro H3 ⟨s3, hp3, cs, hD3, hl, hc⟩
      walk_at "el"
      refine ⟨by show 4 ≤ sizeLine; decide, fun b hb => ?_⟩
      have hbD : D ≠ b := fun z => by subst z; rw [hD3] at hb; cases hb
      exact k b D _ (s3.free hb) hD0 ⟨0, 1234567891, 0, cs, upd_same, by rw [upd_ne hbD]; exact hD3, hbD, by decide, by decide, by decide, by decide, hc⟩ (s3.nw hb)
theorem ok_one (F : Fun K "_law_one" "_law_one" s_one f fd) (T : Tb mg) (c_take : Cal P w K mg base CX0 1 "_law_take" ["_law_bag_here", "_law_many"] spTake) : FnOk P w K mg base CX0 2 f fd ["_law_bag_here", "_law_menu"] (spOne K) := by
  refine F.ok sc_one (fun vs H Q E h => ?_) (fun cdv A outer s H vs Q E hr h => ?_)
  · obtain ⟨_, _, _, _, rfl, _⟩ := h
    rfl
  · obtain ⟨b, c, m, xs, rfl, hb, hm, hs, h0, h1, k⟩ := h
    refine ⟨_, (pss_one (ps_ret (pe_ix ix_seq (pv 1) (pe_cal c_take (hr.mono (by decide)) pass0 (pa_cons (pv 0) (pa_cons (pe_callB u_len rfl T.b.len_ boot_len (pa_cons (pv 1) pa_nil)) pa_nil))) (fun _ _ => rfl)))), ?_⟩
    walk_at "el"
    refine n_len hs.len ?_
    walk_at "el"
    refine ⟨b, c, xs.length, rfl, hb, by omega, by omega, fun r H1 r0 r1 hb1 k1 => ?_⟩
    obtain ⟨x, hx⟩ : ∃ x, atI xs r = some x := by
      obtain ⟨n, rfl⟩ : ∃ n : Nat, r = n := ⟨r.toNat, by omega⟩
      have hn : n < xs.length := by omega
      exact ⟨xs[n], atI_nat (List.getElem?_eq_getElem hn)⟩
    have hm1 : SqA K H1 m xs := by
      rcases hs with h | (h | ⟨o, h⟩) | h
      · exact .inl (k1 _ _ hm h)
      · exact .inr (.inl (.inl (k1 _ _ hm h)))
      · exact .inr (.inl (.inr ⟨o, k1 _ _ hm h⟩))
      · exact .inr (.inr h)
    walk_at "el"
    rcases hm1 with h | h
    · refine n_ixL (SqL.of h) hx ?_
      exact k x _ (atI_mem hx) hb1 k1
    · refine n_ixT h hx ?_
      exact k x _ (atI_mem hx) hb1 k1
end
end EL

/- part G -/
namespace EL
open PySem PySem.Spec PyProof.Rows L2
open PySem.W (Frag)
/-! ### Book(..) as a call -/
abbrev psBook : List Str := ["self", "events", "witnesses", "tellings", "gaps", "sure", "clauses"]
structure BookD where
  f : Addr
  fd : FuncData
  d1 : Addr
  d2 : Addr
  d3 : Addr
  d4 : Addr
  ds : List Value
  ds4 : List Value
  ds3 : List Value
structure BookG (P : Program) (w : World) (K : Frag) (mg : Str → Option Value) (base : Heap) (C : Addr) (D : BookD) : Prop where
  made : Mk K C D.f
  fn : FnOk P w K mg base CX0 7 D.f D.fd psBook (spInit K C)
  b6 : L2.Binds K D.fd psBook []
  v2 : Vals [.ref D.d1, .ref D.d2, .ref D.d3, .ref D.d4] D.ds
  b2 : L2.Binds K D.fd psBook D.ds
  v4 : Vals [.ref D.d3, .ref D.d4] D.ds4
  b4 : L2.Binds K D.fd psBook D.ds4
  v3 : Vals [.ref D.d2, .ref D.d3, .ref D.d4] D.ds3
  b3 : L2.Binds K D.fd psBook D.ds3
  dflt : ∀ H, SqT K H D.d1 [] ∧ SqT K H D.d2 [] ∧ SqT K H D.d3 [] ∧ SqT K H D.d4 []
  g : mg "Book" = some (.ref C)
  c : BkC K C
/-- a new book, its parts tuples -/
def NewBook (K : Frag) (C : Addr) (ev wi : Int) (ts gs ss cs : List V) (H1 : Hp) (Q : VK) : Prop :=
  ∀ o dx t g s c H', Same H1 H' → H1 o = none → H' o = some (bookO C dx ev wi t g s c) → SqT K H' t ts → SqT K H' g gs → SqT K H' s ss → SqT K H' c cs → Q (.ref o) H'
theorem made_same {H1 H' : Hp} {x dx C : Addr} (nx : H1 x = none) (nd : H1 dx = none) (k : Kp x (upd (upd H1 dx (.own x)) x (.ins C dx [])) H') : Same H1 H' := fun a o e =>
  k a o (ne_of_none e nx) (by rw [upd_ne (ne_of_none e nx), upd_ne (ne_of_none e nd)]; exact e)
/-- what a making asks -/
def MkB (K : Frag) (C : Addr) (dvs vs : List V) (H1 : Hp) (Q : VK) : Prop := ∀ x dx, H1 x = none → H1 dx = none → dx ≠ x → spInit K C (.ref x :: (vs ++ dvs)) (upd (upd H1 dx (.own x)) x (.ins C dx [])) (fun v H2 => v = .non ∧ Q (.ref x) H2) E0
def tBk (K : Frag) (C : Addr) (dvs : List V) (t : TA) : TE := fun σ H Q => t σ H fun vs H1 => MkB K C dvs vs H1 Q
section
variable {X : Cx} {C : Addr} {D : BookD} {pos p : Pos} {e : Expr} {es : List Expr} {t : TA}
theorem pe_bk2 (B : BookG X.prog X.w X.K X.mg X.base C D) (hr : Room 8 X.A) (hg : Gl X "Book") (ha : PA X (e :: es) t) (he : starEach (e :: es) X.env = (false, eval e X.env) :: starEach es X.env := by rfl) (hpl : (backTo pos (starEach es X.env)).any (·.1) = false := by rfl) :
    PE X (.Call (.Name "Book" p) (e :: es) [] pos) (tBk X.K C [.ref D.d1, .ref D.d2, .ref D.d3, .ref D.d4] t) := pe_make (p := p) (pos := pos) B.made B.fn hr hg B.g B.b2 B.v2 pass0 ha (by decide) he hpl
theorem pe_bk6 (B : BookG X.prog X.w X.K X.mg X.base C D) (hr : Room 8 X.A) (hg : Gl X "Book") (ha : PA X (e :: es) t) (he : starEach (e :: es) X.env = (false, eval e X.env) :: starEach es X.env := by rfl) (hpl : (backTo pos (starEach es X.env)).any (·.1) = false := by rfl) :
    PE X (.Call (.Name "Book" p) (e :: es) [] pos) (tBk X.K C [] t) := pe_make (p := p) (pos := pos) B.made B.fn hr hg B.g B.b6 .nil pass0 ha (by decide) he hpl
theorem pe_bk4 (B : BookG X.prog X.w X.K X.mg X.base C D) (hr : Room 8 X.A) (hg : Gl X "Book") (ha : PA X (e :: es) t) (he : starEach (e :: es) X.env = (false, eval e X.env) :: starEach es X.env := by rfl) (hpl : (backTo pos (starEach es X.env)).any (·.1) = false := by rfl) :
    PE X (.Call (.Name "Book" p) (e :: es) [] pos) (tBk X.K C [.ref D.d3, .ref D.d4] t) := pe_make (p := p) (pos := pos) B.made B.fn hr hg B.g B.b4 B.v4 pass0 ha (by decide) he hpl
theorem pe_bk3 (B : BookG X.prog X.w X.K X.mg X.base C D) (hr : Room 8 X.A) (hg : Gl X "Book") (ha : PA X (e :: es) t) (he : starEach (e :: es) X.env = (false, eval e X.env) :: starEach es X.env := by rfl) (hpl : (backTo pos (starEach es X.env)).any (·.1) = false := by rfl) :
    PE X (.Call (.Name "Book" p) (e :: es) [] pos) (tBk X.K C [.ref D.d2, .ref D.d3, .ref D.d4] t) := pe_make (p := p) (pos := pos) B.made B.fn hr hg B.g B.b3 B.v3 pass0 ha (by decide) he hpl
end
section
variable {K : Frag} {C : Addr} {σ : L2.St} {H : Hp} {Q : VK} {dvs : List V} {t : TA}
theorem a_bk (q : t σ H fun vs H1 => MkB K C dvs vs H1 Q) : tBk K C dvs t σ H Q := q
theorem PartOk.nil {p : Pt} {a : Addr} {ev wi : Int} (h : SqT K H a []) : PartOk K p H a [] ev wi := ⟨.inr h, by decide, fun _ h => nomatch h⟩
theorem new_same {x dx : Addr} (nx : H x = none) (nd : H dx = none) (ne : dx ≠ x) : Same H (upd (upd H dx (.own x)) x (.ins C dx [])) := L2.Same.nw (L2.Same.nw (Same.refl H) nd) (by rw [upd_ne ne.symm]; exact nx)
theorem n_bk6 {ev wi : Int} {t g s c : Addr} {ts gs ss cs : List V} (e0 : 0 ≤ ev) (e8 : ev ≤ 8) (w0 : 0 ≤ wi) (w8 : wi ≤ 8) (ht : PartOk K .tel H t ts ev wi) (hg : PartOk K .gap H g gs ev wi) (hs : PartOk K .sur H s ss ev wi) (hc : PartOk K .cla H c cs ev wi)
    (q : NewBook K C ev wi ts gs ss cs H Q) : MkB K C [] [.int ev, .int wi, .ref t, .ref g, .ref s, .ref c] H Q := fun x dx nx nd ne => by
  have s0 := new_same (C := C) nx nd ne
  exact ⟨x, dx, ev, wi, t, g, s, c, ts, gs, ss, cs, rfl, upd_same, e0, e8, w0, w8, ht.same s0, hg.same s0, hs.same s0, hc.same s0, fun H' t' g' s' c' k ho h1 h2 h3 h4 => ⟨rfl, q x dx t' g' s' c' H' (made_same nx nd k) nx ho h1 h2 h3 h4⟩⟩
theorem n_bk4 {D : BookD} {ev wi : Int} {t g : Addr} {ts gs : List V} (hd : ∀ H, SqT K H D.d1 [] ∧ SqT K H D.d2 [] ∧ SqT K H D.d3 [] ∧ SqT K H D.d4 []) (e0 : 0 ≤ ev) (e8 : ev ≤ 8) (w0 : 0 ≤ wi) (w8 : wi ≤ 8) (ht : PartOk K .tel H t ts ev wi) (hg : PartOk K .gap H g gs ev wi)
    (q : NewBook K C ev wi ts gs [] [] H Q) : MkB K C [.ref D.d3, .ref D.d4] [.int ev, .int wi, .ref t, .ref g] H Q := fun x dx nx nd ne => by
  have s0 := new_same (C := C) nx nd ne
  exact ⟨x, dx, ev, wi, t, g, D.d3, D.d4, ts, gs, [], [], rfl, upd_same, e0, e8, w0, w8, ht.same s0, hg.same s0, .nil (hd _).2.2.1, .nil (hd _).2.2.2,
    fun H' t' g' s' c' k ho h1 h2 h3 h4 => ⟨rfl, q x dx t' g' s' c' H' (made_same nx nd k) nx ho h1 h2 h3 h4⟩⟩
theorem n_bk3 {D : BookD} {ev wi : Int} {t : Addr} {ts : List V} (hd : ∀ H, SqT K H D.d1 [] ∧ SqT K H D.d2 [] ∧ SqT K H D.d3 [] ∧ SqT K H D.d4 []) (e0 : 0 ≤ ev) (e8 : ev ≤ 8) (w0 : 0 ≤ wi) (w8 : wi ≤ 8) (ht : PartOk K .tel H t ts ev wi)
    (q : NewBook K C ev wi ts [] [] [] H Q) : MkB K C [.ref D.d2, .ref D.d3, .ref D.d4] [.int ev, .int wi, .ref t] H Q := fun x dx nx nd ne => by
  have s0 := new_same (C := C) nx nd ne
  exact ⟨x, dx, ev, wi, t, D.d2, D.d3, D.d4, ts, [], [], [], rfl, upd_same, e0, e8, w0, w8, ht.same s0, .nil (hd _).2.1, .nil (hd _).2.2.1, .nil (hd _).2.2.2,
    fun H' t' g' s' c' k ho h1 h2 h3 h4 => ⟨rfl, q x dx t' g' s' c' H' (made_same nx nd k) nx ho h1 h2 h3 h4⟩⟩
theorem n_bk2 {D : BookD} {ev wi : Int} (hd : ∀ H, SqT K H D.d1 [] ∧ SqT K H D.d2 [] ∧ SqT K H D.d3 [] ∧ SqT K H D.d4 []) (e0 : 0 ≤ ev) (e8 : ev ≤ 8) (w0 : 0 ≤ wi) (w8 : wi ≤ 8)
    (q : NewBook K C ev wi [] [] [] [] H Q) : MkB K C [.ref D.d1, .ref D.d2, .ref D.d3, .ref D.d4] [.int ev, .int wi] H Q := fun x dx nx nd ne => by
  exact ⟨x, dx, ev, wi, D.d1, D.d2, D.d3, D.d4, [], [], [], [], rfl, upd_same, e0, e8, w0, w8, .nil (hd _).1, .nil (hd _).2.1, .nil (hd _).2.2.1, .nil (hd _).2.2.2,
    fun H' t' g' s' c' k ho h1 h2 h3 h4 => ⟨rfl, q x dx t' g' s' c' H' (made_same nx nd k) nx ho h1 h2 h3 h4⟩⟩
end
theorem Bag.same {H H' : Hp} {b c : Addr} (h : Bag H b c) (s : Same H H') : Bag H' b c := by
  obtain ⟨i, j, k, cs, h1, h2, r⟩ := h
  exact ⟨i, j, k, cs, s _ _ h1, s _ _ h2, r⟩
theorem Bag.ne {H : Hp} {b c p : Addr} (h : Bag H b c) (hp : H p = none) : p ≠ b := fun z => by
  obtain ⟨i, j, k, cs, h1, _⟩ := h
  subst z
  rw [h1] at hp
  cases hp
theorem Th.kp {K : Frag} {b c : Addr} {H H' : Hp} {x : V} (h : Th K H x) (hb : Bag H b c) (hb' : Bag H' b c) (k : Kp b H H') : Th K H' x := by
  obtain ⟨_, _, _, _, h1, _⟩ := hb
  obtain ⟨_, _, _, _, h2, _⟩ := hb'
  exact h.stay h1 h2 k
theorem all_nil {α : Type} {p : α → Prop} : ∀ x ∈ ([] : List α), p x := fun _ h => nomatch h
theorem all_cons {α : Type} {p : α → Prop} {a : α} {l : List α} (h : p a) (t : ∀ x ∈ l, p x) : ∀ x ∈ a :: l, p x := fun x hx => (List.mem_cons.mp hx).elim (fun e => e ▸ h) (t x)
theorem all_app {α : Type} {p : α → Prop} {l m : List α} (h : ∀ x ∈ l, p x) (t : ∀ x ∈ m, p x) : ∀ x ∈ l ++ m, p x := fun x hx => (List.mem_append.mp hx).elim (h x) (t x)
/-- what is new -/
def Nw (H : Hp) (p : Addr) : Prop := ∀ o, Same H (upd H p o)
theorem nw_of {H : Hp} {p : Addr} (h : H p = none) : Nw H p := fun o => L2.Same.nw (Same.refl H) h
theorem Nw.to {H : Hp} {p a : Addr} {o u : HO} (n : Nw H p) (h : H a = some u) : upd H p o a = some u := n o a u h
theorem Th.kpK {K : Frag} {b c : Addr} {H H' : Hp} {x : V} (k : Kp b H H') (hb' : Bag H' b c) (hb : Bag H b c) (h : Th K H x) : Th K H' x := h.kp hb hb' k
theorem Kp.into {b : Addr} {H H1 H2 : Hp} (q : Kp b H1 H2) (p : Same H H1) : Kp b H H2 := (same_kp p).trans q
theorem eqv_is (r : Int) (s : Str) : PyData.eqv (.tuple [.int r, .str s]) (.tuple [.int r, .str s]) = true := by simp [PyData.eqv, PyData.eqvAll]
theorem shp_is {r : Int} {s : Str} (h : PyData.strOk s = true) : SeqAt.shaped (.tuple [.int r, .str s]) = true := by
  simp [SeqAt.shaped, PyData.canLay0, PyData.canLayAll0, PyData.depth, PyData.depthAll]
  exact h
/-- what a law promises: True for each script -/
def spLaw (K : Frag) : Sp := fun vs H Q _ => ∃ (a : Addr) (ns : List Int), vs = [.ref a] ∧ SqL K H a (ns.map V.int) ∧ ∀ H', Q (.bl true) H'
theorem walk_all {l : PySem.W.OpenLaw} {k : Nat} {q : Program} {loose : List Str} {XP : (Str → Option Value) → Heap → Prop} {YP : World → Heap → Prop} {d : DefRec} {K : Params → Frag} (hn : l.most = some 63) (hdf : d.params.defaults = []) (hr : Room k PySem.callerA)
    (hY : ∀ (w : World) (h : Heap), YP w h → (K w.params).In h)
    (F : ∀ (w : World) (mg : Str → Option Value) (fa : Addr) (h : Heap), (K w.params).In h → h.Ns mainGlobals mg → mg d.name = some (.ref fa) →
      ∃ fd : FuncData, (∀ (s : Shared) (u : Value), BindsTo s fd ⟨[u], []⟩ [("_law_script", u)]) ∧ ∀ base : Heap, (K w.params).In base → base.Ns mainGlobals mg → FnG l.prog w (K w.params) mg base CX0 k fa fd ["_law_script"] (spLaw (K w.params))) :
    PySem.W.WalkO q loose XP YP l.row.toRowW d [] (fun f vs => PySem.call f vs) :=
  walk_law (n := 63) (x := "_law_script") (CX := fun _ => CX0) (sp := fun w => spLaw (K w.params)) hn (by decide) hdf hr hY F (fun _ _ a ns hl _ hS => ⟨a, ns, rfl, hS, fun _ => rfl⟩) fun _ _ _ _ _ z => z
theorem own_kit {K : PySem.W.Frag} {C : Addr} {T : String} (hm : PySem.W.kitMeta T = true) (h : PySem.W.mroIn K C (.type T) = some false) : PySem.W.kitOne K (.ref C) (.type T) = some false := by
  unfold PySem.W.kitOne
  rw [if_neg (by simp)]
  show (if PySem.W.kitMeta T = true then PySem.W.subIn K (.ref C) (.type T) else none) = _
  rw [if_pos hm]
  exact h
/-! ### the properties of a book -/
def spGet (C : Addr) (fld : Str) : Sp := fun vs H Q _ => ∃ (a dx : Addr) (fs : List (Str × V)) (v : V), vs = [.ref a] ∧ H a = some (.ins C dx fs) ∧ fs.lookup fld = some v ∧ Q v H
structure PrpG (P : Program) (w : World) (K : Frag) (mg : Str → Option Value) (base : Heap) (C : Addr) (f fld : Str) : Prop where
  ex : ∃ p g fd, PropOf K C f p g ∧ FnOk P w K mg base CX0 1 g fd ["self"] (spGet C fld) ∧ L2.Binds K fd ["self"] []
  cl : Cls K C
theorem pe_prp {X : Cx} {C : Addr} {f fld : Str} {e : Expr} {ta : TE} {pos : Pos} (G : PrpG X.prog X.w X.K X.mg X.base C f fld) (hr : Room 2 X.A) (ha : PE X e ta) (hab : attributeBase e f X.env (eval e X.env) = eval e X.env := by rfl) :
    PE X (.Attribute e f pos) (tProp C (spGet C fld) [] E0 ta) := by
  obtain ⟨p, g, fd, hp, F, hb⟩ := G.ex
  exact pe_prop ha G.cl hp F hr hb .nil pass0 hab
def PrpR (C : Addr) (fld : Str) (x : V) (H : Hp) (Q : VK) : Prop := ∃ a dx fs, x = V.ref a ∧ H a = some (.ins C dx fs) ∧ spGet C fld (V.ref a :: []) H Q E0
theorem a_prp {C : Addr} {fld : Str} {ta : TE} {σ : L2.St} {H : Hp} {Q : VK} (q : ta σ H fun x H1 => PrpR C fld x H1 Q) : tProp C (spGet C fld) [] E0 ta σ H Q := q
theorem n_prp {C a dx : Addr} {fld : Str} {fs : List (Str × V)} {v : V} {H : Hp} {Q : VK} (h : H a = some (.ins C dx fs)) (hv : fs.lookup fld = some v) (q : Q v H) : PrpR C fld (.ref a) H Q := ⟨a, dx, fs, rfl, h, a, dx, fs, v, rfl, h, hv, q⟩
theorem nn {H : Hp} {a q : Addr} {o : HO} (h : upd H a o q = none) : q ≠ a ∧ H q = none := by
  by_cases e : q = a
  · subst e
    rw [upd_same] at h
    cases h
  · rw [upd_ne e] at h
    exact ⟨e, h⟩
theorem isI_cases {x : V} (h : isI x = true) : (∃ z, x = .int z) ∨ ∃ z, x = .bl z := by
  cases x with
  | int z => exact .inl ⟨z, rfl⟩
  | bl z => exact .inr ⟨z, rfl⟩
  | _ => cases h
theorem shp_ints : ∀ (js : List Int), SeqAt.shaped (.list (js.map PyData.int)) = true := by
  intro js
  simp only [SeqAt.shaped, Bool.and_eq_true, decide_eq_true_iff]
  refine ⟨?_, ?_⟩
  · show PyData.canLayAll0 (js.map PyData.int) = true
    induction js with
    | nil => rfl
    | cons j r ih => simp only [List.map_cons, PyData.canLayAll0, PyData.canLay0, ih, Bool.and_true]
  · have q : PyData.depthAll (js.map PyData.int) ≤ 1 := by
      induction js with
      | nil => decide
      | cons j r ih => simp [PyData.depthAll, PyData.depth]; omega
    simp [PyData.depth]; omega
theorem eqv_nil (ds : List PyData) : PyData.eqv (.list ds) (.list []) = decide (ds = []) := by
  cases ds with
  | nil => simp [PyData.eqv, PyData.eqvAll]
  | cons d r => simp [PyData.eqv, PyData.eqvAll]
theorem dp_ints {K : Frag} {H : Hp} : ∀ (js : List Int), DpAll K H (js.map V.int) (js.map PyData.int)
  | [] => .nil
  | j :: r => .cons (.int j) (dp_ints r)
/-! ### data stays -/
mutual
theorem dp_same {K : Frag} {H H' : Hp} (s : Same H H') : ∀ (d : PyData) (v : V), Dp K H v d → Dp K H' v d
  | .none, _, h => by cases h; exact .non
  | .bool _, _, h => by cases h; exact .bl _
  | .int _, _, h => by cases h; exact .int _
  | .str _, _, h => by cases h; exact .str _
  | .list ds, _, h => by
    cases h with
    | lst a ha => exact .lst (Same.seq s a) (dp_sameAll s ds _ ha)
  | .tuple ds, _, h => by
    cases h with
    | tup a ha => exact .tup (a.same s) (dp_sameAll s ds _ ha)
  | .dict _, _, h => by cases h
theorem dp_sameAll {K : Frag} {H H' : Hp} (s : Same H H') : ∀ (ds : List PyData) (vs : List V), DpAll K H vs ds → DpAll K H' vs ds
  | [], _, h => by cases h; exact .nil
  | d :: ds, _, h => by
    cases h with
    | cons h1 h2 => exact .cons (dp_same s d _ h1) (dp_sameAll s ds _ h2)
end
end EL

/- part R -/
namespace EL
open PySem PySem.Spec PyProof.Rows L2
open PySem.W (Frag)
abbrev s_Book_events : Stmt := inClass (top 43) 1
abbrev N_Book_events : List Str := ["self"]
theorem sc_Book_events : FnScope N_Book_events ["self"] (defScope s_Book_events) := ⟨rfl, rfl, rfl, by decide +kernel, rfl, by decide +kernel, by decide +kernel⟩
abbrev s_Book_witnesses : Stmt := inClass (top 43) 2
abbrev N_Book_witnesses : List Str := ["self"]
theorem sc_Book_witnesses : FnScope N_Book_witnesses ["self"] (defScope s_Book_witnesses) := ⟨rfl, rfl, rfl, by decide +kernel, rfl, by decide +kernel, by decide +kernel⟩
abbrev s_Book_tellings : Stmt := inClass (top 43) 3
abbrev N_Book_tellings : List Str := ["self"]
theorem sc_Book_tellings : FnScope N_Book_tellings ["self"] (defScope s_Book_tellings) := ⟨rfl, rfl, rfl, by decide +kernel, rfl, by decide +kernel, by decide +kernel⟩
abbrev s_Book_gaps : Stmt := inClass (top 43) 4
abbrev N_Book_gaps : List Str := ["self"]
theorem sc_Book_gaps : FnScope N_Book_gaps ["self"] (defScope s_Book_gaps) := ⟨rfl, rfl, rfl, by decide +kernel, rfl, by decide +kernel, by decide +kernel⟩
abbrev s_Book_sure : Stmt := inClass (top 43) 5
abbrev N_Book_sure : List Str := ["self"]
theorem sc_Book_sure : FnScope N_Book_sure ["self"] (defScope s_Book_sure) := ⟨rfl, rfl, rfl, by decide +kernel, rfl, by decide +kernel, by decide +kernel⟩
abbrev s_Book_clauses : Stmt := inClass (top 43) 6
abbrev N_Book_clauses : List Str := ["self"]
theorem sc_Book_clauses : FnScope N_Book_clauses ["self"] (defScope s_Book_clauses) := ⟨rfl, rfl, rfl, by decide +kernel, rfl, by decide +kernel, by decide +kernel⟩
abbrev s_is_way : Stmt := top 23
abbrev N_is_way : List Str := ["book", "a", "b", "thing", "here", "index"]
theorem sc_is_way : FnScope N_is_way ["book", "a", "b", "thing"] (defScope s_is_way) := ⟨rfl, rfl, rfl, by decide +kernel, rfl, by decide +kernel, by decide +kernel⟩
local macro_rules | `(tactic| walk_at "el1") => `(tactic| with_reducible first
  | refine a_sasg ?_ | refine a_sdrop ?_ | refine a_saugS ?_ | refine a_spar ?_ | refine a_seq ?_ | refine a_asg ?_ | refine a_drop ?_ | refine a_ret ?_ | refine a_if ?_ | refine a_next ?_
  | refine a_op ?_ | refine a_cons ?_ | refine a_nil ?_ | refine a_cb ?_ | refine a_call ?_ | refine a_c ?_ | refine a_gn ?_ | refine a_nx ?_ | refine a_rt ?_ | refine a_un ?_
  | refine a_test ?_ | refine a_B ?_ | refine a_bl ?_ | refine a_and ?_ | refine a_or ?_ | refine a_not ?_ | refine a_andV ?_ | refine a_orV ?_ | refine a_notV ?_ | refine a_ifx ?_ | refine a_chain ?_
  | refine a_nT ?_ | refine a_nF ?_ | refine a_fld ?_ | refine a_getF ?_ | refine a_T ?_ | refine a_F ?_ | refine a_tup ?_ | refine a_lst ?_ | refine a_sub ?_ | refine a_augS ?_ | refine a_two ?_ | refine a_I0 ?_ | refine a_U ?_ | refine n_add ?_ | refine n_int ?_ | refine n_ib ?_ | refine a_ip ?_ | refine a_rng1 ?_ | refine a_rng2 ?_ | refine a_bm ?_ | refine a_abs ?_ | refine a_pairs ?_ | refine a_pairs0 ?_ | refine a_bk ?_ | refine a_prp ?_ | refine a_lc ?_ | refine a_yes ?_ | refine a_sl ?_ | refine a_nop ?_ | refine a_prt ?_ | refine a_ex1 ?_ | refine a_for ?_ | refine a_sfor ?_ | refine a_iE1 ?_ | refine a_iEs ?_ | refine a_iEz ?_ | refine a_iEnum ?_ | refine a_iTup ?_ | refine a_iList ?_ | refine a_gcons ?_ | refine a_gnil ?_ | refine a_revT ?_ | refine a_spar3 ?_ | refine a_par3 ?_ | refine a_three ?_)
local macro_rules | `(tactic| walk_at "el2") => `(tactic| first
  | (refine a_var (by rfl) ?_)
  | (refine n_ixL (SqL.of (by assumption)) (by rfl) ?_) | (refine n_ixT (SqT.of (by assumption)) (by rfl) ?_) | (refine n_eq (by rfl) ?_) | (refine n_ne (by rfl) ?_)
  | (refine n_isN ?_) | (refine n_notN ?_) | (refine n_isB ?_) | (refine n_notB ?_) | (refine n_isBI ?_) | (refine n_notBI ?_) | (refine n_len (.inl (SqL.of (by assumption))) ?_) | (refine n_len (.inr (SqT.of (by assumption))) ?_)
  | (refine a_getL (SqL.of (by assumption)) (by rfl) ?_)
  | (refine n_isInt (by assumption) ?_) | (refine n_isBool (by assumption) ?_) | (refine n_isStr (by assumption) ?_) | (refine n_isTup (by assumption) ?_) | (refine n_isLst (by assumption) ?_))
local macro_rules | `(tactic| walk_at "el") => `(tactic| repeat (first | walk_at "el1" | walk_at "el2"))

/-! ### ways -/
/-- the gaps of a book, as numbers -/
structure GapsAre (K : Frag) (H : Hp) (g : Addr) (gs : List V) (G : List (Int × Int × Int)) : Prop where
  seq : SqA K H g gs
  len : gs.length = G.length
  at_ : ∀ (i : Nat) (v : V), gs[i]? = some v → ∃ (q : Addr) (x : Int × Int × Int), v = .ref q ∧ G[i]? = some x ∧ H q = some (.tup [.int x.1, .int x.2.1, .int x.2.2])
theorem GapsAre.same {K : Frag} {H H' : Hp} {g : Addr} {gs : List V} {G : List (Int × Int × Int)} (h : GapsAre K H g gs G) (s : Same H H') : GapsAre K H' g gs G :=
  ⟨h.seq.same s, h.len, fun i v hv => by
    obtain ⟨q, x, e, hx, hq⟩ := h.at_ i v hv
    exact ⟨q, x, e, hx, s _ _ hq⟩⟩
theorem num_int {x : V} (h : numB x = true) : ∃ n, x = .int n := by
  cases x with
  | int n => exact ⟨n, rfl⟩
  | _ => cases h
theorem item_gap_inv {H : Hp} {x : V} {ev wi : Int} (h : ItemOk .gap H x ev wi) : ∃ (q : Addr) (a e n : Int), x = .ref q ∧ H q = some (.tup [.int a, .int e, .int n]) ∧ 0 ≤ a ∧ a < ev ∧ 0 ≤ e ∧ e < ev ∧ e ≠ a := by
  obtain ⟨q, xs, rfl, hq, hl, hs⟩ := h
  match xs, hl with
  | [x0, x1, x2], _ =>
    have h0 : belowB x0 ev = true := by
      have z := hs 0 (by decide) "event" x0 rfl rfl
      unfold standB at z
      rw [if_neg (by decide), if_pos rfl] at z
      exact z
    have h1 : (belowB x1 ev && !decide (some x1 = [x0, x1, x2][1 - 1]?)) = true := by
      have z := hs 1 (by decide) "another event" x1 rfl rfl
      unfold standB at z
      rw [if_neg (by decide), if_neg (by decide), if_pos rfl] at z
      exact z
    have h2 : numB x2 = true := by
      have z := hs 2 (by decide) "number" x2 rfl rfl
      unfold standB at z
      rw [if_neg (by decide), if_neg (by decide), if_neg (by decide), if_neg (by decide), if_neg (by decide)] at z
      exact z
    rw [Bool.and_eq_true] at h1
    obtain ⟨a, rfl, a0, a1⟩ := below_int h0
    obtain ⟨e, rfl, e0, e1⟩ := below_int h1.1
    obtain ⟨n, rfl⟩ := num_int h2
    refine ⟨q, a, e, n, rfl, hq, a0, a1, e0, e1, fun z => ?_⟩
    have w := h1.2
    rw [z] at w
    simp at w
theorem gaps_of {H : Hp} {ev wi : Int} : ∀ (gs : List V), (∀ x ∈ gs, ItemOk .gap H x ev wi) → ∃ G : List (Int × Int × Int), gs.length = G.length ∧ (∀ x ∈ G, 0 ≤ x.1 ∧ x.1 < ev ∧ 0 ≤ x.2.1 ∧ x.2.1 < ev) ∧
    ∀ (i : Nat) (v : V), gs[i]? = some v → ∃ (q : Addr) (x : Int × Int × Int), v = .ref q ∧ G[i]? = some x ∧ H q = some (.tup [.int x.1, .int x.2.1, .int x.2.2])
  | [], _ => ⟨[], rfl, (fun _ h => nomatch h), fun i v h => by cases h⟩
  | y :: r, h => by
    obtain ⟨G, hl, hb, hG⟩ := gaps_of r fun x hx => h x (List.mem_cons_of_mem _ hx)
    obtain ⟨q, a, e, n, rfl, hq, a0, a1, e0, e1, _⟩ := item_gap_inv (h y (List.mem_cons_self ..))
    refine ⟨(a, e, n) :: G, by rw [List.length_cons, List.length_cons, hl], ?_, fun i v hv => ?_⟩
    · intro x hx
      rcases List.mem_cons.mp hx with rfl | hx
      · exact ⟨a0, a1, e0, e1⟩
      · exact hb x hx
    · cases i with
      | zero =>
        cases hv
        exact ⟨q, (a, e, n), rfl, rfl, hq⟩
      | succ i => exact hG i v hv
/-- one step further -/
def stepW (G : List (Int × Int × Int)) (here : Int) (v : V) : Option Int :=
  match v with
  | .int i => if 0 ≤ i ∧ i < G.length then (G[i.toNat]?).bind fun x => if x.1 = here then some x.2.1 else none else none
  | _ => none
def wayTo (G : List (Int × Int × Int)) (a : Int) (xs : List V) : Option Int := xs.foldl (fun o v => o.bind fun h => stepW G h v) (some a)
theorem way_snoc {G : List (Int × Int × Int)} {a : Int} {xs : List V} {v : V} : wayTo G a (xs ++ [v]) = (wayTo G a xs).bind fun h => stepW G h v := by
  unfold wayTo
  rw [List.foldl_append]
  rfl
theorem way_lost {G : List (Int × Int × Int)} : ∀ (xs : List V), xs.foldl (fun o v => o.bind fun h => stepW G h v) none = none
  | [] => rfl
  | _ :: r => way_lost r
theorem way_off {G : List (Int × Int × Int)} {a : Int} {xs ys : List V} (h : wayTo G a xs = none) : wayTo G a (xs ++ ys) = none := by
  unfold wayTo at h ⊢
  rw [List.foldl_append, h]
  exact way_lost ys
theorem step_off {G : List (Int × Int × Int)} {h : Int} {v : V} (q : belowB v G.length = false) : stepW G h v = none := by
  cases v with
  | int i =>
    have e : (decide (0 ≤ i) && decide (i < (G.length : Int))) = false := q
    show (if 0 ≤ i ∧ i < (G.length : Int) then _ else none) = none
    rw [if_neg]
    rintro ⟨a, b⟩
    rw [decide_eq_true a, decide_eq_true b] at e
    cases e
  | _ => rfl
theorem step_at {G : List (Int × Int × Int)} {h : Int} {j : Nat} {x : Int × Int × Int} (q : G[j]? = some x) : stepW G h (.int j) = if x.1 = h then some x.2.1 else none := by
  have l := (List.getElem?_eq_some_iff.mp q).1
  show (if 0 ≤ (j : Int) ∧ (j : Int) < (G.length : Int) then _ else none) = _
  rw [if_pos ⟨by omega, by omega⟩, Int.toNat_natCast, q]
  rfl
/-- a way between two events -/
def isWay (H : Hp) (G : List (Int × Int × Int)) (a b : Int) (x : V) : Prop := ∃ (q : Addr) (xs : List V), x = .ref q ∧ H q = some (.tup xs) ∧ wayTo G a xs = some b
def spWay (K : Frag) (C : Addr) : Sp := fun vs H Q _ => ∃ (bk dx : Addr) (ev wi : Int) (t g s c : Addr) (gs : List V) (G : List (Int × Int × Int)) (a b : Int) (x : V), vs = [.ref bk, .int a, .int b, x] ∧ H bk = some (bookO C dx ev wi t g s c) ∧ GapsAre K H g gs G ∧
  Th K H x ∧ (∀ q xs, x = .ref q → H q = some (.tup xs) → ∀ y ∈ xs, Th K H y) ∧ ∀ H' r, Same H H' → (r = true ↔ isWay H G a b x) → Q (.bl r) H'
section
variable {P : Program} {w : World} {K : Frag} {mg : Str → Option Value} {base : Heap} {f : Addr} {fd : FuncData} {C : Addr}
theorem ok_get_events (F : Fun K "events" "Book.events" s_Book_events f fd) (B : BkC K C) : FnOk P w K mg base CX0 1 f fd ["self"] (spGet C "_events") := by
  refine F.ok sc_Book_events (fun vs H Q E h => ?_) (fun cdv A outer s H vs Q E hr h => ?_)
  · obtain ⟨_, _, _, _, rfl, _⟩ := h
    rfl
  · obtain ⟨a, dx, fs, v, rfl, ha, hv, k⟩ := h
    refine ⟨_, (pss_one (ps_ret (pe_fld (pv 0) rfl))), ?_⟩
    walk_at "el"
    refine ⟨a, C, dx, fs, v, rfl, ha, B.own.cl, B.n0, hv, ?_⟩
    exact k
theorem ok_get_witnesses (F : Fun K "witnesses" "Book.witnesses" s_Book_witnesses f fd) (B : BkC K C) : FnOk P w K mg base CX0 1 f fd ["self"] (spGet C "_witnesses") := by
  refine F.ok sc_Book_witnesses (fun vs H Q E h => ?_) (fun cdv A outer s H vs Q E hr h => ?_)
  · obtain ⟨_, _, _, _, rfl, _⟩ := h
    rfl
  · obtain ⟨a, dx, fs, v, rfl, ha, hv, k⟩ := h
    refine ⟨_, (pss_one (ps_ret (pe_fld (pv 0) rfl))), ?_⟩
    walk_at "el"
    refine ⟨a, C, dx, fs, v, rfl, ha, B.own.cl, B.n1, hv, ?_⟩
    exact k
theorem ok_get_tellings (F : Fun K "tellings" "Book.tellings" s_Book_tellings f fd) (B : BkC K C) : FnOk P w K mg base CX0 1 f fd ["self"] (spGet C "_tellings") := by
  refine F.ok sc_Book_tellings (fun vs H Q E h => ?_) (fun cdv A outer s H vs Q E hr h => ?_)
  · obtain ⟨_, _, _, _, rfl, _⟩ := h
    rfl
  · obtain ⟨a, dx, fs, v, rfl, ha, hv, k⟩ := h
    refine ⟨_, (pss_one (ps_ret (pe_fld (pv 0) rfl))), ?_⟩
    walk_at "el"
    refine ⟨a, C, dx, fs, v, rfl, ha, B.own.cl, B.n2, hv, ?_⟩
    exact k
theorem ok_get_gaps (F : Fun K "gaps" "Book.gaps" s_Book_gaps f fd) (B : BkC K C) : FnOk P w K mg base CX0 1 f fd ["self"] (spGet C "_gaps") := by
  refine F.ok sc_Book_gaps (fun vs H Q E h => ?_) (fun cdv A outer s H vs Q E hr h => ?_)
  · obtain ⟨_, _, _, _, rfl, _⟩ := h
    rfl
  · obtain ⟨a, dx, fs, v, rfl, ha, hv, k⟩ := h
    refine ⟨_, (pss_one (ps_ret (pe_fld (pv 0) rfl))), ?_⟩
    walk_at "el"
    refine ⟨a, C, dx, fs, v, rfl, ha, B.own.cl, B.n3, hv, ?_⟩
    exact k
theorem ok_get_sure (F : Fun K "sure" "Book.sure" s_Book_sure f fd) (B : BkC K C) : FnOk P w K mg base CX0 1 f fd ["self"] (spGet C "_sure") := by
  refine F.ok sc_Book_sure (fun vs H Q E h => ?_) (fun cdv A outer s H vs Q E hr h => ?_)
  · obtain ⟨_, _, _, _, rfl, _⟩ := h
    rfl
  · obtain ⟨a, dx, fs, v, rfl, ha, hv, k⟩ := h
    refine ⟨_, (pss_one (ps_ret (pe_fld (pv 0) rfl))), ?_⟩
    walk_at "el"
    refine ⟨a, C, dx, fs, v, rfl, ha, B.own.cl, B.n4, hv, ?_⟩
    exact k
theorem ok_get_clauses (F : Fun K "clauses" "Book.clauses" s_Book_clauses f fd) (B : BkC K C) : FnOk P w K mg base CX0 1 f fd ["self"] (spGet C "_clauses") := by
  refine F.ok sc_Book_clauses (fun vs H Q E h => ?_) (fun cdv A outer s H vs Q E hr h => ?_)
  · obtain ⟨_, _, _, _, rfl, _⟩ := h
    rfl
  · obtain ⟨a, dx, fs, v, rfl, ha, hv, k⟩ := h
    refine ⟨_, (pss_one (ps_ret (pe_fld (pv 0) rfl))), ?_⟩
    walk_at "el"
    refine ⟨a, C, dx, fs, v, rfl, ha, B.own.cl, B.n5, hv, ?_⟩
    exact k
theorem ok_is_way (F : Fun K "is_way" "is_way" s_is_way f fd) (T : Tb mg) (p_gaps : PrpG P w K mg base C "gaps" "_gaps") (c_is_below : Cal P w K mg base CX0 2 "is_below" ["thing", "many"] (spBelow K)) :
    FnOk P w K mg base CX0 3 f fd ["book", "a", "b", "thing"] (spWay K C) := by
  refine F.ok sc_is_way (fun vs H Q E h => ?_) (fun cdv A outer s H vs Q E hr h => ?_)
  · obtain ⟨_, _, _, _, _, _, _, _, _, _, _, _, _, rfl, _⟩ := h
    rfl
  · obtain ⟨bk, dx, ev, wi, t, g, s, c, gs, G, a, b, x, rfl, hb, hG, th, te, k⟩ := h
    refine ⟨_, (pss_cons (ps_if (pt_not (pt_val (pe_callB u_isi rfl T.b.isinstance_ boot_isinstance (pa_cons (pv 3) (pa_cons (pe_bltn (v := V.ty "tuple") rfl T.b.tuple_ (by decide +kernel) rfl) pa_nil)))))
    (pss_one (ps_ret pe_bl))
    pss_nil)
  (pss_cons (ps_set (i := 4) sc_is_way.nd rfl (Or.inl rfl) (pv 1))
  (pss_cons (ps_for PassesOwn.never rfl (u_iter (pv 3)) (pg_name (i := 5) sc_is_way.nd rfl (Or.inl rfl))
    (pss_cons (ps_if (PW.pt (pw_or (pt_not (pt_val (pe_cal c_is_below (hr.mono (by decide)) pass0 (pa_cons (pv 5) (pa_cons (pe_callB u_len rfl T.b.len_ boot_len (pa_cons (pe_prp p_gaps (hr.mono (by decide)) (pv 0)) pa_nil)) pa_nil))))) (pw_or1 (pt_cmpR (u_ne hr.units) (pe_ix ix_seq (pe_ix ix_seq (pe_prp p_gaps (hr.mono (by decide)) (pv 0)) (pv 5) (fun _ _ => rfl)) pe_int (fun _ _ => rfl)) (pv 4) (nomark _)))))
    (pss_one (ps_ret pe_bl))
    pss_nil)
  (pss_one (ps_set (i := 4) sc_is_way.nd rfl (Or.inl rfl) (pe_ix ix_seq (pe_ix ix_seq (pe_prp p_gaps (hr.mono (by decide)) (pv 0)) (pv 5) (fun _ _ => rfl)) pe_int (fun _ _ => rfl))))))
  (pss_one (ps_ret (pe_cmpR (u_eq hr.units) (pv 4) (pv 2) (nomark _))))))), ?_⟩
    obtain ⟨ty, kt⟩ := th.kit
    walk_at "el"
    refine ite2 (fun h0 => ?_) (fun h0 => ?_)
    · walk_at "el"
      refine k _ _ (Same.refl _) ⟨(fun h => by cases h), ?_⟩
      rintro ⟨q, xs, rfl, hq, _⟩
      have e : isT H (.ref q) = true := by show obT (H q) = true; rw [hq]; rfl
      rw [e] at h0
      cases h0
    · obtain ⟨q, xs, rfl, hq⟩ := isT_tup th (by simpa using h0)
      walk_at "el"
      refine a_iSeq (.inr ?_)
      walk_at "el"
      refine ⟨q, rfl, ⟨_, SqT.of hq⟩, ?_⟩
      refine lp_it (walk_tup (xs := xs)) (fun i σ H1 => Same H H1 ∧ ∃ h, wayTo G a (xs.take i) = some h ∧ ∃ v5, σ = [some (.ref bk), some (.int a), some (.int b), some (.ref q), some (.int h), v5]) ⟨Same.refl _, a, rfl, _, rfl⟩ (fun i σ H1 hi h => SqT.of (h.1 _ _ hq)) ?_ ?_
      · rintro i y σ H1 H2 hi ⟨s1, h, hw, v5, rfl⟩ ⟨rfl, hy⟩
        have tk : xs.take (i + 1) = xs.take i ++ [y] := by rw [List.take_add_one, hy]; rfl
        have sp : xs = xs.take (i + 1) ++ xs.drop (i + 1) := (List.take_append_drop _ _).symm
        have bad : stepW G h y = none → ∀ z, wayTo G a xs ≠ some z := fun hn z e => by
          have q : wayTo G a (xs.take (i + 1)) = none := by rw [tk, way_snoc, hw]; exact hn
          rw [sp, way_off q] at e
          cases e
        have no : stepW G h y = none → ¬ isWay H G a b (.ref q) := fun hn ⟨q', xs', e, hq', hz⟩ => by
          cases e
          rw [hq] at hq'
          cases hq'
          exact bad hn _ hz
        have hb1 := s1 _ _ hb
        have hG1 := hG.same s1
        walk_at "el"
        refine n_prp hb1 rfl ?_
        walk_at "el"
        refine n_len hG1.seq.len ?_
        walk_at "el"
        rw [hG1.len]
        refine ⟨y, _, rfl, (te q xs rfl hq y (List.mem_of_getElem? hy)).same s1, fun H3 s3 => ?_⟩
        rcases hB : belowB y G.length
        · walk_at "el"
          exact k _ _ (s1.trans s3) ⟨(fun z => by cases z), fun z => absurd z (no (step_off hB))⟩
        · obtain ⟨j, rfl, j0, j1⟩ := below_int hB
          obtain ⟨n, rfl⟩ : ∃ n : Nat, j = n := ⟨j.toNat, by omega⟩
          have hn : n < gs.length := by rw [hG.len]; omega
          have hG3 := hG1.same s3
          obtain ⟨u, x, hv, hx, hu⟩ := hG3.at_ n gs[n] (List.getElem?_eq_getElem hn)
          have hgn : gs[n]? = some (.ref u) := by rw [List.getElem?_eq_getElem hn, hv]
          have hb3 := s3 _ _ hb1
          walk_at "el"
          refine n_prp hb3 rfl ?_
          walk_at "el"
          refine n_ixA hG3.seq (atI_nat hgn) ?_
          walk_at "el"
          refine ite2 (fun h1 => ?_) (fun h1 => ?_)
          · have ne : ¬ x.1 = h := by simpa using h1
            walk_at "el"
            exact k _ _ (s1.trans s3) ⟨(fun z => by cases z), fun z => absurd z (no ((step_at hx).trans (if_neg ne)))⟩
          · have e : x.1 = h := by simpa using h1
            walk_at "el"
            refine n_prp hb3 rfl ?_
            walk_at "el"
            refine n_ixA hG3.seq (atI_nat hgn) ?_
            walk_at "el"
            exact ⟨s1.trans s3, x.2.1, by rw [tk, way_snoc, hw]; exact (step_at hx).trans (if_pos e), _, rfl⟩
      · rintro σ H1 ⟨s1, h, hw, v5, rfl⟩
        rw [List.take_length] at hw
        walk_at "el"
        refine k _ _ s1 ⟨fun z => ⟨q, xs, rfl, hq, ?_⟩, ?_⟩
        · have e : h = b := by simpa using z
          rw [← e]
          exact hw
        · rintro ⟨q', xs', e, hq', hz⟩
          cases e
          rw [hq] at hq'
          cases hq'
          rw [hw] at hz
          cases hz
          exact decide_eq_true rfl
end
end EL

/- part N -/
namespace EL
open PySem PySem.Spec PyProof.Rows L2
open PySem.W (Frag)
abbrev s_number : Stmt := top 49
abbrev N_number : List Str := ["_law_bag_here", "_law_mode", "_law_small"]
theorem sc_number : FnScope N_number ["_law_bag_here"] (defScope s_number) := ⟨rfl, rfl, rfl, by decide +kernel, rfl, by decide +kernel, by decide +kernel⟩
abbrev s_kind : Stmt := top 50
abbrev N_kind : List Str := ["_law_bag_here"]
theorem sc_kind : FnScope N_kind ["_law_bag_here"] (defScope s_kind) := ⟨rfl, rfl, rfl, by decide +kernel, rfl, by decide +kernel, by decide +kernel⟩
abbrev s_parts : Stmt := top 51
abbrev N_parts : List Str := ["_law_bag_here", "_law_events", "_law_witnesses", "_law_most", "_law_parts_here", "_law_k", "_law_a", "_law_pair"]
theorem sc_parts : FnScope N_parts ["_law_bag_here", "_law_events", "_law_witnesses", "_law_most"] (defScope s_parts) := ⟨rfl, rfl, rfl, by decide +kernel, rfl, by decide +kernel, by decide +kernel⟩
local macro_rules | `(tactic| walk_at "el1") => `(tactic| with_reducible first
  | refine a_sasg ?_ | refine a_sdrop ?_ | refine a_saugS ?_ | refine a_spar ?_ | refine a_seq ?_ | refine a_asg ?_ | refine a_drop ?_ | refine a_ret ?_ | refine a_if ?_ | refine a_next ?_
  | refine a_op ?_ | refine a_cons ?_ | refine a_nil ?_ | refine a_cb ?_ | refine a_call ?_ | refine a_c ?_ | refine a_gn ?_ | refine a_nx ?_ | refine a_rt ?_ | refine a_un ?_
  | refine a_test ?_ | refine a_B ?_ | refine a_bl ?_ | refine a_and ?_ | refine a_or ?_ | refine a_not ?_ | refine a_andV ?_ | refine a_orV ?_ | refine a_notV ?_ | refine a_ifx ?_ | refine a_chain ?_
  | refine a_nT ?_ | refine a_nF ?_ | refine a_fld ?_ | refine a_getF ?_ | refine a_T ?_ | refine a_F ?_ | refine a_tup ?_ | refine a_lst ?_ | refine a_sub ?_ | refine a_augS ?_ | refine a_two ?_ | refine a_I0 ?_ | refine a_U ?_ | refine n_add ?_ | refine n_int ?_ | refine n_ib ?_ | refine a_ip ?_ | refine a_rng1 ?_ | refine a_rng2 ?_ | refine a_bm ?_ | refine a_abs ?_ | refine a_pairs ?_ | refine a_pairs0 ?_ | refine a_bk ?_ | refine a_prp ?_ | refine a_lc ?_ | refine a_yes ?_ | refine a_sl ?_ | refine a_nop ?_ | refine a_prt ?_ | refine a_ex1 ?_ | refine a_for ?_ | refine a_sfor ?_ | refine a_iE1 ?_ | refine a_iEs ?_ | refine a_iEz ?_ | refine a_iEnum ?_ | refine a_iTup ?_ | refine a_iList ?_ | refine a_gcons ?_ | refine a_gnil ?_ | refine a_revT ?_ | refine a_spar3 ?_ | refine a_par3 ?_ | refine a_three ?_)
local macro_rules | `(tactic| walk_at "el2") => `(tactic| first
  | (refine a_var (by rfl) ?_)
  | (refine n_ixL (SqL.of (by assumption)) (by rfl) ?_) | (refine n_ixT (SqT.of (by assumption)) (by rfl) ?_) | (refine n_eq (by rfl) ?_) | (refine n_ne (by rfl) ?_)
  | (refine n_isN ?_) | (refine n_notN ?_) | (refine n_isB ?_) | (refine n_notB ?_) | (refine n_isBI ?_) | (refine n_notBI ?_) | (refine n_len (.inl (SqL.of (by assumption))) ?_) | (refine n_len (.inr (SqT.of (by assumption))) ?_)
  | (refine a_getL (SqL.of (by assumption)) (by rfl) ?_)
  | (refine n_isInt (by assumption) ?_) | (refine n_isBool (by assumption) ?_) | (refine n_isStr (by assumption) ?_) | (refine n_isTup (by assumption) ?_) | (refine n_isLst (by assumption) ?_))
local macro_rules | `(tactic| walk_at "el") => `(tactic| repeat (first | walk_at "el1" | walk_at "el2"))

/-! ### numbers, kinds, parts as a law draws them -/
def spNum : Sp := fun vs H Q _ => ∃ b c, vs = [.ref b] ∧ Bag H b c ∧ ∀ (r : Int) H', -1000000000000 ≤ r → r ≤ 1000000000000 → Bag H' b c → Kp b H H' → Q (.int r) H'
def spKnd : Sp := fun vs H Q _ => ∃ b c, vs = [.ref b] ∧ Bag H b c ∧ ∀ (s : Str) H', s = "early" ∨ s = "late" → Bag H' b c → Kp b H H' → Q (.str s) H'
/-- the lists of four parts, new since H0 -/
structure PSt (b c p : Addr) (l : Pt → Addr) (H0 : Hp) : Prop where
  inj : ∀ t u, t ≠ u → l t ≠ l u
  lb : ∀ t, l t ≠ b
  lc : ∀ t, l t ≠ c
  pl : ∀ t, p ≠ l t
  pb : p ≠ b
  fl : ∀ t, H0 (l t) = none
  fp : H0 p = none
/-- no number in an item is near the end of the numbers -/
def Below (H : Hp) (x : V) : Prop := ∀ (q : Addr) (ys : List V) (n : Int), x = .ref q → H q = some (.tup ys) → V.int n ∈ ys → -10000000000000 ≤ n ∧ n ≤ 10000000000000
/-- the number of a gap is small -/
def GapSm (H : Hp) (x : V) : Prop := ∀ (q : Addr) (a e : V) (n : Int), x = .ref q → H q = some (.tup [a, e, .int n]) → -4 ≤ n ∧ n ≤ 4
structure PIv (b c p : Addr) (l : Pt → Addr) (H0 H : Hp) (ev wi : Int) (xs : Pt → List V) : Prop where
  bag : Bag H b c
  kp : Kp b H0 H
  hp : H p = some (.lst [.ref (l .tel), .ref (l .gap), .ref (l .sur), .ref (l .cla)])
  hl : ∀ t, H (l t) = some (.lst (xs t))
  it : ∀ t, ∀ x ∈ xs t, ItemOk t H x ev wi
  nb : ∀ t, ∀ x ∈ xs t, Below H x
  ng : ∀ x ∈ xs .gap, GapSm H x
theorem GapSm.of {H H' : Hp} {x : V} (h : GapSm H x) (hi : ∃ a ys, x = .ref a ∧ H a = some (.tup ys) ∧ H' a = some (.tup ys)) : GapSm H' x := fun q a e n ex hq => by
  obtain ⟨a', zs, ex', h1, h2⟩ := hi
  cases (ex'.symm.trans ex)
  rw [h2] at hq
  cases hq
  exact h _ _ _ n ex h1
theorem gapsm3 {H : Hp} {q : Addr} {a e x : Int} (hx : -4 ≤ x ∧ x ≤ 4) : GapSm (upd H q (.tup [.int a, .int e, .int x])) (.ref q) := fun q' a' e' n e hq => by
  cases e
  rw [upd_same] at hq
  cases hq
  exact hx
theorem Below.of {H H' : Hp} {x : V} (h : Below H x) (hi : ∃ a ys, x = .ref a ∧ H a = some (.tup ys) ∧ H' a = some (.tup ys)) : Below H' x := fun q ys n e hq hn => by
  obtain ⟨a, zs, ex, h1, h2⟩ := hi
  cases (ex.symm.trans e)
  rw [h2] at hq
  cases hq
  exact h _ _ n e h1 hn
theorem below_tup {H : Hp} {q : Addr} {ys : List V} (hq : H q = some (.tup ys)) (h : ∀ n, V.int n ∈ ys → -10000000000000 ≤ n ∧ n ≤ 10000000000000) : Below H (.ref q) := fun q' zs n e hq' hn => by
  cases e
  rw [hq] at hq'
  cases hq'
  exact h n hn
theorem below3 {H : Hp} {q : Addr} {a e x : Int} (ha : 0 ≤ a ∧ a ≤ 8) (he : 0 ≤ e ∧ e ≤ 8) (hx : -10000000000000 ≤ x ∧ x ≤ 10000000000000) : Below (upd H q (.tup [.int a, .int e, .int x])) (.ref q) := below_tup upd_same fun n hn => by
  rcases List.mem_cons.mp hn with z | hn
  · cases z; omega
  rcases List.mem_cons.mp hn with z | hn
  · cases z; omega
  cases List.mem_singleton.mp hn
  exact hx
theorem belowS {H : Hp} {q : Addr} {a x : Int} {s : Str} (ha : 0 ≤ a ∧ a ≤ 8) (hx : -10000000000000 ≤ x ∧ x ≤ 10000000000000) : Below (upd H q (.tup [.int a, .str s, .int x])) (.ref q) := below_tup upd_same fun n hn => by
  rcases List.mem_cons.mp hn with z | hn
  · cases z; omega
  rcases List.mem_cons.mp hn with z | hn
  · cases z
  cases List.mem_singleton.mp hn
  exact hx
theorem belowC {H : Hp} {q : Addr} {a v : Int} {s r : Str} (ha : 0 ≤ a ∧ a ≤ 8) (hv : 0 ≤ v ∧ v ≤ 8) : Below (upd H q (.tup [.int a, .str s, .int v, .str r])) (.ref q) := below_tup upd_same fun n hn => by
  rcases List.mem_cons.mp hn with z | hn
  · cases z; omega
  rcases List.mem_cons.mp hn with z | hn
  · cases z
  rcases List.mem_cons.mp hn with z | hn
  · cases z; omega
  cases List.mem_singleton.mp hn
theorem ItemOk.kp {t : Pt} {b c : Addr} {H H' : Hp} {x : V} {ev wi : Int} (h : ItemOk t H x ev wi) (hb : Bag H b c) (k : Kp b H H') : ItemOk t H' x ev wi := by
  obtain ⟨a, xs, rfl, ha, hl, hs⟩ := h
  refine ⟨a, xs, rfl, k _ _ (fun z => ?_) ha, hl, hs⟩
  subst z
  obtain ⟨_, _, _, _, q, _⟩ := hb
  rw [q] at ha
  cases ha
theorem ItemOk.lst {t : Pt} {a : Addr} {ys zs : List V} {H : Hp} {x : V} {ev wi : Int} (h : ItemOk t H x ev wi) (hb : H a = some (.lst ys)) : ItemOk t (upd H a (.lst zs)) x ev wi := by
  obtain ⟨c, xs, rfl, ha, hl, hs⟩ := h
  refine ⟨c, xs, rfl, ?_, hl, hs⟩
  rw [upd_ne (fun z => by subst z; rw [hb] at ha; cases ha)]
  exact ha
theorem PIv.kp' {b c p : Addr} {l : Pt → Addr} {H0 H H' : Hp} {ev wi : Int} {xs : Pt → List V} (S : PSt b c p l H0) (h : PIv b c p l H0 H ev wi xs) (hb : Bag H' b c) (k : Kp b H H') : PIv b c p l H0 H' ev wi xs :=
  ⟨hb, h.kp.trans k, k _ _ S.pb h.hp, fun t => k _ _ (S.lb t) (h.hl t), fun t x hx => (h.it t x hx).kp h.bag k, fun t x hx => (h.nb t x hx).of (by
    obtain ⟨a, ys, e, ha, _, _⟩ := h.it t x hx
    refine ⟨a, ys, e, ha, k _ _ (fun z => ?_) ha⟩
    subst z
    obtain ⟨_, _, _, _, q, _⟩ := h.bag
    rw [q] at ha
    cases ha), fun x hx => (h.ng x hx).of (by
    obtain ⟨a, ys, e, ha, _, _⟩ := h.it .gap x hx
    refine ⟨a, ys, e, ha, k _ _ (fun z => ?_) ha⟩
    subst z
    obtain ⟨_, _, _, _, q, _⟩ := h.bag
    rw [q] at ha
    cases ha)⟩
theorem PIv.nw {b c p : Addr} {l : Pt → Addr} {H0 H H' : Hp} {ev wi : Int} {xs : Pt → List V} (S : PSt b c p l H0) (h : PIv b c p l H0 H ev wi xs) (s : Same H H') : PIv b c p l H0 H' ev wi xs := h.kp' S (h.bag.same s) (same_kp s)
def setP (xs : Pt → List V) (t : Pt) (ys : List V) : Pt → List V := fun u => if u = t then ys else xs u
theorem setP_at {xs : Pt → List V} {t : Pt} {ys : List V} : setP xs t ys t = ys := if_pos rfl
theorem setP_ne {xs : Pt → List V} {t u : Pt} {ys : List V} (h : u ≠ t) : setP xs t ys u = xs u := if_neg h
theorem PIv.app {b c p : Addr} {l : Pt → Addr} {H0 H : Hp} {ev wi : Int} {xs : Pt → List V} (S : PSt b c p l H0) (h : PIv b c p l H0 H ev wi xs) (t : Pt) {x : V} (hx : ItemOk t H x ev wi) (hn : Below H x) (hg : t = .gap → GapSm H x) : PIv b c p l H0 (upd H (l t) (.lst (xs t ++ [x]))) ev wi (setP xs t (xs t ++ [x])) := by
  refine ⟨?_, h.kp.mut (S.fl t), by rw [upd_ne (S.pl t)]; exact h.hp, fun u => ?_, fun u y hy => ?_, fun u y hy => ?_, fun y hy => ?_⟩
  · obtain ⟨i, j, n, cs, h1, h2, r⟩ := h.bag
    exact ⟨i, j, n, cs, by rw [upd_ne (S.lb t).symm]; exact h1, by rw [upd_ne (S.lc t).symm]; exact h2, r⟩
  · by_cases e : u = t
    · subst e
      rw [upd_same, setP_at]
    · rw [upd_ne (S.inj u t e), setP_ne e]
      exact h.hl u
  · by_cases e : u = t
    · subst e
      rw [setP_at] at hy
      rcases List.mem_append.mp hy with q | q
      · exact (h.it u y q).lst (h.hl u)
      · cases List.mem_singleton.mp q
        exact hx.lst (h.hl u)
    · rw [setP_ne e] at hy
      exact (h.it u y hy).lst (h.hl t)
  · have mv : ∀ {v : V} {w : Pt}, ItemOk w H v ev wi → Below H v → Below (upd H (l t) (.lst (xs t ++ [x]))) v := fun {v w} hi hb => hb.of (by
      obtain ⟨a, ys, e, ha, _, _⟩ := hi
      refine ⟨a, ys, e, ha, ?_⟩
      rw [upd_ne (fun z => by rw [z, h.hl t] at ha; cases ha)]
      exact ha)
    by_cases e : u = t
    · subst e
      rw [setP_at] at hy
      rcases List.mem_append.mp hy with q | q
      · exact mv (h.it u y q) (h.nb u y q)
      · cases List.mem_singleton.mp q
        exact mv hx hn
    · rw [setP_ne e] at hy
      exact mv (h.it u y hy) (h.nb u y hy)
  · have mv : ∀ {v : V} {w : Pt}, ItemOk w H v ev wi → GapSm H v → GapSm (upd H (l t) (.lst (xs t ++ [x]))) v := fun {v w} hi hb => hb.of (by
      obtain ⟨a, ys, e, ha, _, _⟩ := hi
      refine ⟨a, ys, e, ha, ?_⟩
      rw [upd_ne (fun z => by rw [z, h.hl t] at ha; cases ha)]
      exact ha)
    by_cases e : Pt.gap = t
    · subst e
      rw [setP_at] at hy
      rcases List.mem_append.mp hy with q | q
      · exact mv (h.it .gap y q) (h.ng y q)
      · cases List.mem_singleton.mp q
        exact mv hx (hg rfl)
    · rw [setP_ne e] at hy
      exact mv (h.it .gap y hy) (h.ng y hy)
def spParts : Sp := fun vs H Q _ => ∃ (ev wi most : Int) (b c : Addr), vs = [.ref b, .int ev, .int wi, .int most] ∧ Bag H b c ∧ 0 ≤ ev ∧ ev ≤ 8 ∧ 0 ≤ wi ∧ wi ≤ 8 ∧ 0 ≤ most ∧ most ≤ 1000 ∧
  ∀ p l H' xs, PSt b c p l H → PIv b c p l H H' ev wi xs → ((xs .tel).length : Int) ≤ most → ((xs .gap).length : Int) ≤ most / 2 + 1 → (xs .sur).length ≤ 3 → (xs .cla).length ≤ 3 → Q (.ref p) H'
def lOf (l0 l1 l2 l3 : Addr) : Pt → Addr | .tel => l0 | .gap => l1 | .sur => l2 | .cla => l3
theorem parts_start {b c l0 l1 l2 l3 p : Addr} {H : Hp} {ev wi : Int} (hb : Bag H b c) (h0 : H l0 = none) (h1 : upd H l0 (.lst []) l1 = none) (h2 : upd (upd H l0 (.lst [])) l1 (.lst []) l2 = none) (h3 : upd (upd (upd H l0 (.lst [])) l1 (.lst [])) l2 (.lst []) l3 = none)
    (hp : upd (upd (upd (upd H l0 (.lst [])) l1 (.lst [])) l2 (.lst [])) l3 (.lst []) p = none) :
    PSt b c p (lOf l0 l1 l2 l3) H ∧ PIv b c p (lOf l0 l1 l2 l3) H (upd (upd (upd (upd (upd H l0 (.lst [])) l1 (.lst [])) l2 (.lst [])) l3 (.lst [])) p (.lst [.ref l0, .ref l1, .ref l2, .ref l3])) ev wi (fun _ => []) := by
  obtain ⟨n10, h1⟩ := nn h1
  obtain ⟨n21, h2⟩ := nn h2
  obtain ⟨n20, h2⟩ := nn h2
  obtain ⟨n32, h3⟩ := nn h3
  obtain ⟨n31, h3⟩ := nn h3
  obtain ⟨n30, h3⟩ := nn h3
  obtain ⟨m3, hp⟩ := nn hp
  obtain ⟨m2, hp⟩ := nn hp
  obtain ⟨m1, hp⟩ := nn hp
  obtain ⟨m0, hp⟩ := nn hp
  have hc : ∀ q, H q = none → q ≠ c := fun q h z => by
    obtain ⟨_, _, _, _, _, w, _⟩ := hb
    subst z
    rw [w] at h
    cases h
  refine ⟨⟨?_, ?_, ?_, ?_, hb.ne hp, ?_, hp⟩, ⟨?_, ?_, upd_same, ?_, fun t x h => (nomatch h), fun t x h => (nomatch h), fun x h => (nomatch h)⟩⟩
  · intro t u h
    cases t <;> cases u <;> first | exact absurd rfl h | assumption | exact Ne.symm (by assumption)
  · intro t
    cases t
    · exact hb.ne h0
    · exact hb.ne h1
    · exact hb.ne h2
    · exact hb.ne h3
  · intro t
    cases t
    · exact hc _ h0
    · exact hc _ h1
    · exact hc _ h2
    · exact hc _ h3
  · intro t
    cases t <;> assumption
  · intro t
    cases t <;> assumption
  · obtain ⟨i, j, n, cs, w1, w2, r⟩ := hb
    have q : ∀ a o, H a = some o → upd (upd (upd (upd (upd H l0 (.lst [])) l1 (.lst [])) l2 (.lst [])) l3 (.lst [])) p (.lst [.ref l0, .ref l1, .ref l2, .ref l3]) a = some o := fun a o h => by
      rw [upd_ne (ne_of_none h hp), upd_ne (ne_of_none h h3), upd_ne (ne_of_none h h2), upd_ne (ne_of_none h h1), upd_ne (ne_of_none h h0)]
      exact h
    exact ⟨i, j, n, cs, q _ _ w1, q _ _ w2, r⟩
  · intro a o _ h
    rw [upd_ne (ne_of_none h hp), upd_ne (ne_of_none h h3), upd_ne (ne_of_none h h2), upd_ne (ne_of_none h h1), upd_ne (ne_of_none h h0)]
    exact h
  · intro t
    cases t
    · show upd _ _ _ l0 = _
      rw [upd_ne m0.symm, upd_ne n30.symm, upd_ne n20.symm, upd_ne n10.symm, upd_same]
    · show upd _ _ _ l1 = _
      rw [upd_ne m1.symm, upd_ne n31.symm, upd_ne n21.symm, upd_same]
    · show upd _ _ _ l2 = _
      rw [upd_ne m2.symm, upd_ne n32.symm, upd_same]
    · show upd _ _ _ l3 = _
      rw [upd_ne m3.symm, upd_same]
theorem stands3 {p : Pt} {x0 x1 x2 : V} {w0 w1 w2 : Str} {ev wi : Int} (hf : p.form = [w0, w1, w2]) (h0 : standB w0 [x0, x1, x2] 0 x0 ev wi = true) (h1 : standB w1 [x0, x1, x2] 1 x1 ev wi = true) (h2 : standB w2 [x0, x1, x2] 2 x2 ev wi = true) : StandsTo p [x0, x1, x2] ev wi p.form.length := by
  intro j hj wd x hw hx
  rw [hf] at hw hj
  rcases j with _ | _ | _ | j
  · cases hw; cases hx; exact h0
  · cases hw; cases hx; exact h1
  · cases hw; cases hx; exact h2
  · simp only [List.length_cons, List.length_nil] at hj; omega
theorem num_true {i : Int} (h0 : -1000000000000000 ≤ i) (h1 : i ≤ 1000000000000000) : numB (.int i) = true := by
  show (decide _ && decide _) = true
  rw [decide_eq_true h0, decide_eq_true h1]
  rfl
section
variable {xs : List V} {i : Nat} {x : V} {ev wi : Int}
theorem st_w : standB "witness" xs i x ev wi = belowB x wi := by unfold standB; rw [if_pos rfl]
theorem st_e : standB "event" xs i x ev wi = belowB x ev := by unfold standB; rw [if_neg (by decide), if_pos rfl]
theorem st_a : standB "another event" xs i x ev wi = (belowB x ev && !decide (some x = xs[i - 1]?)) := by unfold standB; rw [if_neg (by decide), if_neg (by decide), if_pos rfl]
theorem st_s : standB "side" xs i x ev wi = sideB x := by unfold standB; rw [if_neg (by decide), if_neg (by decide), if_neg (by decide), if_pos rfl]
theorem st_k : standB "kind" xs i x ev wi = kindB x := by unfold standB; rw [if_neg (by decide), if_neg (by decide), if_neg (by decide), if_neg (by decide), if_pos rfl]
theorem st_n : standB "number" xs i x ev wi = numB x := by unfold standB; rw [if_neg (by decide), if_neg (by decide), if_neg (by decide), if_neg (by decide), if_neg (by decide)]
end
theorem item_tel {H : Hp} {q : Addr} {ev wi a e x : Int} (h : H q = some (.tup [.int a, .int e, .int x])) (a0 : 0 ≤ a) (a1 : a < wi) (e0 : 0 ≤ e) (e1 : e < ev) (x0 : -1000000000000000 ≤ x) (x1 : x ≤ 1000000000000000) : ItemOk .tel H (.ref q) ev wi :=
  ⟨q, _, rfl, h, rfl, stands3 rfl (st_w.trans (below_true a0 a1)) (st_e.trans (below_true e0 e1)) (st_n.trans (num_true x0 x1))⟩
theorem item_gap {H : Hp} {q : Addr} {ev wi a e x : Int} (h : H q = some (.tup [.int a, .int e, .int x])) (a0 : 0 ≤ a) (a1 : a < ev) (e0 : 0 ≤ e) (e1 : e < ev) (ne : e ≠ a) (x0 : -1000000000000000 ≤ x) (x1 : x ≤ 1000000000000000) : ItemOk .gap H (.ref q) ev wi :=
  ⟨q, _, rfl, h, rfl, stands3 rfl (st_e.trans (below_true a0 a1)) (st_a.trans (by
    rw [below_true e0 e1, Bool.true_and, decide_eq_false]
    · rfl
    · intro z
      cases z
      exact ne rfl)) (st_n.trans (num_true x0 x1))⟩
theorem item_sur {H : Hp} {q : Addr} {ev wi a x : Int} {s : Str} (h : H q = some (.tup [.int a, .str s, .int x])) (a0 : 0 ≤ a) (a1 : a < ev) (hs : s = "least" ∨ s = "most") (x0 : -1000000000000000 ≤ x) (x1 : x ≤ 1000000000000000) : ItemOk .sur H (.ref q) ev wi :=
  ⟨q, _, rfl, h, rfl, stands3 rfl (st_e.trans (below_true a0 a1)) (st_s.trans (by rcases hs with rfl | rfl <;> decide)) (st_n.trans (num_true x0 x1))⟩
theorem item_cla {H : Hp} {q : Addr} {ev wi a v : Int} {s r : Str} (h : H q = some (.tup [.int a, .str s, .int v, .str r])) (a0 : 0 ≤ a) (a1 : a < wi) (hs : s = "early" ∨ s = "late") (v0 : 0 ≤ v) (v1 : v < wi) (hr : r = "early" ∨ r = "late") : ItemOk .cla H (.ref q) ev wi := by
  refine ⟨q, _, rfl, h, rfl, ?_⟩
  intro j hj wd x hw hx
  rcases j with _ | _ | _ | _ | j
  · cases hw; cases hx; exact st_w.trans (below_true a0 a1)
  · cases hw; cases hx; exact st_k.trans (by rcases hs with rfl | rfl <;> decide)
  · cases hw; cases hx; exact st_w.trans (below_true v0 v1)
  · cases hw; cases hx; exact st_k.trans (by rcases hr with rfl | rfl <;> decide)
  · exact absurd hj (by show ¬ (j + 1 + 1 + 1 + 1 < 4); omega)
theorem gap_ne {a t ev : Int} (a0 : 0 ≤ a) (a1 : a < ev) (t0 : 0 ≤ t) (t1 : t < ev - 1) (e8 : ev ≤ 8) : (a + 1 + t) % ev ≠ a := by
  have h : ev = 2 ∨ ev = 3 ∨ ev = 4 ∨ ev = 5 ∨ ev = 6 ∨ ev = 7 ∨ ev = 8 := by omega
  rcases h with rfl | rfl | rfl | rfl | rfl | rfl | rfl <;> omega
theorem pos2 {x y : Int} (x0 : 0 ≤ x) (y0 : 0 ≤ y) (h : 0 < x * y) : 0 < x ∧ 0 < y := by
  constructor
  · rcases Int.lt_or_eq_of_le x0 with q | q
    · exact q
    · rw [← q, Int.zero_mul] at h; omega
  · rcases Int.lt_or_eq_of_le y0 with q | q
    · exact q
    · rw [← q, Int.mul_zero] at h; omega
theorem size1k {n : Nat} (h : n ≤ 1001) : n < sizeLine := Nat.lt_of_le_of_lt h (by decide)
theorem mul8 {x y : Int} (x0 : 0 ≤ x) (x8 : x ≤ 8) (y0 : 0 ≤ y) (y8 : y ≤ 8) : CMul x y := .inl ⟨by omega, by omega⟩
theorem cnt01 {r : Int} {p : Prop} [Decidable p] (h0 : 0 ≤ r) : 0 ≤ r * (if decide p = true then 1 else 0) ∧ r * (if decide p = true then 1 else 0) ≤ r ∧ (0 < r * (if decide p = true then 1 else 0) → p) := by
  by_cases h : p
  · rw [if_pos (decide_eq_true h)]
    exact ⟨by omega, by omega, fun _ => h⟩
  · rw [if_neg (by rw [decide_eq_false h]; exact Bool.false_ne_true)]
    exact ⟨by omega, by omega, fun z => absurd z (by omega)⟩
section
variable {P : Program} {w : World} {K : Frag} {mg : Str → Option Value} {base : Heap} {f : Addr} {fd : FuncData}
theorem ok_number (F : Fun K "_law_number" "_law_number" s_number f fd) (T : Tb mg) (c_take : Cal P w K mg base CX0 1 "_law_take" ["_law_bag_here", "_law_many"] spTake) : FnOk P w K mg base CX0 2 f fd ["_law_bag_here"] spNum := by
  refine F.ok sc_number (fun vs H Q E h => ?_) (fun cdv A outer s H vs Q E hr h => ?_)
  · obtain ⟨_, _, rfl, _⟩ := h
    rfl
  · obtain ⟨b, c, rfl, hb, k⟩ := h
    refine ⟨_, (pss_cons (ps_par (i := 1) (j := 2) rfl sc_number.nd rfl rfl (by decide) rfl rfl (pa_cons (pe_cal c_take (hr.mono (by decide)) pass0 (pa_cons (pv 0) (pa_cons pe_int pa_nil))) (pa_cons (pe_op op_sub (pe_cal c_take (hr.mono (by decide)) pass0 (pa_cons (pv 0) (pa_cons pe_int pa_nil))) pe_int) pa_nil)) (by with_unfolding_all rfl))
  (pss_cons (ps_if (pt_cmpR op_lt (pv 1) pe_int (nomark _))
    (pss_one (ps_ret (pv 2)))
    pss_nil)
  (pss_one (ps_ret (pe_ifExp (pt_cmpR (u_eq hr.units) (pv 1) pe_int (nomark _)) (pe_op u_add pe_int (pv 2)) (pe_op op_sub (pv 2) pe_int)))))), ?_⟩
    walk_at "el"
    refine ⟨b, c, 10, rfl, hb, by decide, by decide, fun r1 H1 _ _ hb1 k1 => ?_⟩
    walk_at "el"
    refine ⟨b, c, 12, rfl, hb1, by decide, by decide, fun r2 H2 _ _ hb2 k2 => ?_⟩
    have k12 := k1.trans k2
    walk_at "el"
    refine ite2 (fun h0 => ?_) (fun h0 => ?_)
    · walk_at "el"
      exact k _ _ (by omega) (by omega) hb2 k12
    · walk_at "el"
      refine ite2 (fun h0 => ?_) (fun h0 => ?_)
      · walk_at "el"
        exact k _ _ (by omega) (by omega) hb2 k12
      · walk_at "el"
        exact k _ _ (by omega) (by omega) hb2 k12
theorem ok_kind (F : Fun K "_law_kind" "_law_kind" s_kind f fd) (T : Tb mg) (c_take : Cal P w K mg base CX0 1 "_law_take" ["_law_bag_here", "_law_many"] spTake) : FnOk P w K mg base CX0 2 f fd ["_law_bag_here"] spKnd := by
  refine F.ok sc_kind (fun vs H Q E h => ?_) (fun cdv A outer s H vs Q E hr h => ?_)
  · obtain ⟨_, _, rfl, _⟩ := h
    rfl
  · obtain ⟨b, c, rfl, hb, k⟩ := h
    refine ⟨_, (pss_one (ps_ret (pe_ix ix_seq (pe_lst (pa_cons pe_str (pa_cons pe_str pa_nil))) (pe_cal c_take (hr.mono (by decide)) pass0 (pa_cons (pv 0) (pa_cons pe_int pa_nil))) (fun _ _ => rfl)))), ?_⟩
    walk_at "el"
    refine ⟨by decide, fun p hp => ?_⟩
    have e1 := nw_of hp
    have n1 := hb.ne hp
    walk_at "el"
    refine ⟨b, c, 2, rfl, hb.same (e1 _), by decide, by decide, fun r1 H1 r0 r2 hb1 k1 => ?_⟩
    have hp1 := k1 _ _ n1 upd_same
    have r3 : r1 = 0 ∨ r1 = 1 := by omega
    have kF : Kp b H H1 := Kp.into k1 (e1 _)
    rcases r3 with rfl | rfl
    · walk_at "el"
      exact k _ _ (.inl rfl) hb1 kF
    · walk_at "el"
      exact k _ _ (.inr rfl) hb1 kF
theorem ok_parts (F : Fun K "_law_parts" "_law_parts" s_parts f fd) (T : Tb mg) (c_take : Cal P w K mg base CX0 1 "_law_take" ["_law_bag_here", "_law_many"] spTake) (c_number : Cal P w K mg base CX0 2 "_law_number" ["_law_bag_here"] spNum) (c_kind : Cal P w K mg base CX0 2 "_law_kind" ["_law_bag_here"] spKnd) : FnOk P w K mg base CX0 3 f fd ["_law_bag_here", "_law_events", "_law_witnesses", "_law_most"] spParts := by
  refine F.ok sc_parts (fun vs H Q E h => ?_) (fun cdv A outer s H vs Q E hr h => ?_)
  · obtain ⟨_, _, _, _, _, rfl, _⟩ := h
    rfl
  · obtain ⟨ev, wi, most, b, c, rfl, hb, ev0, ev8, wi0, wi8, m0, m1, k⟩ := h
    refine ⟨_, (pss_cons (ps_set (i := 4) sc_parts.nd rfl (Or.inl rfl) (pe_lst (pa_cons (pe_lst pa_nil) (pa_cons (pe_lst pa_nil) (pa_cons (pe_lst pa_nil) (pa_cons (pe_lst pa_nil) pa_nil))))))
  (pss_cons (ps_for PassesOwn.never rfl (pi_range1 rfl T.b.range_ (pa_cons (pe_op u_mul (pe_cal c_take (hr.mono (by decide)) pass0 (pa_cons (pv 0) (pa_cons (pe_op u_add (pv 3) pe_int) pa_nil))) (pe_callTy u_int rfl T.b.int_ (by decide +kernel) (pa_cons (pe_cmpR op_gt (pe_op u_mul (pv 1) (pv 2)) pe_int (nomark _)) pa_nil))) pa_nil)) (pg_name (i := 5) sc_parts.nd rfl (Or.inl rfl))
    (pss_one (ps_expr (pe_bm PySem.F.plainAttrs_list PySem.F.slot_list_append PySem.F.type_list_append mt_append (pe_ix ix_seq (pv 4) pe_int (fun _ _ => rfl)) (pa_cons (pe_tup (pa_cons (pe_cal c_take (hr.mono (by decide)) pass0 (pa_cons (pv 0) (pa_cons (pv 2) pa_nil))) (pa_cons (pe_cal c_take (hr.mono (by decide)) pass0 (pa_cons (pv 0) (pa_cons (pv 1) pa_nil))) (pa_cons (pe_cal c_number (hr.mono (by decide)) pass0 (pa_cons (pv 0) pa_nil)) pa_nil)))) pa_nil)))))
  (pss_cons (ps_for PassesOwn.never rfl (pi_range1 rfl T.b.range_ (pa_cons (pe_op u_mul (pe_cal c_take (hr.mono (by decide)) pass0 (pa_cons (pv 0) (pa_cons (pe_op u_add (pe_op op_fdiv (pv 3) pe_int) pe_int) pa_nil))) (pe_callTy u_int rfl T.b.int_ (by decide +kernel) (pa_cons (pe_cmpR op_gt (pv 1) pe_int (nomark _)) pa_nil))) pa_nil)) (pg_name (i := 5) sc_parts.nd rfl (Or.inl rfl))
    (pss_cons (ps_set (i := 6) sc_parts.nd rfl (Or.inl rfl) (pe_cal c_take (hr.mono (by decide)) pass0 (pa_cons (pv 0) (pa_cons (pv 1) pa_nil))))
  (pss_one (ps_expr (pe_bm PySem.F.plainAttrs_list PySem.F.slot_list_append PySem.F.type_list_append mt_append (pe_ix ix_seq (pv 4) pe_int (fun _ _ => rfl)) (pa_cons (pe_tup (pa_cons (pv 6) (pa_cons (pe_op op_mod (pe_callTy u_int rfl T.b.int_ (by decide +kernel) (pa_cons (pe_op u_add (pe_op u_add (pv 6) pe_int) (pe_cal c_take (hr.mono (by decide)) pass0 (pa_cons (pv 0) (pa_cons (pe_op op_sub (pv 1) pe_int) pa_nil)))) pa_nil)) (pv 1)) (pa_cons (pe_op op_sub (pe_cal c_take (hr.mono (by decide)) pass0 (pa_cons (pv 0) (pa_cons pe_int pa_nil))) pe_int) pa_nil)))) pa_nil))))))
  (pss_cons (ps_for PassesOwn.never rfl (pi_range1 rfl T.b.range_ (pa_cons (pe_op u_mul (pe_cal c_take (hr.mono (by decide)) pass0 (pa_cons (pv 0) (pa_cons pe_int pa_nil))) (pe_callTy u_int rfl T.b.int_ (by decide +kernel) (pa_cons (pe_cmpR op_gt (pv 1) pe_int (nomark _)) pa_nil))) pa_nil)) (pg_name (i := 5) sc_parts.nd rfl (Or.inl rfl))
    (pss_one (ps_expr (pe_bm PySem.F.plainAttrs_list PySem.F.slot_list_append PySem.F.type_list_append mt_append (pe_ix ix_seq (pv 4) pe_int (fun _ _ => rfl)) (pa_cons (pe_tup (pa_cons (pe_cal c_take (hr.mono (by decide)) pass0 (pa_cons (pv 0) (pa_cons (pv 1) pa_nil))) (pa_cons (pe_ix ix_seq (pe_lst (pa_cons pe_str (pa_cons pe_str pa_nil))) (pe_cal c_take (hr.mono (by decide)) pass0 (pa_cons (pv 0) (pa_cons pe_int pa_nil))) (fun _ _ => rfl)) (pa_cons (pe_cal c_number (hr.mono (by decide)) pass0 (pa_cons (pv 0) pa_nil)) pa_nil)))) pa_nil)))))
  (pss_cons (ps_for PassesOwn.never rfl (pi_range1 rfl T.b.range_ (pa_cons (pe_op u_mul (pe_cal c_take (hr.mono (by decide)) pass0 (pa_cons (pv 0) (pa_cons pe_int pa_nil))) (pe_callTy u_int rfl T.b.int_ (by decide +kernel) (pa_cons (pe_cmpR op_gt (pv 2) pe_int (nomark _)) pa_nil))) pa_nil)) (pg_name (i := 5) sc_parts.nd rfl (Or.inl rfl))
    (pss_cons (ps_set (i := 7) sc_parts.nd rfl (Or.inl rfl) (pe_tup (pa_cons (pe_cal c_take (hr.mono (by decide)) pass0 (pa_cons (pv 0) (pa_cons (pv 2) pa_nil))) (pa_cons (pe_cal c_kind (hr.mono (by decide)) pass0 (pa_cons (pv 0) pa_nil)) (pa_cons (pe_cal c_take (hr.mono (by decide)) pass0 (pa_cons (pv 0) (pa_cons (pv 2) pa_nil))) (pa_cons (pe_cal c_kind (hr.mono (by decide)) pass0 (pa_cons (pv 0) pa_nil)) pa_nil))))))
  (pss_one (ps_expr (pe_bm PySem.F.plainAttrs_list PySem.F.slot_list_append PySem.F.type_list_append mt_append (pe_ix ix_seq (pv 4) pe_int (fun _ _ => rfl)) (pa_cons (pv 7) pa_nil))))))
  (pss_one (ps_ret (pv 4)))))))), ?_⟩
    walk_at "el"
    refine ⟨by decide, fun l0 hl0 => ?_⟩
    have e0 := nw_of hl0
    walk_at "el"
    refine ⟨by decide, fun l1 hl1 => ?_⟩
    have e1 := nw_of hl1
    walk_at "el"
    refine ⟨by decide, fun l2 hl2 => ?_⟩
    have e2 := nw_of hl2
    walk_at "el"
    refine ⟨by decide, fun l3 hl3 => ?_⟩
    have e3 := nw_of hl3
    walk_at "el"
    refine ⟨by show 4 ≤ sizeLine; decide, fun p hp => ?_⟩
    have e4 := nw_of hp
    obtain ⟨S, I0⟩ := parts_start (ev := ev) (wi := wi) hb hl0 hl1 hl2 hl3 hp
    generalize upd (upd (upd (upd (upd H l0 (.lst [])) l1 (.lst [])) l2 (.lst [])) l3 (.lst [])) p (.lst [.ref l0, .ref l1, .ref l2, .ref l3]) = Hs at I0 ⊢
    generalize lOf l0 l1 l2 l3 = l at S I0
    clear e0 e1 e2 e3 hl0 hl1 hl2 hl3 hp
    walk_at "el"
    refine ⟨b, c, _, rfl, I0.bag, by omega, by omega, fun r H1 r0 r1 hb1 k1 => ?_⟩
    have I1 := I0.kp' S hb1 k1
    clear I0 hb1 k1 hb
    walk_at "el"
    refine n_mul (mul8 ev0 ev8 wi0 wi8) ?_
    walk_at "el"
    refine n_mul (.inl ⟨by omega, by omega⟩) ?_
    walk_at "el"
    have q := cnt01 (p := 0 < ev * wi) r0
    generalize r * (if decide (0 < ev * wi) = true then 1 else 0) = j at q ⊢
    refine ⟨by omega, by omega, ?_⟩
    refine lp_range (fun i σ H2 => ∃ xs, PIv b c p l H H2 ev wi xs ∧ (xs .tel).length = i ∧ xs .gap = [] ∧ xs .sur = [] ∧ xs .cla = [] ∧ ∃ v5 v6 v7, σ = [some (.ref b), some (.int ev), some (.int wi), some (.int most), some (.ref p), v5, v6, v7]) ⟨_, I1, rfl, rfl, rfl, rfl, _, _, _, rfl⟩ ?_ ?_
    · rintro i σ H2 hi ⟨xs, I2, hl, g1, g2, g3, v5, v6, v7, rfl⟩
      obtain ⟨ev1, wi1⟩ := pos2 ev0 wi0 (q.2.2 (by omega))
      have hp2 := I2.hp
      walk_at "el"
      refine ⟨.inl ⟨rfl, _, SqL.of (I2.hl .tel)⟩, ?_⟩
      walk_at "el"
      refine ⟨b, c, wi, rfl, I2.bag, wi1, by omega, fun a H3 a0 a1 hb3 k3 => ?_⟩
      have I3 := I2.kp' S hb3 k3
      walk_at "el"
      refine ⟨b, c, ev, rfl, I3.bag, ev1, by omega, fun e H4 e0 e1 hb4 k4 => ?_⟩
      have I4 := I3.kp' S hb4 k4
      walk_at "el"
      refine ⟨b, c, rfl, I4.bag, fun x H5 x0 x1 hb5 k5 => ?_⟩
      have I5 := I4.kp' S hb5 k5
      walk_at "el"
      refine ⟨by show 3 ≤ sizeLine; decide, fun u hu => ?_⟩
      have I6 := I5.nw S (nw_of hu (.tup [.int a, .int e, .int x]))
      walk_at "el"
      refine ⟨l .tel, xs .tel, .ref u, rfl, rfl, I6.hl .tel, size1k (by omega), ?_⟩
      walk_at "el"
      exact ⟨_, I6.app S .tel (item_tel upd_same a0 a1 e0 e1 (by omega) (by omega)) (below3 (by omega) (by omega) (by omega)) (fun z => nomatch z), by rw [setP_at, List.length_append, hl]; rfl, by rw [setP_ne (by decide)]; exact g1, by rw [setP_ne (by decide)]; exact g2, by rw [setP_ne (by decide)]; exact g3, _, _, _, rfl⟩
    · rintro σ H2 ⟨xs, I2, hl, g1, g2, g3, v5, v6, v7, rfl⟩
      have htel : ((xs .tel).length : Int) ≤ most := by omega
      clear hl q r0 r1 I1
      walk_at "el"
      refine a_I ⟨by decide, by decide⟩ ?_
      walk_at "el"
      refine ⟨b, c, _, rfl, I2.bag, by omega, by omega, fun r H1 r0 r1 hb1 k1 => ?_⟩
      have I1 := I2.kp' S hb1 k1
      clear I2 hb1 k1
      walk_at "el"
      refine n_mul (.inl ⟨by omega, by omega⟩) ?_
      walk_at "el"
      have q := cnt01 (p := 1 < ev) r0
      generalize r * (if decide (1 < ev) = true then 1 else 0) = j at q ⊢
      refine ⟨by omega, by omega, ?_⟩
      refine lp_range (fun i σ H2 => ∃ xs, PIv b c p l H H2 ev wi xs ∧ ((xs .tel).length : Int) ≤ most ∧ (xs .gap).length = i ∧ xs .sur = [] ∧ xs .cla = [] ∧ ∃ v5 v6 v7, σ = [some (.ref b), some (.int ev), some (.int wi), some (.int most), some (.ref p), v5, v6, v7]) ⟨_, I1, htel, by rw [g1]; rfl, g2, g3, _, _, _, rfl⟩ ?_ ?_
      · clear htel g1 g2 g3 I1
        rintro i σ H2 hi ⟨xs, I2, g1, hl, g2, g3, v5, v6, v7, rfl⟩
        have ev1 := q.2.2 (by omega)
        walk_at "el"
        refine ⟨b, c, ev, rfl, I2.bag, by omega, by omega, fun a H3 a0 a1 hb3 k3 => ?_⟩
        have I3 := I2.kp' S hb3 k3
        have hp3 := I3.hp
        walk_at "el"
        refine ⟨.inl ⟨rfl, _, SqL.of (I3.hl .gap)⟩, ?_⟩
        walk_at "el"
        refine ⟨b, c, ev - 1, rfl, I3.bag, by omega, by omega, fun t H4 t0 t1 hb4 k4 => ?_⟩
        have I4 := I3.kp' S hb4 k4
        walk_at "el"
        refine a_I (by omega) ?_
        walk_at "el"
        refine ⟨b, c, 9, rfl, I4.bag, by decide, by decide, fun x H5 x0 x1 hb5 k5 => ?_⟩
        have I5 := I4.kp' S hb5 k5
        walk_at "el"
        refine ⟨by show 3 ≤ sizeLine; decide, fun u hu => ?_⟩
        have I6 := I5.nw S (nw_of hu (.tup [.int a, .int ((a + 1 + t) % ev), .int (x - 4)]))
        walk_at "el"
        refine ⟨l .gap, xs .gap, .ref u, rfl, rfl, I6.hl .gap, size1k (by omega), ?_⟩
        walk_at "el"
        exact ⟨_, I6.app S .gap (item_gap upd_same a0 a1 (Int.emod_nonneg _ (by omega)) (Int.emod_lt_of_pos _ (by omega)) (gap_ne a0 a1 t0 t1 ev8) (by omega) (by omega)) (below3 (by omega) ⟨Int.emod_nonneg _ (by omega), Int.le_trans (Int.le_of_lt (Int.emod_lt_of_pos _ (by omega))) ev8⟩ (by omega)) (fun _ => gapsm3 (by omega)), by rw [setP_ne (by decide)]; exact g1, by rw [setP_at, List.length_append, hl]; rfl, by rw [setP_ne (by decide)]; exact g2, by rw [setP_ne (by decide)]; exact g3, _, _, _, rfl⟩
      · clear htel g1 g2 g3 I1
        rintro σ H2 ⟨xs, I2, htel, hl, g2, g3, v5, v6, v7, rfl⟩
        have hgap : ((xs .gap).length : Int) ≤ most / 2 + 1 := by omega
        clear hl q r0 r1
        walk_at "el"
        refine ⟨b, c, 4, rfl, I2.bag, by omega, by omega, fun r H1 r0 r1 hb1 k1 => ?_⟩
        have I1 := I2.kp' S hb1 k1
        clear I2 hb1 k1
        walk_at "el"
        refine n_mul (.inl ⟨by omega, by omega⟩) ?_
        walk_at "el"
        have q := cnt01 (p := 0 < ev) r0
        generalize r * (if decide (0 < ev) = true then 1 else 0) = j at q ⊢
        refine ⟨by omega, by omega, ?_⟩
        refine lp_range (fun i σ H2 => ∃ xs, PIv b c p l H H2 ev wi xs ∧ ((xs .tel).length : Int) ≤ most ∧ ((xs .gap).length : Int) ≤ most / 2 + 1 ∧ (xs .sur).length = i ∧ xs .cla = [] ∧ ∃ v5 v6 v7, σ = [some (.ref b), some (.int ev), some (.int wi), some (.int most), some (.ref p), v5, v6, v7]) ⟨_, I1, htel, hgap, by rw [g2]; rfl, g3, _, _, _, rfl⟩ ?_ ?_
        · clear htel hgap g2 g3 I1
          rintro i σ H2 hi ⟨xs, I2, g1, g2, hl, g3, v5, v6, v7, rfl⟩
          have ev1 := q.2.2 (by omega)
          have hp2 := I2.hp
          walk_at "el"
          refine ⟨.inl ⟨rfl, _, SqL.of (I2.hl .sur)⟩, ?_⟩
          walk_at "el"
          refine ⟨b, c, ev, rfl, I2.bag, by omega, by omega, fun a H3 a0 a1 hb3 k3 => ?_⟩
          have I3 := I2.kp' S hb3 k3
          walk_at "el"
          refine ⟨by decide, fun w1 hw1 => ?_⟩
          have I4 := I3.nw S (nw_of hw1 (.lst [.str "least", .str "most"]))
          have nw1 := I3.bag.ne hw1
          walk_at "el"
          refine ⟨b, c, 2, rfl, I4.bag, by omega, by omega, fun t H4 t0 t1 hb4 k4 => ?_⟩
          have I5 := I4.kp' S hb4 k4
          have hw2 := k4 _ _ nw1 upd_same
          obtain ⟨sd, hsd, hss⟩ : ∃ sd : Str, atI [V.str "least", V.str "most"] t = some (.str sd) ∧ (sd = "least" ∨ sd = "most") := by
            have z : t = 0 ∨ t = 1 := by omega
            rcases z with rfl | rfl
            · exact ⟨_, rfl, .inl rfl⟩
            · exact ⟨_, rfl, .inr rfl⟩
          walk_at "el"
          refine n_ixL (SqL.of hw2) hsd ?_
          walk_at "el"
          refine ⟨b, c, rfl, I5.bag, fun x H6 x0 x1 hb6 k6 => ?_⟩
          have I6 := I5.kp' S hb6 k6
          walk_at "el"
          refine ⟨by show 3 ≤ sizeLine; decide, fun u hu => ?_⟩
          have I7 := I6.nw S (nw_of hu (.tup [.int a, .str sd, .int x]))
          walk_at "el"
          refine ⟨l .sur, xs .sur, .ref u, rfl, rfl, I7.hl .sur, size1k (by omega), ?_⟩
          walk_at "el"
          exact ⟨_, I7.app S .sur (item_sur upd_same a0 a1 hss (by omega) (by omega)) (belowS (by omega) (by omega)) (fun z => nomatch z), by rw [setP_ne (by decide)]; exact g1, by rw [setP_ne (by decide)]; exact g2, by rw [setP_at, List.length_append, hl]; rfl, by rw [setP_ne (by decide)]; exact g3, _, _, _, rfl⟩
        · clear htel hgap g2 g3 I1
          rintro σ H2 ⟨xs, I2, htel, hgap, hl, g3, v5, v6, v7, rfl⟩
          have hsur : (xs .sur).length ≤ 3 := by omega
          clear hl q r0 r1
          walk_at "el"
          refine ⟨b, c, 4, rfl, I2.bag, by omega, by omega, fun r H1 r0 r1 hb1 k1 => ?_⟩
          have I1 := I2.kp' S hb1 k1
          clear I2 hb1 k1
          walk_at "el"
          refine n_mul (.inl ⟨by omega, by omega⟩) ?_
          walk_at "el"
          have q := cnt01 (p := 0 < wi) r0
          generalize r * (if decide (0 < wi) = true then 1 else 0) = j at q ⊢
          refine ⟨by omega, by omega, ?_⟩
          refine lp_range (fun i σ H2 => ∃ xs, PIv b c p l H H2 ev wi xs ∧ ((xs .tel).length : Int) ≤ most ∧ ((xs .gap).length : Int) ≤ most / 2 + 1 ∧ (xs .sur).length ≤ 3 ∧ (xs .cla).length = i ∧ ∃ v5 v6 v7, σ = [some (.ref b), some (.int ev), some (.int wi), some (.int most), some (.ref p), v5, v6, v7]) ⟨_, I1, htel, hgap, hsur, by rw [g3]; rfl, _, _, _, rfl⟩ ?_ ?_
          · clear htel hgap hsur g3 I1
            rintro i σ H2 hi ⟨xs, I2, g1, g2, g3, hl, v5, v6, v7, rfl⟩
            have wi1 := q.2.2 (by omega)
            walk_at "el"
            refine ⟨b, c, wi, rfl, I2.bag, by omega, by omega, fun a H3 a0 a1 hb3 k3 => ?_⟩
            have I3 := I2.kp' S hb3 k3
            walk_at "el"
            refine ⟨b, c, rfl, I3.bag, fun s1 H4 hs1 hb4 k4 => ?_⟩
            have I4 := I3.kp' S hb4 k4
            walk_at "el"
            refine ⟨b, c, wi, rfl, I4.bag, by omega, by omega, fun v H5 v0 v1 hb5 k5 => ?_⟩
            have I5 := I4.kp' S hb5 k5
            walk_at "el"
            refine ⟨b, c, rfl, I5.bag, fun s2 H6 hs2 hb6 k6 => ?_⟩
            have I6 := I5.kp' S hb6 k6
            walk_at "el"
            refine ⟨by show 4 ≤ sizeLine; decide, fun u hu => ?_⟩
            have I7 := I6.nw S (nw_of hu (.tup [.int a, .str s1, .int v, .str s2]))
            have hp7 := I7.hp
            walk_at "el"
            refine ⟨.inl ⟨rfl, _, SqL.of (I7.hl .cla)⟩, ?_⟩
            walk_at "el"
            refine ⟨l .cla, xs .cla, .ref u, rfl, rfl, I7.hl .cla, size1k (by omega), ?_⟩
            walk_at "el"
            exact ⟨_, I7.app S .cla (item_cla upd_same a0 a1 hs1 v0 v1 hs2) (belowC (by omega) (by omega)) (fun z => nomatch z), by rw [setP_ne (by decide)]; exact g1, by rw [setP_ne (by decide)]; exact g2, by rw [setP_ne (by decide)]; exact g3, by rw [setP_at, List.length_append, hl]; rfl, _, _, _, rfl⟩
          · clear htel hgap hsur g3 I1
            rintro σ H2 ⟨xs, I2, htel, hgap, hsur, hl, v5, v6, v7, rfl⟩
            walk_at "el"
            exact k p l H2 xs S I2 htel hgap hsur (by omega)
end
end EL

/- part S -/
namespace EL
open PySem PySem.Spec PyProof.Rows L2
open PySem.W (Frag)
abbrev s_yes : Stmt := top 63
abbrev N_yes : List Str := ["_law_told", "_law_due"]
theorem sc_yes : FnScope N_yes ["_law_told", "_law_due"] (defScope s_yes) := ⟨rfl, rfl, rfl, by decide +kernel, rfl, by decide +kernel, by decide +kernel⟩
abbrev s_l_is_way : Stmt := top 52
abbrev N_l_is_way : List Str := ["_law_gaps", "_law_a", "_law_b", "_law_thing", "_law_here", "_law_index"]
theorem sc_l_is_way : FnScope N_l_is_way ["_law_gaps", "_law_a", "_law_b", "_law_thing"] (defScope s_l_is_way) := ⟨rfl, rfl, rfl, by decide +kernel, rfl, by decide +kernel, by decide +kernel⟩
abbrev s_walk : Stmt := top 64
abbrev N_walk : List Str := ["_law_bag_here", "_law_gaps", "_law_a", "_law_many", "_law_here", "_law_found", "_law_k", "_law_later", "_law_index"]
theorem sc_walk : FnScope N_walk ["_law_bag_here", "_law_gaps", "_law_a", "_law_many"] (defScope s_walk) := ⟨rfl, rfl, rfl, by decide +kernel, rfl, by decide +kernel, by decide +kernel⟩
local macro_rules | `(tactic| walk_at "el1") => `(tactic| with_reducible first
  | refine a_sasg ?_ | refine a_sdrop ?_ | refine a_saugS ?_ | refine a_spar ?_ | refine a_seq ?_ | refine a_asg ?_ | refine a_drop ?_ | refine a_ret ?_ | refine a_if ?_ | refine a_next ?_
  | refine a_op ?_ | refine a_cons ?_ | refine a_nil ?_ | refine a_cb ?_ | refine a_call ?_ | refine a_c ?_ | refine a_gn ?_ | refine a_nx ?_ | refine a_rt ?_ | refine a_un ?_
  | refine a_test ?_ | refine a_B ?_ | refine a_bl ?_ | refine a_and ?_ | refine a_or ?_ | refine a_not ?_ | refine a_andV ?_ | refine a_orV ?_ | refine a_notV ?_ | refine a_ifx ?_ | refine a_chain ?_
  | refine a_nT ?_ | refine a_nF ?_ | refine a_fld ?_ | refine a_getF ?_ | refine a_T ?_ | refine a_F ?_ | refine a_tup ?_ | refine a_lst ?_ | refine a_sub ?_ | refine a_augS ?_ | refine a_two ?_ | refine a_I0 ?_ | refine a_U ?_ | refine n_add ?_ | refine n_int ?_ | refine n_ib ?_ | refine a_ip ?_ | refine a_rng1 ?_ | refine a_rng2 ?_ | refine a_bm ?_ | refine a_abs ?_ | refine a_pairs ?_ | refine a_pairs0 ?_ | refine a_bk ?_ | refine a_prp ?_ | refine a_lc ?_ | refine a_yes ?_ | refine a_sl ?_ | refine a_nop ?_ | refine a_prt ?_ | refine a_ex1 ?_ | refine a_for ?_ | refine a_sfor ?_ | refine a_iE1 ?_ | refine a_iEs ?_ | refine a_iEz ?_ | refine a_iEnum ?_ | refine a_iTup ?_ | refine a_iList ?_ | refine a_gcons ?_ | refine a_gnil ?_ | refine a_revT ?_ | refine a_spar3 ?_ | refine a_par3 ?_ | refine a_three ?_)
local macro_rules | `(tactic| walk_at "el2") => `(tactic| first
  | (refine a_var (by rfl) ?_)
  | (refine n_ixL (SqL.of (by assumption)) (by rfl) ?_) | (refine n_ixT (SqT.of (by assumption)) (by rfl) ?_) | (refine n_eq (by rfl) ?_) | (refine n_ne (by rfl) ?_)
  | (refine n_isN ?_) | (refine n_notN ?_) | (refine n_isB ?_) | (refine n_notB ?_) | (refine n_isBI ?_) | (refine n_notBI ?_) | (refine n_len (.inl (SqL.of (by assumption))) ?_) | (refine n_len (.inr (SqT.of (by assumption))) ?_)
  | (refine a_getL (SqL.of (by assumption)) (by rfl) ?_)
  | (refine n_isInt (by assumption) ?_) | (refine n_isBool (by assumption) ?_) | (refine n_isStr (by assumption) ?_) | (refine n_isTup (by assumption) ?_) | (refine n_isLst (by assumption) ?_))
local macro_rules | `(tactic| walk_at "el") => `(tactic| repeat (first | walk_at "el1" | walk_at "el2"))

/-! ### a law's own look at ways -/
def spYes : Sp := fun vs H Q _ => ∃ x y : Bool, vs = [.bl x, .bl y] ∧ Q (.bl (decide (x = y))) H
def spWayL (K : Frag) : Sp := fun vs H Q _ => ∃ (g : Addr) (gs : List V) (G : List (Int × Int × Int)) (a b : Int) (x : V), vs = [.ref g, .int a, .int b, x] ∧ GapsAre K H g gs G ∧
  Th K H x ∧ (∀ (q : Addr) (xs : List V), x = .ref q → H q = some (.tup xs) → ∀ y ∈ xs, Th K H y) ∧ ∀ r, (r = true ↔ isWay H G a b x) → Q (.bl r) H
def spWalk (K : Frag) : Sp := fun vs H Q _ => ∃ (b c g : Addr) (gs : List V) (G : List (Int × Int × Int)) (a many : Int), vs = [.ref b, .ref g, .int a, .int many] ∧ Bag H b c ∧ g ≠ b ∧ H g = some (.lst gs) ∧ GapsAre K H g gs G ∧ gs.length ≤ 1000 ∧ 0 ≤ many ∧ many ≤ 1000 ∧
  ∀ H' r q (is : List Int) h, Bag H' b c → Kp b H H' → H' r = some (.tup [.ref q, .int h]) → H' q = some (.tup (is.map V.int)) → wayTo G a (is.map V.int) = some h → (is.length : Int) ≤ many → (∀ z ∈ is, 0 ≤ z ∧ z < G.length) → Q (.ref r) H'
section
variable {P : Program} {w : World} {K : Frag} {mg : Str → Option Value} {base : Heap} {f : Addr} {fd : FuncData} {C : Addr}
theorem ok_yes (F : Fun K "_law_yes" "_law_yes" s_yes f fd) (T : Tb mg) : FnOk P w K mg base CX0 1 f fd ["_law_told", "_law_due"] spYes := by
  refine F.ok sc_yes (fun vs H Q E h => ?_) (fun cdv A outer s H vs Q E hr h => ?_)
  · obtain ⟨_, _, rfl, _⟩ := h
    rfl
  · obtain ⟨x, y, rfl, k⟩ := h
    refine ⟨_, (pss_one (ps_ret (pe_and (pe_callB u_isi rfl T.b.isinstance_ boot_isinstance (pa_cons (pv 0) (pa_cons (pe_bltn (v := V.ty "bool") rfl T.b.bool_ (by decide +kernel) rfl) pa_nil))) (pe_one (pe_cmpR (u_eq hr.units) (pv 0) (pv 1) (nomark _)))))), ?_⟩
    obtain ⟨t, kt⟩ := (Th.bl (K := K) (H := H) x).kit
    walk_at "el"
    refine ite2 (fun h0 => ?_) (fun h0 => absurd rfl h0)
    walk_at "el"
    have e : decide (V.bl x = V.bl y) = decide (x = y) := by
      rw [Bool.eq_iff_iff, decide_eq_true_iff, decide_eq_true_iff]
      exact ⟨fun h => by cases h; rfl, fun h => by rw [h]⟩
    rw [e]
    exact k
theorem ok_l_is_way (F : Fun K "_law_is_way" "_law_is_way" s_l_is_way f fd) (T : Tb mg) : FnOk P w K mg base CX0 1 f fd ["_law_gaps", "_law_a", "_law_b", "_law_thing"] (spWayL K) := by
  refine F.ok sc_l_is_way (fun vs H Q E h => ?_) (fun cdv A outer s H vs Q E hr h => ?_)
  · obtain ⟨_, _, _, _, _, _, rfl, _⟩ := h
    rfl
  · obtain ⟨g, gs, G, a, b, x, rfl, hG, th, te, k⟩ := h
    refine ⟨_, (pss_cons (ps_if (pt_not (pt_val (pe_callB u_isi rfl T.b.isinstance_ boot_isinstance (pa_cons (pv 3) (pa_cons (pe_bltn (v := V.ty "tuple") rfl T.b.tuple_ (by decide +kernel) rfl) pa_nil)))))
    (pss_one (ps_ret pe_bl))
    pss_nil)
  (pss_cons (ps_set (i := 4) sc_l_is_way.nd rfl (Or.inl rfl) (pv 1))
  (pss_cons (ps_for PassesOwn.never rfl (u_iter (pv 3)) (pg_name (i := 5) sc_l_is_way.nd rfl (Or.inl rfl))
    (pss_cons (ps_if (PW.pt (pw_or (pt_not (pt_val (pe_callB u_isi rfl T.b.isinstance_ boot_isinstance (pa_cons (pv 5) (pa_cons (pe_bltn (v := V.ty "int") rfl T.b.int_ (by decide +kernel) rfl) pa_nil))))) (pw_or (pt_val (pe_callB u_isi rfl T.b.isinstance_ boot_isinstance (pa_cons (pv 5) (pa_cons (pe_bltn (v := V.ty "bool") rfl T.b.bool_ (by decide +kernel) rfl) pa_nil)))) (pw_or1 (pt_cmpR op_lt (pv 5) pe_int (nomark _))))))
    (pss_one (ps_ret pe_bl))
    pss_nil)
  (pss_cons (ps_if (pt_cmpR op_ge (pv 5) (pe_callB u_len rfl T.b.len_ boot_len (pa_cons (pv 0) pa_nil)) (nomark _))
    (pss_one (ps_ret pe_bl))
    pss_nil)
  (pss_cons (ps_if (pt_cmpR (u_ne hr.units) (pe_ix ix_seq (pe_ix ix_seq (pv 0) (pv 5) (fun _ _ => rfl)) pe_int (fun _ _ => rfl)) (pv 4) (nomark _))
    (pss_one (ps_ret pe_bl))
    pss_nil)
  (pss_one (ps_set (i := 4) sc_l_is_way.nd rfl (Or.inl rfl) (pe_ix ix_seq (pe_ix ix_seq (pv 0) (pv 5) (fun _ _ => rfl)) pe_int (fun _ _ => rfl))))))))
  (pss_one (ps_ret (pe_cmpR (u_eq hr.units) (pv 4) (pv 2) (nomark _))))))), ?_⟩
    obtain ⟨ty, kt⟩ := th.kit
    walk_at "el"
    refine ite2 (fun h0 => ?_) (fun h0 => ?_)
    · walk_at "el"
      refine k _ ⟨(fun h => by cases h), ?_⟩
      rintro ⟨q, xs, rfl, hq, _⟩
      have e : isT H (.ref q) = true := by show obT (H q) = true; rw [hq]; rfl
      rw [e] at h0
      cases h0
    · obtain ⟨q, xs, rfl, hq⟩ := isT_tup th (by simpa using h0)
      walk_at "el"
      refine a_iSeq (.inr ?_)
      walk_at "el"
      refine ⟨q, rfl, ⟨_, SqT.of hq⟩, ?_⟩
      refine lp_it (walk_tup (xs := xs)) (fun i σ H1 => H = H1 ∧ ∃ h, wayTo G a (xs.take i) = some h ∧ ∃ v5, σ = [some (.ref g), some (.int a), some (.int b), some (.ref q), some (.int h), v5]) ⟨rfl, a, rfl, _, rfl⟩ (fun i σ H1 hi h => SqT.of (h.1 ▸ hq)) ?_ ?_
      · rintro i y σ H1 H2 hi ⟨rfl, h, hw, v5, rfl⟩ ⟨rfl, hy⟩
        have tk : xs.take (i + 1) = xs.take i ++ [y] := by rw [List.take_add_one, hy]; rfl
        have sp : xs = xs.take (i + 1) ++ xs.drop (i + 1) := (List.take_append_drop _ _).symm
        have bad : stepW G h y = none → ∀ z, wayTo G a xs ≠ some z := fun hn z e => by
          have q : wayTo G a (xs.take (i + 1)) = none := by rw [tk, way_snoc, hw]; exact hn
          rw [sp, way_off q] at e
          cases e
        have no : stepW G h y = none → ¬ isWay H2 G a b (.ref q) := fun hn ⟨q', xs', e, hq', hz⟩ => by
          cases e
          rw [hq] at hq'
          cases hq'
          exact bad hn _ hz
        obtain ⟨ty2, kt2⟩ := (te q xs rfl hq y (List.mem_of_getElem? hy)).kit
        walk_at "el"
        have out : stepW G h y = none → Q (.bl false) H2 := fun hn => k _ ⟨(fun z => by cases z), fun z => absurd z (no hn)⟩
        refine ite2 (fun h1 => ?_) (fun h1 => ?_)
        · walk_at "el"
          exact out (by cases y <;> first | rfl | cases h1)
        · rcases isI_cases (by simpa using h1) with ⟨j, rfl⟩ | ⟨z, rfl⟩
          · walk_at "el"
            refine ite2 (fun h2 => by cases h2) (fun _ => ?_)
            walk_at "el"
            refine ite2 (fun h2 => ?_) (fun h2 => ?_)
            · have q : j < 0 := by simpa using h2
              walk_at "el"
              exact out (step_off (by show (decide _ && decide _) = false; rw [decide_eq_false (by omega)]; rfl))
            · have q : ¬ j < 0 := by simpa using h2
              walk_at "el"
              refine n_len hG.seq.len ?_
              walk_at "el"
              refine ite2 (fun h3 => ?_) (fun h3 => ?_)
              · have q3 : (gs.length : Int) ≤ j := by simpa using h3
                walk_at "el"
                exact out (step_off (by show (decide _ && decide _) = false; rw [decide_eq_false (show ¬ j < (G.length : Int) by rw [← hG.len]; omega), Bool.and_false]))
              · have q3 : ¬ (gs.length : Int) ≤ j := by simpa using h3
                obtain ⟨n, rfl⟩ : ∃ n : Nat, j = n := ⟨j.toNat, by omega⟩
                have hn : n < gs.length := by omega
                obtain ⟨u, x, hv, hx, hu⟩ := hG.at_ n gs[n] (List.getElem?_eq_getElem hn)
                have hgn : gs[n]? = some (.ref u) := by rw [List.getElem?_eq_getElem hn, hv]
                walk_at "el"
                refine n_ixA hG.seq (atI_nat hgn) ?_
                walk_at "el"
                refine ite2 (fun h4 => ?_) (fun h4 => ?_)
                · have ne : ¬ x.1 = h := by simpa using h4
                  walk_at "el"
                  exact out ((step_at hx).trans (if_neg ne))
                · have e : x.1 = h := by simpa using h4
                  walk_at "el"
                  refine n_ixA hG.seq (atI_nat hgn) ?_
                  walk_at "el"
                  exact ⟨rfl, x.2.1, by rw [tk, way_snoc, hw]; exact (step_at hx).trans (if_pos e), _, rfl⟩
          · walk_at "el"
            refine ite2 (fun _ => ?_) (fun h2 => absurd rfl h2)
            walk_at "el"
            exact out rfl
      · rintro σ H1 ⟨rfl, h, hw, v5, rfl⟩
        rw [List.take_length] at hw
        walk_at "el"
        refine k _ ⟨fun z => ⟨q, xs, rfl, hq, ?_⟩, ?_⟩
        · have e : h = b := by simpa using z
          rw [← e]
          exact hw
        · rintro ⟨q', xs', e, hq', hz⟩
          cases e
          rw [hq] at hq'
          cases hq'
          rw [hw] at hz
          cases hz
          exact decide_eq_true rfl
theorem ok_walk (F : Fun K "_law_walk" "_law_walk" s_walk f fd) (T : Tb mg) (c_one : Cal P w K mg base CX0 2 "_law_one" ["_law_bag_here", "_law_menu"] (spOne K)) : FnOk P w K mg base CX0 3 f fd ["_law_bag_here", "_law_gaps", "_law_a", "_law_many"] (spWalk K) := by
  refine F.ok sc_walk (fun vs H Q E h => ?_) (fun cdv A outer s H vs Q E hr h => ?_)
  · obtain ⟨_, _, _, _, _, _, _, rfl, _⟩ := h
    rfl
  · obtain ⟨b, c, g, gs, G, a, many, rfl, hb, ng, hg, hG, gl, m0, m1, k⟩ := h
    refine ⟨_, (pss_cons (ps_asg (pe_tup (pa_cons (pv 2) (pa_cons (pe_lst pa_nil) pa_nil))) (pg_tup rfl (pgs_cons (pg_name (i := 4) sc_walk.nd rfl (Or.inr rfl)) (pgs_cons (pg_name (i := 5) sc_walk.nd rfl (Or.inl rfl)) pgs_nil))))
  (pss_cons (ps_for PassesOwn.never rfl (pi_range1 rfl T.b.range_ (pa_cons (pv 3) pa_nil)) (pg_name (i := 6) sc_walk.nd rfl (Or.inl rfl))
    (pss_cons (ps_setLc (i := 7) (own := [("_law_index", 8)]) rfl sc_walk.nd rfl rfl (sw_true rfl rfl rfl (by decide +kernel)) (pi_range1 rfl T.b.range_ (pa_cons (pe_callB u_len rfl T.b.len_ boot_len (pa_cons (pv 1) pa_nil)) pa_nil)) (blkOk_by (own := [("_law_index", 8)]) (N := N_walk) (sc := defScope s_walk) (by decide +kernel)) (fun _ _ _ _ _ => (pg_name (i := 8) sc_walk.nd rfl (Or.inl rfl))) (fun _ _ _ _ _ => (pts_one (pt_cmpR (show OpR _ (compareOp .Eq) (rEqU K) from (u_eq hr.units)) (pe_ix (show IxR _ (rIx K) from ix_seq) (pe_ix (show IxR _ (rIx K) from ix_seq) (pv 1) (pv 8) (fun _ _ => rfl)) pe_int (fun _ _ => rfl)) (pv 4) (nomark _)))) (fun _ _ _ _ _ => (pv 8)))
  (pss_one (ps_if (pt_cmpR (u_ne hr.units) (pv 7) (pe_lst pa_nil) (nomark _))
    (pss_cons (ps_set (i := 8) sc_walk.nd rfl (Or.inl rfl) (pe_cal c_one (hr.mono (by decide)) pass0 (pa_cons (pv 0) (pa_cons (pv 7) pa_nil))))
  (pss_cons (ps_expr (pe_bm PySem.F.plainAttrs_list PySem.F.slot_list_append PySem.F.type_list_append mt_append (pv 5) (pa_cons (pv 8) pa_nil)))
  (pss_one (ps_set (i := 4) sc_walk.nd rfl (Or.inr rfl) (pe_ix ix_seq (pe_ix ix_seq (pv 1) (pv 8) (fun _ _ => rfl)) pe_int (fun _ _ => rfl))))))
    pss_nil))))
  (pss_one (ps_ret (pe_tup (pa_cons (pe_callTy u_tuple rfl T.b.tuple_ (by decide +kernel) (pa_cons (pv 5) pa_nil)) (pa_cons (pv 4) pa_nil))))))), ?_⟩
    walk_at "el"
    refine ⟨by decide, fun fd0 hfd => ?_⟩
    have e1 := nw_of hfd
    have nfb := hb.ne hfd
    have nfg : g ≠ fd0 := fun z => by subst z; rw [hg] at hfd; cases hfd
    walk_at "el"
    refine ⟨by show 2 ≤ sizeLine; decide, fun t0 ht0 => ?_⟩
    have e2 := nw_of ht0
    refine a_gtup (SqT.of upd_same) rfl ?_
    walk_at "el"
    refine ⟨by omega, by omega, ?_⟩
    refine lp_range (fun i σ H3 => Bag H3 b c ∧ Kp b H H3 ∧ ∃ (is : List Int) (h : Int), H3 fd0 = some (.lst (is.map V.int)) ∧ is.length ≤ i ∧ wayTo G a (is.map V.int) = some h ∧ (∀ z ∈ is, 0 ≤ z ∧ z < G.length) ∧ ∃ v6 v7 v8, σ = [some (.ref b), some (.ref g), some (.int a), some (.int many), some (.int h), some (.ref fd0), v6, v7, v8])
      ⟨hb.same (fun x u h => e2 _ _ _ (e1 _ _ _ h)), same_kp (fun x u h => e2 _ _ _ (e1 _ _ _ h)), [], a, e2 _ _ _ upd_same, Nat.le_refl _, rfl, (fun _ h => nomatch h), _, _, _, rfl⟩ ?_ ?_
    · rintro i σ H3 hi ⟨hb3, k3, is, h, hf3, hl, hw, hz, v6, v7, v8, rfl⟩
      have hg3 := k3 _ _ ng hg
      have gk : ∀ {H'}, Kp b H H' → GapsAre K H' g gs G := fun {H'} kk => ⟨.inl (kk _ _ ng hg), hG.len, fun i v hv => by
        obtain ⟨q, x, e, hx, hq⟩ := hG.at_ i v hv
        refine ⟨q, x, e, hx, kk _ _ (fun z => ?_) hq⟩
        subst z
        obtain ⟨_, _, _, _, w1, _⟩ := hb
        rw [w1] at hq
        cases hq⟩
      walk_at "el"
      refine ⟨by have := gl; omega, by have := gl; omega, fun D hD => ?_⟩
      have e3 := nw_of hD
      have nDf : D ≠ fd0 := fun z => by subst z; rw [hf3] at hD; cases hD
      refine lc_of walk_range (fun j H4 => Same H3 H4 ∧ ∃ js : List Int, H4 D = some (.lst (js.map V.int)) ∧ js.length ≤ j ∧ ∀ z ∈ js, 0 ≤ z ∧ z < G.length ∧ ∃ x, G[z.toNat]? = some x ∧ x.1 = h) ⟨e3 _, [], upd_same, Nat.le_refl _, (fun _ h => nomatch h)⟩ (fun _ _ _ _ => trivial) ?_ ?_
      · rintro j x H4 H5 hj ⟨s4, js, hD4, hjl, hjs⟩ hx
        obtain ⟨e5, rfl⟩ : H5 = H4 ∧ x = .int (0 + j) := hx
        subst e5
        rw [Int.zero_add]
        have hG5 := gk (k3.trans (same_kp s4))
        have hj2 : j < gs.length := by omega
        obtain ⟨u, x, hv, hx, hu⟩ := hG5.at_ j gs[j] (List.getElem?_eq_getElem hj2)
        have hgn : gs[j]? = some (.ref u) := by rw [List.getElem?_eq_getElem hj2, hv]
        have hG5s := hG5.seq
        walk_at "el"
        refine ⟨rfl, ?_⟩
        walk_at "el"
        refine n_ixA hG5s (atI_nat hgn) ?_
        walk_at "el"
        refine ite2 (fun h1 => ?_) (fun h1 => ?_)
        · have e : x.1 = h := by simpa using h1
          walk_at "el"
          refine ⟨_, hD4, by rw [List.length_map]; exact size1k (by omega), s4.mu hD, js ++ [(j : Int)], by rw [upd_same, List.map_append]; rfl, by rw [List.length_append]; show js.length + 1 ≤ j + 1; omega, ?_⟩
          intro z hz
          rcases List.mem_append.mp hz with q | q
          · exact hjs z q
          · cases List.mem_singleton.mp q
            have := hG.len
            exact ⟨by omega, by omega, x, by rw [Int.toNat_natCast]; exact hx, e⟩
        · walk_at "el"
          exact ⟨s4, js, hD4, by omega, hjs⟩
      · rintro H4 ⟨s4, js, hD4, hjl, hjs⟩
        have hb4 := hb3.same s4
        have hf4 := s4 _ _ hf3
        have nDb : D ≠ b := hb3.ne hD
        walk_at "el"
        refine ⟨by decide, fun z0 hz0 => ?_⟩
        have e4 := nw_of hz0
        refine n_neD (.lst (SqL.of (e4 _ _ _ hD4)) (dp_ints js)) (.lst (SqL.of upd_same) .nil) (shp_ints js) (shp_ints []) ?_
        rw [eqv_nil]
        walk_at "el"
        refine ite2 (fun h1 => ?_) (fun h1 => ?_)
        · have jne : 0 < js.length := by
            cases js with
            | nil => simp at h1
            | cons a r => simp
          walk_at "el"
          refine ⟨b, c, D, js.map V.int, rfl, hb4.same (e4 _), nDb, .inl (e4 _ _ _ hD4), by rw [List.length_map]; exact jne, by rw [List.length_map]; omega, fun x H5 hx hb5 k5 => ?_⟩
          obtain ⟨z, hzm, rfl⟩ := List.mem_map.mp hx
          obtain ⟨z0', z1, y, hy, ye⟩ := hjs z hzm
          obtain ⟨n, rfl⟩ : ∃ n : Nat, z = n := ⟨z.toNat, by omega⟩
          rw [Int.toNat_natCast] at hy
          have hf5 := k5 _ _ nfb.symm.symm (e4 _ _ _ hf4)
          have k5' : Kp b H H5 := (k3.trans (same_kp s4)).trans (Kp.into k5 (e4 _))
          walk_at "el"
          refine ⟨.inl ⟨rfl, _, SqL.of hf5⟩, ?_⟩
          walk_at "el"
          refine ⟨fd0, _, _, rfl, rfl, hf5, by rw [List.length_map]; exact size1k (by omega), ?_⟩
          have k6 : Kp b H (upd H5 fd0 (.lst (is.map V.int ++ [V.int n]))) := k5'.mut hfd
          have hG6 := gk k6
          have hn2 : n < gs.length := by have := hG.len; omega
          obtain ⟨u, x, hv, hx2, hu⟩ := hG6.at_ n gs[n] (List.getElem?_eq_getElem hn2)
          have hgn : gs[n]? = some (.ref u) := by rw [List.getElem?_eq_getElem hn2, hv]
          have exy : x = y := by rw [hy] at hx2; exact (Option.some.inj hx2).symm
          subst exy
          have hG6s := hG6.seq
          walk_at "el"
          refine n_ixA hG6s (atI_nat hgn) ?_
          walk_at "el"
          refine ⟨?_, k6, is ++ [(n : Int)], x.2.1, by rw [upd_same, List.map_append]; rfl, by rw [List.length_append]; show is.length + 1 ≤ i + 1; omega, ?_, ?_, _, _, _, rfl⟩
          · obtain ⟨q1, q2, q3, q4, w1, w2, r⟩ := hb5
            refine ⟨q1, q2, q3, q4, by rw [upd_ne nfb.symm]; exact w1, ?_, r⟩
            rw [upd_ne]
            · exact w2
            · intro z
              subst z
              obtain ⟨_, _, _, _, _, w3, _⟩ := hb
              rw [w3] at hfd
              cases hfd
          · rw [List.map_append]
            refine way_snoc.trans ?_
            rw [hw]
            exact (step_at hx2).trans (if_pos ye)
          · intro z hz'
            rcases List.mem_append.mp hz' with q | q
            · exact hz z q
            · cases List.mem_singleton.mp q
              exact ⟨z0', z1⟩
        · walk_at "el"
          exact ⟨hb4.same (e4 _), (k3.trans (same_kp s4)).trans (same_kp (e4 _)), is, h, e4 _ _ _ hf4, by omega, hw, hz, _, _, _, rfl⟩
    · rintro σ H3 ⟨hb3, k3, is, h, hf3, hl, hw, hz, v6, v7, v8, rfl⟩
      walk_at "el"
      refine ⟨fd0, _, rfl, .inl ⟨SqL.of hf3, fun l hl => ?_⟩⟩
      have e3 := nw_of hl
      walk_at "el"
      refine ⟨by show 2 ≤ sizeLine; decide, fun r hr => ?_⟩
      have e4 := nw_of hr
      exact k _ r l is h (hb3.same (fun x u h => e4 _ _ _ (e3 _ _ _ h))) (k3.trans (same_kp (fun x u h => e4 _ _ _ (e3 _ _ _ h)))) upd_same (e4 _ _ _ upd_same) hw (by omega) hz
end
end EL

/- part Y -/
namespace EL
open PySem PySem.Spec PyProof.Rows L2
open PySem.W (Frag)
abbrev s_made : Stmt := top 62
abbrev N_made : List Str := ["_law_events", "_law_witnesses", "_law_parts_here"]
theorem sc_made : FnScope N_made ["_law_events", "_law_witnesses", "_law_parts_here"] (defScope s_made) := ⟨rfl, rfl, rfl, by decide +kernel, rfl, by decide +kernel, by decide +kernel⟩
local macro_rules | `(tactic| walk_at "el1") => `(tactic| with_reducible first
  | refine a_sasg ?_ | refine a_sdrop ?_ | refine a_saugS ?_ | refine a_spar ?_ | refine a_seq ?_ | refine a_asg ?_ | refine a_drop ?_ | refine a_ret ?_ | refine a_if ?_ | refine a_next ?_
  | refine a_op ?_ | refine a_cons ?_ | refine a_nil ?_ | refine a_cb ?_ | refine a_call ?_ | refine a_c ?_ | refine a_gn ?_ | refine a_nx ?_ | refine a_rt ?_ | refine a_un ?_
  | refine a_test ?_ | refine a_B ?_ | refine a_bl ?_ | refine a_and ?_ | refine a_or ?_ | refine a_not ?_ | refine a_andV ?_ | refine a_orV ?_ | refine a_notV ?_ | refine a_ifx ?_ | refine a_chain ?_
  | refine a_nT ?_ | refine a_nF ?_ | refine a_fld ?_ | refine a_getF ?_ | refine a_T ?_ | refine a_F ?_ | refine a_tup ?_ | refine a_lst ?_ | refine a_sub ?_ | refine a_augS ?_ | refine a_two ?_ | refine a_I0 ?_ | refine a_U ?_ | refine n_add ?_ | refine n_int ?_ | refine n_ib ?_ | refine a_ip ?_ | refine a_rng1 ?_ | refine a_rng2 ?_ | refine a_bm ?_ | refine a_abs ?_ | refine a_pairs ?_ | refine a_pairs0 ?_ | refine a_bk ?_ | refine a_prp ?_ | refine a_lc ?_ | refine a_yes ?_ | refine a_sl ?_ | refine a_nop ?_ | refine a_prt ?_ | refine a_ex1 ?_ | refine a_for ?_ | refine a_sfor ?_ | refine a_iE1 ?_ | refine a_iEs ?_ | refine a_iEz ?_ | refine a_iEnum ?_ | refine a_iTup ?_ | refine a_iList ?_ | refine a_gcons ?_ | refine a_gnil ?_ | refine a_revT ?_ | refine a_spar3 ?_ | refine a_par3 ?_ | refine a_three ?_)
local macro_rules | `(tactic| walk_at "el2") => `(tactic| first
  | (refine a_var (by rfl) ?_)
  | (refine n_ixL (SqL.of (by assumption)) (by rfl) ?_) | (refine n_ixT (SqT.of (by assumption)) (by rfl) ?_) | (refine n_eq (by rfl) ?_) | (refine n_ne (by rfl) ?_)
  | (refine n_isN ?_) | (refine n_notN ?_) | (refine n_isB ?_) | (refine n_notB ?_) | (refine n_isBI ?_) | (refine n_notBI ?_) | (refine n_len (.inl (SqL.of (by assumption))) ?_) | (refine n_len (.inr (SqT.of (by assumption))) ?_)
  | (refine a_getL (SqL.of (by assumption)) (by rfl) ?_)
  | (refine n_isInt (by assumption) ?_) | (refine n_isBool (by assumption) ?_) | (refine n_isStr (by assumption) ?_) | (refine n_isTup (by assumption) ?_) | (refine n_isLst (by assumption) ?_))
local macro_rules | `(tactic| walk_at "el") => `(tactic| repeat (first | walk_at "el1" | walk_at "el2"))

/-! ### a book and a law's four lists, as numbers and words -/
theorem upd_at {H : Hp} {p : Addr} (_ : H p = none) (o : HO) : upd H p o p = some o := upd_same
theorem Bag.neT {H : Hp} {b c p : Addr} {xs : List V} (h : Bag H b c) (hp : H p = some (.tup xs)) : p ≠ b := fun z => by
  obtain ⟨i, j, k, cs, h1, _⟩ := h
  subst z
  rw [h1] at hp
  cases hp
theorem Bag.neL {H : Hp} {b c : Addr} {xs : List V} (h : Bag H b c) (hp : H b = some (.lst xs)) : xs.length ≠ 4 → False := fun z => by
  obtain ⟨i, j, k, cs, h1, _⟩ := h
  rw [h1] at hp
  cases hp
  exact z rfl
theorem SqT.kpB {K : Frag} {H H' : Hp} {a b c : Addr} {xs : List V} (h : SqT K H a xs) (hb : Bag H b c) (k : Kp b H H') : SqT K H' a xs := by
  obtain ⟨_, _, _, _, q, _⟩ := hb
  rcases h with (h | ⟨o, h⟩) | h
  · exact .inl (.inl (k _ _ (fun z => by subst z; rw [q] at h; cases h) h))
  · exact .inl (.inr ⟨_, k _ _ (fun z => by subst z; rw [q] at h; cases h) h⟩)
  · exact .inr h
structure RowsAre {α : Type} (enc : α → List V) (H : Hp) (xs : List V) (D : List α) : Prop where
  len : xs.length = D.length
  at_ : ∀ (i : Nat) (v : V), xs[i]? = some v → ∃ (q : Addr) (x : α), v = .ref q ∧ D[i]? = some x ∧ H q = some (.tup (enc x))
section
variable {α : Type} {enc : α → List V} {H H' : Hp} {xs : List V} {D : List α} {b c : Addr}
theorem RowsAre.same (h : RowsAre enc H xs D) (s : Same H H') : RowsAre enc H' xs D := ⟨h.len, fun i v hv => by
  obtain ⟨q, x, e, hx, hq⟩ := h.at_ i v hv
  exact ⟨q, x, e, hx, s _ _ hq⟩⟩
theorem RowsAre.kp (h : RowsAre enc H xs D) (hb : Bag H b c) (k : Kp b H H') : RowsAre enc H' xs D := ⟨h.len, fun i v hv => by
  obtain ⟨q, x, e, hx, hq⟩ := h.at_ i v hv
  exact ⟨q, x, e, hx, k _ _ (hb.neT hq) hq⟩⟩
theorem RowsAre.get (h : RowsAre enc H xs D) {i : Nat} {x : α} (e : D[i]? = some x) : ∃ q, xs[i]? = some (.ref q) ∧ H q = some (.tup (enc x)) := by
  have l : i < xs.length := by rw [h.len]; exact (List.getElem?_eq_some_iff.mp e).1
  obtain ⟨q, y, e1, e2, e3⟩ := h.at_ i _ (List.getElem?_eq_getElem l)
  rw [e] at e2
  cases e2
  exact ⟨q, by rw [List.getElem?_eq_getElem l, e1], e3⟩
end
abbrev encT (x : Int × Int × Int) : List V := [.int x.1, .int x.2.1, .int x.2.2]
abbrev encS (x : Int × Str × Int) : List V := [.int x.1, .str x.2.1, .int x.2.2]
abbrev encL (x : Int × Str × Int × Str) : List V := [.int x.1, .str x.2.1, .int x.2.2.1, .str x.2.2.2]
theorem RowsAre.gaps {K : Frag} {H : Hp} {g : Addr} {gs : List V} {G : List (Int × Int × Int)} (h : RowsAre encT H gs G) (s : SqA K H g gs) : GapsAre K H g gs G := ⟨s, h.len, h.at_⟩
/-- what a book says -/
structure PD where
  T : List (Int × Int × Int)
  G : List (Int × Int × Int)
  S : List (Int × Str × Int)
  L : List (Int × Str × Int × Str)
def NumOk (x : Int) : Prop := -1000000000000000 ≤ x ∧ x ≤ 1000000000000000
structure PD.Ok (D : PD) (ev wi : Int) : Prop where
  t : ∀ x ∈ D.T, (0 ≤ x.1 ∧ x.1 < wi) ∧ (0 ≤ x.2.1 ∧ x.2.1 < ev) ∧ NumOk x.2.2
  g : ∀ x ∈ D.G, (0 ≤ x.1 ∧ x.1 < ev) ∧ (0 ≤ x.2.1 ∧ x.2.1 < ev) ∧ NumOk x.2.2
  s : ∀ x ∈ D.S, (0 ≤ x.1 ∧ x.1 < ev) ∧ (x.2.1 = "least" ∨ x.2.1 = "most") ∧ NumOk x.2.2
  l : ∀ x ∈ D.L, (0 ≤ x.1 ∧ x.1 < wi) ∧ (x.2.1 = "early" ∨ x.2.1 = "late") ∧ (0 ≤ x.2.2.1 ∧ x.2.2.1 < wi) ∧ (x.2.2.2 = "early" ∨ x.2.2.2 = "late")
theorem num_ok {x : V} (h : numB x = true) : ∃ n, x = .int n ∧ NumOk n := by
  cases x with
  | int n =>
    have q : (decide (-1000000000000000 ≤ n) && decide (n ≤ 1000000000000000)) = true := h
    rw [Bool.and_eq_true, decide_eq_true_iff, decide_eq_true_iff] at q
    exact ⟨n, rfl, q⟩
  | _ => cases h
theorem kind_ok {x : V} (h : kindB x = true) : ∃ s, x = .str s ∧ (s = "early" ∨ s = "late") := by
  cases x with
  | str s =>
    have q : (decide (s = "early") || decide (s = "late")) = true := h
    rw [Bool.or_eq_true, decide_eq_true_iff, decide_eq_true_iff] at q
    exact ⟨s, rfl, q⟩
  | _ => cases h
theorem side_ok {x : V} (h : sideB x = true) : ∃ s, x = .str s ∧ (s = "least" ∨ s = "most") := by
  cases x with
  | str s =>
    have q : (decide (s = "least") || decide (s = "most")) = true := h
    rw [Bool.or_eq_true, decide_eq_true_iff, decide_eq_true_iff] at q
    exact ⟨s, rfl, q⟩
  | _ => cases h
theorem item_tel_inv {H : Hp} {x : V} {ev wi : Int} (h : ItemOk .tel H x ev wi) : ∃ (q : Addr) (y : Int × Int × Int), x = .ref q ∧ H q = some (.tup (encT y)) ∧ (0 ≤ y.1 ∧ y.1 < wi) ∧ (0 ≤ y.2.1 ∧ y.2.1 < ev) ∧ NumOk y.2.2 := by
  obtain ⟨q, xs, rfl, hq, hl, hs⟩ := h
  match xs, hl with
  | [x0, x1, x2], _ =>
    have h0 : belowB x0 wi = true := (st_w (x := x0)).symm.trans (hs 0 (by decide) "witness" x0 rfl rfl)
    have h1 : belowB x1 ev = true := (st_e (x := x1)).symm.trans (hs 1 (by decide) "event" x1 rfl rfl)
    have h2 : numB x2 = true := (st_n (x := x2)).symm.trans (hs 2 (by decide) "number" x2 rfl rfl)
    obtain ⟨a, rfl, a0⟩ := below_int h0
    obtain ⟨e, rfl, e0⟩ := below_int h1
    obtain ⟨n, rfl, n0⟩ := num_ok h2
    exact ⟨q, (a, e, n), rfl, hq, a0, e0, n0⟩
theorem item_gap_inv2 {H : Hp} {x : V} {ev wi : Int} (h : ItemOk .gap H x ev wi) : ∃ (q : Addr) (y : Int × Int × Int), x = .ref q ∧ H q = some (.tup (encT y)) ∧ (0 ≤ y.1 ∧ y.1 < ev) ∧ (0 ≤ y.2.1 ∧ y.2.1 < ev) ∧ NumOk y.2.2 := by
  obtain ⟨q, xs, rfl, hq, hl, hs⟩ := id h
  obtain ⟨q2, a, e, n, e1, hq2, a0, a1, e0, e1', _⟩ := item_gap_inv h
  cases e1
  rw [hq] at hq2
  cases hq2
  have h2 : numB (.int n) = true := (st_n (x := .int n)).symm.trans (hs 2 (by decide) "number" (.int n) rfl rfl)
  obtain ⟨n', en, n0⟩ := num_ok h2
  cases en
  exact ⟨q, (a, e, n), rfl, hq, ⟨a0, a1⟩, ⟨e0, e1'⟩, n0⟩
theorem item_sur_inv {H : Hp} {x : V} {ev wi : Int} (h : ItemOk .sur H x ev wi) : ∃ (q : Addr) (y : Int × Str × Int), x = .ref q ∧ H q = some (.tup (encS y)) ∧ (0 ≤ y.1 ∧ y.1 < ev) ∧ (y.2.1 = "least" ∨ y.2.1 = "most") ∧ NumOk y.2.2 := by
  obtain ⟨q, xs, rfl, hq, hl, hs⟩ := h
  match xs, hl with
  | [x0, x1, x2], _ =>
    have h0 : belowB x0 ev = true := (st_e (x := x0)).symm.trans (hs 0 (by decide) "event" x0 rfl rfl)
    have h1 : sideB x1 = true := (st_s (x := x1)).symm.trans (hs 1 (by decide) "side" x1 rfl rfl)
    have h2 : numB x2 = true := (st_n (x := x2)).symm.trans (hs 2 (by decide) "number" x2 rfl rfl)
    obtain ⟨a, rfl, a0⟩ := below_int h0
    obtain ⟨e, rfl, e0⟩ := side_ok h1
    obtain ⟨n, rfl, n0⟩ := num_ok h2
    exact ⟨q, (a, e, n), rfl, hq, a0, e0, n0⟩
theorem item_cla_inv {H : Hp} {x : V} {ev wi : Int} (h : ItemOk .cla H x ev wi) : ∃ (q : Addr) (y : Int × Str × Int × Str), x = .ref q ∧ H q = some (.tup (encL y)) ∧ (0 ≤ y.1 ∧ y.1 < wi) ∧ (y.2.1 = "early" ∨ y.2.1 = "late") ∧ (0 ≤ y.2.2.1 ∧ y.2.2.1 < wi) ∧ (y.2.2.2 = "early" ∨ y.2.2.2 = "late") := by
  obtain ⟨q, xs, rfl, hq, hl, hs⟩ := h
  match xs, hl with
  | [x0, x1, x2, x3], _ =>
    have h0 : belowB x0 wi = true := (st_w (x := x0)).symm.trans (hs 0 (by decide) "witness" x0 rfl rfl)
    have h1 : kindB x1 = true := (st_k (x := x1)).symm.trans (hs 1 (by decide) "kind" x1 rfl rfl)
    have h2 : belowB x2 wi = true := (st_w (x := x2)).symm.trans (hs 2 (by decide) "witness" x2 rfl rfl)
    have h3 : kindB x3 = true := (st_k (x := x3)).symm.trans (hs 3 (by decide) "kind" x3 rfl rfl)
    obtain ⟨a, rfl, a0⟩ := below_int h0
    obtain ⟨e, rfl, e0⟩ := kind_ok h1
    obtain ⟨v, rfl, v0⟩ := below_int h2
    obtain ⟨n, rfl, n0⟩ := kind_ok h3
    exact ⟨q, (a, e, v, n), rfl, hq, a0, e0, v0, n0⟩
theorem rows_of {α : Type} {enc : α → List V} {P : α → Prop} {H : Hp} : ∀ (xs : List V), (∀ x ∈ xs, ∃ (q : Addr) (y : α), x = .ref q ∧ H q = some (.tup (enc y)) ∧ P y) → ∃ D : List α, RowsAre enc H xs D ∧ ∀ y ∈ D, P y
  | [], _ => ⟨[], ⟨rfl, fun i v h => by cases h⟩, fun _ h => nomatch h⟩
  | x :: r, h => by
    obtain ⟨D, R, p⟩ := rows_of r fun x hx => h x (List.mem_cons_of_mem _ hx)
    obtain ⟨q, y, rfl, hq, py⟩ := h x (List.mem_cons_self ..)
    refine ⟨y :: D, ⟨by rw [List.length_cons, List.length_cons, R.len], fun i v hv => ?_⟩, fun z hz => (List.mem_cons.mp hz).elim (fun e => e ▸ py) (p z)⟩
    cases i with
    | zero => cases hv; exact ⟨q, y, rfl, rfl, hq⟩
    | succ i => exact R.at_ i v hv
/-- addresses and sizes of a book -/
structure BA where
  o : Addr
  dx : Addr
  t : Addr
  g : Addr
  s : Addr
  q : Addr
  ev : Int
  wi : Int
  xs : Pt → List V
/-- the rows of four parts -/
structure PR (H : Hp) (xs : Pt → List V) (D : PD) : Prop where
  t : RowsAre encT H (xs .tel) D.T
  g : RowsAre encT H (xs .gap) D.G
  s : RowsAre encS H (xs .sur) D.S
  l : RowsAre encL H (xs .cla) D.L
theorem PR.same {H H' : Hp} {xs : Pt → List V} {D : PD} (h : PR H xs D) (s : Same H H') : PR H' xs D := ⟨h.t.same s, h.g.same s, h.s.same s, h.l.same s⟩
theorem PR.kp {H H' : Hp} {xs : Pt → List V} {D : PD} {b c : Addr} (h : PR H xs D) (hb : Bag H b c) (k : Kp b H H') : PR H' xs D := ⟨h.t.kp hb k, h.g.kp hb k, h.s.kp hb k, h.l.kp hb k⟩
theorem pr_of {H : Hp} {xs : Pt → List V} {ev wi : Int} (h : ∀ t, ∀ x ∈ xs t, ItemOk t H x ev wi) : ∃ D : PD, PR H xs D ∧ D.Ok ev wi := by
  obtain ⟨T, rT, bT⟩ := rows_of (xs .tel) fun x hx => item_tel_inv (h .tel x hx)
  obtain ⟨G, rG, bG⟩ := rows_of (xs .gap) fun x hx => item_gap_inv2 (h .gap x hx)
  obtain ⟨S, rS, bS⟩ := rows_of (xs .sur) fun x hx => item_sur_inv (h .sur x hx)
  obtain ⟨L, rL, bL⟩ := rows_of (xs .cla) fun x hx => item_cla_inv (h .cla x hx)
  exact ⟨⟨T, G, S, L⟩, ⟨rT, rG, rS, rL⟩, ⟨bT, bG, bS, bL⟩⟩
/-- a book in the heap -/
structure BB (K : Frag) (C : Addr) (H : Hp) (A : BA) (D : PD) : Prop where
  bk : H A.o = some (bookO C A.dx A.ev A.wi A.t A.g A.s A.q)
  tT : SqT K H A.t (A.xs .tel)
  tG : SqT K H A.g (A.xs .gap)
  tS : SqT K H A.s (A.xs .sur)
  tL : SqT K H A.q (A.xs .cla)
  r : PR H A.xs D
theorem BB.same {K : Frag} {C : Addr} {H H' : Hp} {A : BA} {D : PD} (h : BB K C H A D) (s : Same H H') : BB K C H' A D := ⟨s _ _ h.bk, h.tT.same s, h.tG.same s, h.tS.same s, h.tL.same s, h.r.same s⟩
theorem BB.kp {K : Frag} {C : Addr} {H H' : Hp} {A : BA} {D : PD} {b c : Addr} (h : BB K C H A D) (hb : Bag H b c) (k : Kp b H H') : BB K C H' A D := by
  have nb : A.o ≠ b := fun z => by
    obtain ⟨_, _, _, _, w, _⟩ := hb
    have := h.bk
    rw [z, w] at this
    cases this
  exact ⟨k _ _ nb h.bk, SqT.kpB h.tT hb k, SqT.kpB h.tG hb k, SqT.kpB h.tS hb k, SqT.kpB h.tL hb k, h.r.kp hb k⟩
/-- a law's four lists in a list -/
structure LP (H : Hp) (b p : Addr) (l : Pt → Addr) (xs : Pt → List V) (D : PD) : Prop where
  hp : H p = some (.lst [.ref (l .tel), .ref (l .gap), .ref (l .sur), .ref (l .cla)])
  np : p ≠ b
  hl : ∀ u, H (l u) = some (.lst (xs u))
  nl : ∀ u, l u ≠ b
  r : PR H xs D
theorem LP.same {H H' : Hp} {b p : Addr} {l : Pt → Addr} {xs : Pt → List V} {D : PD} (h : LP H b p l xs D) (s : Same H H') : LP H' b p l xs D := ⟨s _ _ h.hp, h.np, fun u => s _ _ (h.hl u), h.nl, h.r.same s⟩
theorem LP.kp {H H' : Hp} {b c p : Addr} {l : Pt → Addr} {xs : Pt → List V} {D : PD} (h : LP H b p l xs D) (hb : Bag H b c) (k : Kp b H H') : LP H' b p l xs D := ⟨k _ _ h.np h.hp, h.np, fun u => k _ _ (h.nl u) (h.hl u), h.nl, h.r.kp hb k⟩
/-- both, and the bag -/
structure WW (K : Frag) (C b c : Addr) (H : Hp) (A : BA) (p : Addr) (l : Pt → Addr) (D : PD) : Prop where
  bag : Bag H b c
  bb : BB K C H A D
  lp : LP H b p l A.xs D
section
variable {K : Frag} {C b c : Addr} {H H' : Hp} {A : BA} {p : Addr} {l : Pt → Addr} {D : PD}
theorem WW.kp (h : WW K C b c H A p l D) (hb : Bag H' b c) (k : Kp b H H') : WW K C b c H' A p l D := ⟨hb, h.bb.kp h.bag k, h.lp.kp h.bag k⟩
theorem WW.same (h : WW K C b c H A p l D) (s : Same H H') : WW K C b c H' A p l D := ⟨h.bag.same s, h.bb.same s, h.lp.same s⟩
end
/-! ### a law makes a book of its lists -/
def spMade (K : Frag) (C : Addr) : Sp := fun vs H Q _ => ∃ (ev wi : Int) (p : Addr) (l : Pt → Addr) (xs : Pt → List V), vs = [.int ev, .int wi, .ref p] ∧ 0 ≤ ev ∧ ev ≤ 8 ∧ 0 ≤ wi ∧ wi ≤ 8 ∧ H p = some (.lst [.ref (l .tel), .ref (l .gap), .ref (l .sur), .ref (l .cla)]) ∧ (∀ u, PartOk K u H (l u) (xs u) ev wi) ∧
  ∀ H' o dx t g s q, Same H H' → H' o = some (bookO C dx ev wi t g s q) → SqT K H' t (xs .tel) → SqT K H' g (xs .gap) → SqT K H' s (xs .sur) → SqT K H' q (xs .cla) → Q (.ref o) H'
section
variable {P : Program} {w : World} {K : Frag} {mg : Str → Option Value} {base : Heap} {f : Addr} {fd : FuncData} {C : Addr} {Dk : BookD}
theorem ok_made (F : Fun K "_law_made" "_law_made" s_made f fd) (T : Tb mg) (c_Book : BookG P w K mg base C Dk) : FnOk P w K mg base CX0 9 f fd ["_law_events", "_law_witnesses", "_law_parts_here"] (spMade K C) := by
  refine F.ok sc_made (fun vs H Q E h => ?_) (fun cdv A outer s H vs Q E hr h => ?_)
  · obtain ⟨_, _, _, _, _, rfl, _⟩ := h
    rfl
  · obtain ⟨ev, wi, p, l, xs, rfl, e0, e8, w0, w8, hp, ok, k⟩ := h
    refine ⟨_, (pss_one (ps_ret (pe_bk6 c_Book (hr.mono (by decide)) rfl (pa_cons (pv 0) (pa_cons (pv 1) (pa_cons (pe_ix ix_seq (pv 2) pe_int (fun _ _ => rfl)) (pa_cons (pe_ix ix_seq (pv 2) pe_int (fun _ _ => rfl)) (pa_cons (pe_ix ix_seq (pv 2) pe_int (fun _ _ => rfl)) (pa_cons (pe_ix ix_seq (pv 2) pe_int (fun _ _ => rfl)) pa_nil))))))))), ?_⟩
    walk_at "el"
    refine n_bk6 e0 e8 w0 w8 (ok .tel) (ok .gap) (ok .sur) (ok .cla) fun o dx t g s q H' s' ho ho' h1 h2 h3 h4 => ?_
    exact k H' o dx t g s q s' ho' h1 h2 h3 h4
end
end EL

/- part J -/
namespace EL
open PySem PySem.Spec PyProof.Rows L2
open PySem.W (Frag)
abbrev s_event_of : Stmt := top 26
abbrev N_event_of : List Str := ["book", "source", "word", "index"]
theorem sc_event_of : FnScope N_event_of ["book", "source"] (defScope s_event_of) := ⟨rfl, rfl, rfl, by decide +kernel, rfl, by decide +kernel, by decide +kernel⟩
abbrev s_number_of : Stmt := top 27
abbrev N_number_of : List Str := ["book", "source", "word", "index"]
theorem sc_number_of : FnScope N_number_of ["book", "source"] (defScope s_number_of) := ⟨rfl, rfl, rfl, by decide +kernel, rfl, by decide +kernel, by decide +kernel⟩
abbrev s_witness_of : Stmt := top 28
abbrev N_witness_of : List Str := ["book", "source", "word", "index"]
theorem sc_witness_of : FnScope N_witness_of ["book", "source"] (defScope s_witness_of) := ⟨rfl, rfl, rfl, by decide +kernel, rfl, by decide +kernel, by decide +kernel⟩
abbrev s__is_source : Stmt := top 29
abbrev N__is_source : List Str := ["book", "side", "thing"]
theorem sc__is_source : FnScope N__is_source ["book", "side", "thing"] (defScope s__is_source) := ⟨rfl, rfl, rfl, by decide +kernel, rfl, by decide +kernel, by decide +kernel⟩
abbrev s_sum_of : Stmt := top 24
abbrev N_sum_of : List Str := ["book", "indexes", "index"]
theorem sc_sum_of : FnScope N_sum_of ["book", "indexes"] (defScope s_sum_of) := ⟨rfl, rfl, rfl, by decide +kernel, rfl, by decide +kernel, by decide +kernel⟩
abbrev s_excess_of : Stmt := top 31
abbrev N_excess_of : List Str := ["book", "path", "start", "indexes", "end"]
theorem sc_excess_of : FnScope N_excess_of ["book", "path"] (defScope s_excess_of) := ⟨rfl, rfl, rfl, by decide +kernel, rfl, by decide +kernel, by decide +kernel⟩
abbrev s_is_link : Stmt := top 30
abbrev N_is_link : List Str := ["book", "thing", "start", "indexes", "end"]
theorem sc_is_link : FnScope N_is_link ["book", "thing"] (defScope s_is_link) := ⟨rfl, rfl, rfl, by decide +kernel, rfl, by decide +kernel, by decide +kernel⟩
local macro_rules | `(tactic| walk_at "el1") => `(tactic| with_reducible first
  | refine a_sasg ?_ | refine a_sdrop ?_ | refine a_saugS ?_ | refine a_spar ?_ | refine a_seq ?_ | refine a_asg ?_ | refine a_drop ?_ | refine a_ret ?_ | refine a_if ?_ | refine a_next ?_
  | refine a_op ?_ | refine a_cons ?_ | refine a_nil ?_ | refine a_cb ?_ | refine a_call ?_ | refine a_c ?_ | refine a_gn ?_ | refine a_nx ?_ | refine a_rt ?_ | refine a_un ?_
  | refine a_test ?_ | refine a_B ?_ | refine a_bl ?_ | refine a_and ?_ | refine a_or ?_ | refine a_not ?_ | refine a_andV ?_ | refine a_orV ?_ | refine a_notV ?_ | refine a_ifx ?_ | refine a_chain ?_
  | refine a_nT ?_ | refine a_nF ?_ | refine a_fld ?_ | refine a_getF ?_ | refine a_T ?_ | refine a_F ?_ | refine a_tup ?_ | refine a_lst ?_ | refine a_sub ?_ | refine a_augS ?_ | refine a_two ?_ | refine a_I0 ?_ | refine a_U ?_ | refine n_add ?_ | refine n_int ?_ | refine n_ib ?_ | refine a_ip ?_ | refine a_rng1 ?_ | refine a_rng2 ?_ | refine a_bm ?_ | refine a_abs ?_ | refine a_pairs ?_ | refine a_pairs0 ?_ | refine a_bk ?_ | refine a_prp ?_ | refine a_lc ?_ | refine a_yes ?_ | refine a_sl ?_ | refine a_nop ?_ | refine a_prt ?_ | refine a_ex1 ?_ | refine a_for ?_ | refine a_sfor ?_ | refine a_iE1 ?_ | refine a_iEs ?_ | refine a_iEz ?_ | refine a_iEnum ?_ | refine a_iTup ?_ | refine a_iList ?_ | refine a_gcons ?_ | refine a_gnil ?_ | refine a_revT ?_ | refine a_spar3 ?_ | refine a_par3 ?_ | refine a_three ?_)
local macro_rules | `(tactic| walk_at "el2") => `(tactic| first
  | (refine a_var (by rfl) ?_)
  | (refine n_ixL (SqL.of (by assumption)) (by rfl) ?_) | (refine n_ixT (SqT.of (by assumption)) (by rfl) ?_) | (refine n_eq (by rfl) ?_) | (refine n_ne (by rfl) ?_)
  | (refine n_isN ?_) | (refine n_notN ?_) | (refine n_isB ?_) | (refine n_notB ?_) | (refine n_isBI ?_) | (refine n_notBI ?_) | (refine n_len (.inl (SqL.of (by assumption))) ?_) | (refine n_len (.inr (SqT.of (by assumption))) ?_)
  | (refine a_getL (SqL.of (by assumption)) (by rfl) ?_)
  | (refine n_isInt (by assumption) ?_) | (refine n_isBool (by assumption) ?_) | (refine n_isStr (by assumption) ?_) | (refine n_isTup (by assumption) ?_) | (refine n_isLst (by assumption) ?_))
local macro_rules | `(tactic| walk_at "el") => `(tactic| repeat (first | walk_at "el1" | walk_at "el2"))

/-! ### sources and links -/
structure Src where
  ev : Int
  num : Int
  wit : Option Int
  fl : Bool
  ce : Bool
def atZ {α : Type} (xs : List α) (i : Int) : Option α := if 0 ≤ i then xs[i.toNat]? else none
theorem atZ_nat {α : Type} {xs : List α} {n : Nat} : atZ xs (n : Int) = xs[n]? := by
  unfold atZ
  rw [if_pos (by omega), Int.toNat_natCast]
theorem atZ_some {α : Type} {xs : List α} {i : Int} {x : α} (h : atZ xs i = some x) : ∃ n : Nat, i = n ∧ xs[n]? = some x := by
  unfold atZ at h
  by_cases e : 0 ≤ i
  · rw [if_pos e] at h
    exact ⟨i.toNat, by omega, h⟩
  · rw [if_neg e] at h; cases h
def srcD (D : PD) (wd : Str) (i : Int) : Option Src :=
  if wd = "told" then (atZ D.T i).map fun (x : Int × Int × Int) => (⟨x.2.1, x.2.2, some x.1, true, true⟩ : Src)
  else if wd = "sure" then (atZ D.S i).map fun (x : Int × Str × Int) => (⟨x.1, x.2.2, none, decide (x.2.1 = ("least" : Str)), decide (x.2.1 = ("most" : Str))⟩ : Src)
  else none
theorem src_cases {D : PD} {wd : Str} {i : Int} {r : Src} (h : srcD D wd i = some r) :
    (wd = "told" ∧ ∃ (n : Nat) (x : Int × Int × Int), i = n ∧ D.T[n]? = some x ∧ r = ⟨x.2.1, x.2.2, some x.1, true, true⟩) ∨
    (wd = "sure" ∧ ∃ (n : Nat) (x : Int × Str × Int), i = n ∧ D.S[n]? = some x ∧ r = ⟨x.1, x.2.2, none, decide (x.2.1 = "least"), decide (x.2.1 = "most")⟩) := by
  unfold srcD at h
  by_cases e : wd = "told"
  · rw [if_pos e] at h
    obtain ⟨x, hx, rfl⟩ := Option.map_eq_some_iff.mp h
    obtain ⟨n, rfl, hn⟩ := atZ_some hx
    exact .inl ⟨e, n, x, rfl, hn, rfl⟩
  · rw [if_neg e] at h
    by_cases e2 : wd = "sure"
    · rw [if_pos e2] at h
      obtain ⟨x, hx, rfl⟩ := Option.map_eq_some_iff.mp h
      obtain ⟨n, rfl, hn⟩ := atZ_some hx
      exact .inr ⟨e2, n, x, rfl, hn, rfl⟩
    · rw [if_neg e2] at h; cases h
def itemD (D : PD) : PyData → Option Src
  | .tuple [.str wd, .int i] => srcD D wd i
  | _ => none
theorem itemD_inv {D : PD} {d : PyData} {r : Src} (h : itemD D d = some r) : ∃ wd i, d = .tuple [.str wd, .int i] ∧ srcD D wd i = some r := by
  unfold itemD at h
  split at h
  · exact ⟨_, _, rfl, h⟩
  · cases h
theorem Tk.two {H : Hp} {a : Addr} {d : PyData} {y z : V} (t : Tk H (.ref a) d) (h : H a = some (.tup [y, z])) : ∃ e f, d = .tuple [e, f] ∧ Tk H y e ∧ Tk H z f := by
  obtain ⟨ds, rfl, ta⟩ := t.el h
  cases ta with
  | cons h1 t1 =>
    cases t1 with
    | cons h2 t2 =>
      cases t2
      exact ⟨_, _, rfl, h1, h2⟩
theorem Tk.three {H : Hp} {a : Addr} {d : PyData} {x y z : V} (t : Tk H (.ref a) d) (h : H a = some (.tup [x, y, z])) : ∃ e f g, d = .tuple [e, f, g] ∧ Tk H x e ∧ Tk H y f ∧ Tk H z g := by
  obtain ⟨ds, rfl, ta⟩ := t.el h
  cases ta with
  | cons h1 t1 =>
    cases t1 with
    | cons h2 t2 =>
      cases t2 with
      | cons h3 t3 =>
        cases t3
        exact ⟨_, _, _, rfl, h1, h2, h3⟩
theorem Tk.str_ {H : Hp} {y : V} {s : Str} (t : Tk H y (.str s)) : y = .str s := by cases t; rfl
theorem Tk.int_ {H : Hp} {y : V} {i : Int} (t : Tk H y (.int i)) : y = .int i := by cases t; rfl
theorem Tk.strD {H : Hp} {d : PyData} {s : Str} (t : Tk H (.str s) d) : d = .str s := by cases t; rfl
theorem Tk.intD {H : Hp} {d : PyData} {i : Int} (t : Tk H (.int i) d) : d = .int i := by cases t; rfl
theorem Tk.tupD {H : Hp} {y : V} {ds : List PyData} (t : Tk H y (.tuple ds)) : ∃ a xs, y = .ref a ∧ H a = some (.tup xs) ∧ TkAll H xs ds := by
  cases t with
  | tup h t => exact ⟨_, _, rfl, h, t⟩
theorem Tk.src {H : Hp} {x : V} {wd : Str} {i : Int} (t : Tk H x (.tuple [.str wd, .int i])) : ∃ a, x = .ref a ∧ H a = some (.tup [.str wd, .int i]) := by
  obtain ⟨a, xs, rfl, h, ta⟩ := t.tupD
  cases ta with
  | cons h1 t1 =>
    cases t1 with
    | cons h2 t2 =>
      cases t2
      rw [h1.str_, h2.int_] at h
      exact ⟨a, rfl, h⟩
/-! ways by what they are -/
def toV : PyData → V | .int i => .int i | _ => .non
def wayB (G : List (Int × Int × Int)) (a b : Int) : PyData → Bool
  | .tuple ds => decide (wayTo G a (ds.map toV) = some b)
  | _ => false
def gapN (G : List (Int × Int × Int)) : V → Int | .int i => ((atZ G i).map fun x => x.2.2).getD 0 | _ => 0
def sumV (G : List (Int × Int × Int)) (xs : List V) : Int := (xs.map (gapN G)).sum
def sumW (G : List (Int × Int × Int)) : PyData → Int | .tuple ds => sumV G (ds.map toV) | _ => 0
theorem step_toV {H : Hp} {G : List (Int × Int × Int)} {h : Int} {v : V} {d : PyData} (t : Tk H v d) : stepW G h (toV d) = stepW G h v := by cases t <;> rfl
theorem gap_toV {H : Hp} {G : List (Int × Int × Int)} {v : V} {d : PyData} (t : Tk H v d) : gapN G (toV d) = gapN G v := by cases t <;> rfl
theorem way_toV {H : Hp} {G : List (Int × Int × Int)} : ∀ {xs : List V} {ds : List PyData} (o : Option Int), TkAll H xs ds → (ds.map toV).foldl (fun o v => o.bind fun h => stepW G h v) o = xs.foldl (fun o v => o.bind fun h => stepW G h v) o
  | _, _, o, .nil => rfl
  | v :: vs, d :: ds, o, .cons h t => by
    rw [List.map_cons, List.foldl_cons, List.foldl_cons]
    have e : (o.bind fun k => stepW G k (toV d)) = (o.bind fun k => stepW G k v) := by
      congr 1
      funext k
      exact step_toV h
    rw [e]
    exact way_toV _ t
theorem sum_toV {H : Hp} {G : List (Int × Int × Int)} : ∀ {xs : List V} {ds : List PyData}, TkAll H xs ds → sumV G (ds.map toV) = sumV G xs
  | _, _, .nil => rfl
  | _, _, .cons h t => by
    unfold sumV
    rw [List.map_cons, List.map_cons, List.map_cons, List.sum_cons, List.sum_cons, gap_toV h]
    have q := sum_toV (G := G) t
    unfold sumV at q
    rw [q]
theorem isWay_tk {H : Hp} {G : List (Int × Int × Int)} {a b : Int} {x : V} {d : PyData} (t : Tk H x d) : isWay H G a b x ↔ wayB G a b d = true := by
  constructor
  · rintro ⟨q, xs, rfl, hq, hw⟩
    obtain ⟨ds, rfl, ta⟩ := t.el hq
    show decide _ = true
    rw [decide_eq_true_iff]
    exact (way_toV (some a) ta).trans hw
  · intro h
    cases d with
    | tuple ds =>
      obtain ⟨q, xs, rfl, hq, ta⟩ := t.tupD
      refine ⟨q, xs, rfl, hq, ?_⟩
      have w : wayTo G a (ds.map toV) = some b := of_decide_eq_true h
      exact (way_toV (some a) ta).symm.trans w
    | _ => cases h
theorem way_ints {G : List (Int × Int × Int)} : ∀ (xs : List V) (a b : Int), wayTo G a xs = some b → ∀ v ∈ xs, ∃ n : Nat, v = .int n ∧ n < G.length
  | [], _, _, _, _, h => nomatch h
  | y :: r, a, b, h, v, hv => by
    have h' : r.foldl (fun o v => o.bind fun h => stepW G h v) (stepW G a y) = some b := h
    cases e : stepW G a y with
    | none => rw [e, way_lost] at h'; cases h'
    | some c =>
      rw [e] at h'
      rcases List.mem_cons.mp hv with rfl | hv
      · cases v with
        | int i =>
          have e' : (if 0 ≤ i ∧ i < (G.length : Int) then (G[i.toNat]?).bind fun x => if x.1 = a then some x.2.1 else none else none) = some c := e
          by_cases q : 0 ≤ i ∧ i < (G.length : Int)
          · exact ⟨i.toNat, by rw [Int.toNat_of_nonneg q.1], by omega⟩
          · rw [if_neg q] at e'; cases e'
        | _ => cases e
      · exact way_ints r c b h' v hv
theorem tk_len {H : Hp} : ∀ {xs : List V} {ds : List PyData}, TkAll H xs ds → xs.length = ds.length
  | _, _, .nil => rfl
  | _, _, .cons _ t => by rw [List.length_cons, List.length_cons, tk_len t]
theorem len_bulk : ∀ (ds : List PyData), ds.length ≤ PyData.bulkAll ds
  | [] => Nat.le_refl _
  | d :: ds => by
    have := len_bulk ds
    show ds.length + 1 ≤ d.bulk + 1 + PyData.bulkAll ds
    omega
def linkB (D : PD) : PyData → Bool
  | .tuple [x, w, y] => match itemD D x, itemD D y with
    | some a, some b => a.fl && b.ce && wayB D.G a.ev b.ev w && decide (a.num + sumW D.G w > b.num)
    | _, _ => false
  | _ => false
def srcOk (side : Str) : Option Src → Bool
  | some r => if side = "least" then r.fl else r.ce
  | none => false
theorem link_eq {D : PD} {x w y : PyData} : linkB D (.tuple [x, w, y]) = (srcOk "least" (itemD D x) && (srcOk "most" (itemD D y) && match itemD D x, itemD D y with
    | some a, some b => wayB D.G a.ev b.ev w && decide (a.num + sumW D.G w > b.num)
    | _, _ => false)) := by
  show (match itemD D x, itemD D y with
    | some a, some b => a.fl && b.ce && wayB D.G a.ev b.ev w && decide (a.num + sumW D.G w > b.num)
    | _, _ => false) = _
  have ne : ("most" : Str) ≠ "least" := by decide
  cases itemD D x <;> cases itemD D y <;> simp [srcOk, Bool.and_assoc, ne]
def spSrc (K : Frag) (C : Addr) (sel : Src → V) : Sp := fun vs H Q _ => ∃ (A : BA) (D : PD) (a : Addr) (wd : Str) (i : Int) (r : Src), vs = [.ref A.o, .ref a] ∧ BB K C H A D ∧ H a = some (.tup [.str wd, .int i]) ∧ srcD D wd i = some r ∧ Q (sel r) H
def witV : Option Int → V | some w => .int w | none => .non
def spIsSrc (K : Frag) (C : Addr) : Sp := fun vs H Q _ => ∃ (A : BA) (D : PD) (x : V) (d : PyData) (side : Str), vs = [.ref A.o, .str side, x] ∧ BB K C H A D ∧ Tk H x d ∧ (side = "least" ∨ side = "most") ∧ ∀ H', Same H H' → Q (.bl (srcOk side (itemD D d))) H'
def spSumOf (K : Frag) (C : Addr) : Sp := fun vs H Q _ => ∃ (A : BA) (D : PD) (q : Addr) (xs : List V), vs = [.ref A.o, .ref q] ∧ BB K C H A D ∧ H q = some (.tup xs) ∧ xs.length ≤ 1000000 ∧ (∀ v ∈ xs, ∃ n : Nat, v = .int n ∧ n < D.G.length) ∧ ∀ H', Same H H' → Q (.int (sumV D.G xs)) H'
def spExc (K : Frag) (C : Addr) : Sp := fun vs H Q _ => ∃ (A : BA) (D : PD) (p a1 q a3 : Addr) (w1 : Str) (i1 : Int) (r1 : Src) (w3 : Str) (i3 : Int) (r3 : Src) (ys : List V), vs = [.ref A.o, .ref p] ∧ BB K C H A D ∧ H p = some (.tup [.ref a1, .ref q, .ref a3]) ∧ H a1 = some (.tup [.str w1, .int i1]) ∧ srcD D w1 i1 = some r1 ∧ H a3 = some (.tup [.str w3, .int i3]) ∧ srcD D w3 i3 = some r3 ∧
  H q = some (.tup ys) ∧ ys.length ≤ 1000000 ∧ (∀ v ∈ ys, ∃ n : Nat, v = .int n ∧ n < D.G.length) ∧ ∀ H', Same H H' → Q (.int (r1.num + sumV D.G ys - r3.num)) H'
def spIsLink (K : Frag) (C : Addr) : Sp := fun vs H Q _ => ∃ (A : BA) (D : PD) (x : V) (d : PyData), vs = [.ref A.o, x] ∧ BB K C H A D ∧ Tk H x d ∧ d.bulk ≤ 300000 ∧ ∀ H', Same H H' → Q (.bl (linkB D d)) H'
section
variable {P : Program} {w : World} {K : Frag} {mg : Str → Option Value} {base : Heap} {f : Addr} {fd : FuncData} {C : Addr}
theorem ok_event_of (F : Fun K "event_of" "event_of" s_event_of f fd) (T : Tb mg) (p_tellings : PrpG P w K mg base C "tellings" "_tellings") (p_sure : PrpG P w K mg base C "sure" "_sure") : FnOk P w K mg base CX0 3 f fd ["book", "source"] (spSrc K C fun r => .int r.ev) := by
  refine F.ok sc_event_of (fun vs H Q E h => ?_) (fun cdv A outer s H vs Q E hr h => ?_)
  · obtain ⟨_, _, _, _, _, _, rfl, _⟩ := h
    rfl
  · obtain ⟨B, D, a, wd, i, r, rfl, hB, ha, hs, k⟩ := h
    refine ⟨_, (pss_cons (ps_asg (pv 1) (pg_tup rfl (pgs_cons (pg_name (i := 2) sc_event_of.nd rfl (Or.inl rfl)) (pgs_cons (pg_name (i := 3) sc_event_of.nd rfl (Or.inl rfl)) pgs_nil))))
  (pss_cons (ps_if (pt_cmpR (u_eq hr.units) (pv 2) pe_str (nomark _))
    (pss_one (ps_ret (pe_ix ix_seq (pe_ix ix_seq (pe_prp p_tellings (hr.mono (by decide)) (pv 0)) (pv 3) (fun _ _ => rfl)) pe_int (fun _ _ => rfl))))
    pss_nil)
  (pss_one (ps_ret (pe_ix ix_seq (pe_ix ix_seq (pe_prp p_sure (hr.mono (by decide)) (pv 0)) (pv 3) (fun _ _ => rfl)) pe_int (fun _ _ => rfl)))))), ?_⟩
    walk_at "el"
    refine a_gtup (SqT.of ha) rfl ?_
    walk_at "el"
    have hbk := hB.bk
    rcases src_cases hs with ⟨rfl, n, x, rfl, hx, rfl⟩ | ⟨rfl, n, x, rfl, hx, rfl⟩
    · obtain ⟨q, hq, hv⟩ := hB.r.t.get hx
      rw [decide_eq_true rfl]
      walk_at "el"
      refine n_prp hbk rfl ?_
      walk_at "el"
      refine n_ixT hB.tT (atI_nat hq) ?_
      walk_at "el"
      exact k
    · obtain ⟨q, hq, hv⟩ := hB.r.s.get hx
      rw [decide_eq_false (by decide)]
      walk_at "el"
      refine n_prp hbk rfl ?_
      walk_at "el"
      refine n_ixT hB.tS (atI_nat hq) ?_
      walk_at "el"
      exact k
theorem ok_number_of (F : Fun K "number_of" "number_of" s_number_of f fd) (T : Tb mg) (p_tellings : PrpG P w K mg base C "tellings" "_tellings") (p_sure : PrpG P w K mg base C "sure" "_sure") : FnOk P w K mg base CX0 3 f fd ["book", "source"] (spSrc K C fun r => .int r.num) := by
  refine F.ok sc_number_of (fun vs H Q E h => ?_) (fun cdv A outer s H vs Q E hr h => ?_)
  · obtain ⟨_, _, _, _, _, _, rfl, _⟩ := h
    rfl
  · obtain ⟨B, D, a, wd, i, r, rfl, hB, ha, hs, k⟩ := h
    refine ⟨_, (pss_cons (ps_asg (pv 1) (pg_tup rfl (pgs_cons (pg_name (i := 2) sc_number_of.nd rfl (Or.inl rfl)) (pgs_cons (pg_name (i := 3) sc_number_of.nd rfl (Or.inl rfl)) pgs_nil))))
  (pss_cons (ps_if (pt_cmpR (u_eq hr.units) (pv 2) pe_str (nomark _))
    (pss_one (ps_ret (pe_ix ix_seq (pe_ix ix_seq (pe_prp p_tellings (hr.mono (by decide)) (pv 0)) (pv 3) (fun _ _ => rfl)) pe_int (fun _ _ => rfl))))
    pss_nil)
  (pss_one (ps_ret (pe_ix ix_seq (pe_ix ix_seq (pe_prp p_sure (hr.mono (by decide)) (pv 0)) (pv 3) (fun _ _ => rfl)) pe_int (fun _ _ => rfl)))))), ?_⟩
    walk_at "el"
    refine a_gtup (SqT.of ha) rfl ?_
    walk_at "el"
    have hbk := hB.bk
    rcases src_cases hs with ⟨rfl, n, x, rfl, hx, rfl⟩ | ⟨rfl, n, x, rfl, hx, rfl⟩
    · obtain ⟨q, hq, hv⟩ := hB.r.t.get hx
      rw [decide_eq_true rfl]
      walk_at "el"
      refine n_prp hbk rfl ?_
      walk_at "el"
      refine n_ixT hB.tT (atI_nat hq) ?_
      walk_at "el"
      exact k
    · obtain ⟨q, hq, hv⟩ := hB.r.s.get hx
      rw [decide_eq_false (by decide)]
      walk_at "el"
      refine n_prp hbk rfl ?_
      walk_at "el"
      refine n_ixT hB.tS (atI_nat hq) ?_
      walk_at "el"
      exact k
theorem ok_witness_of (F : Fun K "witness_of" "witness_of" s_witness_of f fd) (T : Tb mg) (p_tellings : PrpG P w K mg base C "tellings" "_tellings") : FnOk P w K mg base CX0 3 f fd ["book", "source"] (spSrc K C fun r => witV r.wit) := by
  refine F.ok sc_witness_of (fun vs H Q E h => ?_) (fun cdv A outer s H vs Q E hr h => ?_)
  · obtain ⟨_, _, _, _, _, _, rfl, _⟩ := h
    rfl
  · obtain ⟨B, D, a, wd, i, r, rfl, hB, ha, hs, k⟩ := h
    refine ⟨_, (pss_cons (ps_asg (pv 1) (pg_tup rfl (pgs_cons (pg_name (i := 2) sc_witness_of.nd rfl (Or.inl rfl)) (pgs_cons (pg_name (i := 3) sc_witness_of.nd rfl (Or.inl rfl)) pgs_nil))))
  (pss_cons (ps_if (pt_cmpR (u_eq hr.units) (pv 2) pe_str (nomark _))
    (pss_one (ps_ret (pe_ix ix_seq (pe_ix ix_seq (pe_prp p_tellings (hr.mono (by decide)) (pv 0)) (pv 3) (fun _ _ => rfl)) pe_int (fun _ _ => rfl))))
    pss_nil)
  (pss_one (ps_ret pe_non)))), ?_⟩
    walk_at "el"
    refine a_gtup (SqT.of ha) rfl ?_
    walk_at "el"
    have hbk := hB.bk
    rcases src_cases hs with ⟨rfl, n, x, rfl, hx, rfl⟩ | ⟨rfl, n, x, rfl, hx, rfl⟩
    · obtain ⟨q, hq, hv⟩ := hB.r.t.get hx
      rw [decide_eq_true rfl]
      walk_at "el"
      refine n_prp hbk rfl ?_
      walk_at "el"
      refine n_ixT hB.tT (atI_nat hq) ?_
      walk_at "el"
      exact k
    · rw [decide_eq_false (by decide)]
      walk_at "el"
      exact k
theorem below_src {H : Hp} {D : PD} {y : V} {e : PyData} {side : Str} (t : Tk H y e) : belowB y D.T.length = srcOk side (itemD D (.tuple [.str "told", e])) := by
  cases t with
  | int i =>
    show (decide (0 ≤ i) && decide (i < (D.T.length : Int))) = srcOk side (srcD D "told" i)
    unfold srcD
    rw [if_pos rfl]
    by_cases h : 0 ≤ i ∧ i < (D.T.length : Int)
    · rw [decide_eq_true h.1, decide_eq_true h.2]
      obtain ⟨n, rfl⟩ : ∃ n : Nat, i = n := ⟨i.toNat, by omega⟩
      have hn : n < D.T.length := by omega
      rw [atZ_nat, List.getElem?_eq_getElem hn]
      show true = (if side = "least" then true else true)
      split <;> rfl
    · have e : (decide (0 ≤ i) && decide (i < (D.T.length : Int))) = false := by
        rw [Bool.and_eq_false_iff, decide_eq_false_iff_not, decide_eq_false_iff_not]
        omega
      rw [e]
      cases hz : atZ D.T i with
      | none => rfl
      | some x =>
        obtain ⟨n, rfl, hn⟩ := atZ_some hz
        have := (List.getElem?_eq_some_iff.mp hn).1
        omega
  | _ => rfl
theorem below_sure {H : Hp} {D : PD} {y : V} {e : PyData} {side : Str} (t : Tk H y e) (h : belowB y D.S.length = false) : srcOk side (itemD D (.tuple [.str "sure", e])) = false := by
  cases t with
  | int i =>
    show srcOk side (srcD D "sure" i) = false
    have h' : (decide (0 ≤ i) && decide (i < (D.S.length : Int))) = false := h
    rw [Bool.and_eq_false_iff, decide_eq_false_iff_not, decide_eq_false_iff_not] at h'
    unfold srcD
    rw [if_neg (by decide), if_pos rfl]
    cases hz : atZ D.S i with
    | none => rfl
    | some x =>
      obtain ⟨n, rfl, hn⟩ := atZ_some hz
      have := (List.getElem?_eq_some_iff.mp hn).1
      omega
  | _ => rfl
theorem ok_is_source (F : Fun K "_is_source" "_is_source" s__is_source f fd) (T : Tb mg) (p_tellings : PrpG P w K mg base C "tellings" "_tellings") (p_sure : PrpG P w K mg base C "sure" "_sure") (c_is_below : Cal P w K mg base CX0 2 "is_below" ["thing", "many"] (spBelow K)) (c_is_headed : Cal P w K mg base CX0 2 "is_headed" ["thing", "word"] (spHd K)) :
    FnOk P w K mg base CX0 3 f fd ["book", "side", "thing"] (spIsSrc K C) := by
  refine F.ok sc__is_source (fun vs H Q E h => ?_) (fun cdv A outer s H vs Q E hr h => ?_)
  · obtain ⟨_, _, _, _, _, rfl, _⟩ := h
    rfl
  · obtain ⟨B, D, x, d, side, rfl, hB, tk, hside, k⟩ := h
    refine ⟨_, (pss_cons (ps_if (pt_val (pe_cal c_is_headed (hr.mono (by decide)) pass0 (pa_cons (pv 2) (pa_cons pe_str pa_nil))))
    (pss_one (ps_ret (pe_cal c_is_below (hr.mono (by decide)) pass0 (pa_cons (pe_ix ix_seq (pv 2) pe_int (fun _ _ => rfl)) (pa_cons (pe_callB u_len rfl T.b.len_ boot_len (pa_cons (pe_prp p_tellings (hr.mono (by decide)) (pv 0)) pa_nil)) pa_nil)))))
    pss_nil)
  (pss_cons (ps_if (pt_val (pe_cal c_is_headed (hr.mono (by decide)) pass0 (pa_cons (pv 2) (pa_cons pe_str pa_nil))))
    (pss_one (ps_ret (pe_and (pe_cal c_is_below (hr.mono (by decide)) pass0 (pa_cons (pe_ix ix_seq (pv 2) pe_int (fun _ _ => rfl)) (pa_cons (pe_callB u_len rfl T.b.len_ boot_len (pa_cons (pe_prp p_sure (hr.mono (by decide)) (pv 0)) pa_nil)) pa_nil))) (pe_one (pe_cmpR (u_eq hr.units) (pe_ix ix_seq (pe_ix ix_seq (pe_prp p_sure (hr.mono (by decide)) (pv 0)) (pe_ix ix_seq (pv 2) pe_int (fun _ _ => rfl)) (fun _ _ => rfl)) pe_int (fun _ _ => rfl)) (pv 1) (nomark _))))))
    pss_nil)
  (pss_one (ps_ret pe_bl)))), ?_⟩
    have hbk := hB.bk
    walk_at "el"
    refine ⟨x, _, rfl, tk.th, tk.els, fun b1 hb1 => ?_⟩
    rcases b1 with _ | _
    · walk_at "el"
      refine ⟨x, _, rfl, tk.th, tk.els, fun b2 hb2 => ?_⟩
      rcases b2 with _ | _
      · walk_at "el"
        have e : srcOk side (itemD D d) = false := by
          cases hd : itemD D d with
          | none => rfl
          | some r =>
            exfalso
            obtain ⟨wd, i, rfl, hs⟩ := itemD_inv hd
            obtain ⟨a, rfl, ha⟩ := tk.src
            rcases src_cases hs with ⟨rfl, _⟩ | ⟨rfl, _⟩
            · exact absurd (hb1.mpr ⟨a, _, rfl, ha⟩) (by decide)
            · exact absurd (hb2.mpr ⟨a, _, rfl, ha⟩) (by decide)
        rw [e] at k
        exact k _ (Same.refl _)
      · obtain ⟨a, y, rfl, ha⟩ := hb2.mp rfl
        obtain ⟨e1, e2, rfl, t1, t2⟩ := tk.two ha
        cases t1.strD
        walk_at "el"
        refine n_prp hbk rfl ?_
        walk_at "el"
        refine n_len (.inr hB.tS) ?_
        walk_at "el"
        rw [hB.r.s.len]
        refine ⟨y, _, rfl, t2.th, fun H1 s1 => ?_⟩
        rcases hy : belowB y D.S.length
        · walk_at "el"
          rw [below_sure t2 hy] at k
          exact k _ s1
        · obtain ⟨i, rfl, i0, i1⟩ := below_int hy
          obtain ⟨n, rfl⟩ : ∃ n : Nat, i = n := ⟨i.toNat, by omega⟩
          have hn : n < D.S.length := by omega
          have hB1 := hB.same s1
          have ha1 := s1 _ _ ha
          have hbk1 := hB1.bk
          obtain ⟨q, hq, hv⟩ := hB1.r.s.get (List.getElem?_eq_getElem hn)
          walk_at "el"
          refine n_prp hbk1 rfl ?_
          walk_at "el"
          refine n_ixT hB1.tS (atI_nat hq) ?_
          walk_at "el"
          cases t2.intD
          have e : srcOk side (itemD D (.tuple [.str "sure", .int n])) = decide (V.str D.S[n].2.1 = V.str side) := by
            show srcOk side (srcD D "sure" n) = _
            unfold srcD
            rw [if_neg (by decide), if_pos rfl, atZ_nat, List.getElem?_eq_getElem hn]
            show (if side = "least" then decide (D.S[n].2.1 = "least") else decide (D.S[n].2.1 = "most")) = _
            have ne : ("most" : Str) ≠ "least" := by decide
            rcases hside with rfl | rfl
            · rw [if_pos rfl, Bool.eq_iff_iff, decide_eq_true_iff, decide_eq_true_iff]
              exact ⟨fun h => by rw [h], fun h => V.str.inj h⟩
            · rw [if_neg ne, Bool.eq_iff_iff, decide_eq_true_iff, decide_eq_true_iff]
              exact ⟨fun h => by rw [h], fun h => V.str.inj h⟩
          rw [e] at k
          exact k _ s1
    · obtain ⟨a, y, rfl, ha⟩ := hb1.mp rfl
      obtain ⟨e1, e2, rfl, t1, t2⟩ := tk.two ha
      cases t1.strD
      walk_at "el"
      refine n_prp hbk rfl ?_
      walk_at "el"
      refine n_len (.inr hB.tT) ?_
      walk_at "el"
      rw [hB.r.t.len]
      refine ⟨y, _, rfl, t2.th, fun H1 s1 => ?_⟩
      rw [below_src (side := side) t2]
      exact k _ s1
theorem ok_sum_of (F : Fun K "sum_of" "sum_of" s_sum_of f fd) (T : Tb mg) (p_gaps : PrpG P w K mg base C "gaps" "_gaps") : FnOk P w K mg base CX0 3 f fd ["book", "indexes"] (spSumOf K C) := by
  refine F.ok sc_sum_of (fun vs H Q E h => ?_) (fun cdv A outer s H vs Q E hr h => ?_)
  · obtain ⟨_, _, _, _, rfl, _⟩ := h
    rfl
  · obtain ⟨B, D, q, xs, rfl, hB, hq, hl, hx, k⟩ := h
    refine ⟨_, (pss_one (ps_ret (pe_callB (cr_sum rfl) rfl T.b.sum_ (by decide +kernel) (pa_cons (pe_lc (own := [("index", 2)]) rfl sc_sum_of.nd (u_iter (pv 1)) (blkOk_by (own := [("index", 2)]) (N := N_sum_of) (sc := defScope s_sum_of) (by decide +kernel)) (fun _ _ _ _ _ => (pg_name (i := 2) sc_sum_of.nd rfl (Or.inl rfl))) (fun _ _ _ _ _ => pts_nil) (fun _ _ _ _ _ => (pe_ix (show IxR _ (rIx K) from ix_seq) (pe_ix (show IxR _ (rIx K) from ix_seq) (pe_prp p_gaps (hr.mono (by decide)) (pv 0)) (pv 2) (fun _ _ => rfl)) pe_int (fun _ _ => rfl)))) pa_nil)))), ?_⟩
    walk_at "el"
    refine a_iSeq (.inr ?_)
    walk_at "el"
    refine ⟨q, rfl, ⟨_, SqT.of hq⟩, fun D0 hD0 => ?_⟩
    have e1 := nw_of hD0
    refine lc_of (walk_tup (xs := xs)) (fun i H3 => Same H H3 ∧ ∃ ns : List Int, H3 D0 = some (.lst (ns.map V.int)) ∧ ns = (xs.take i).map (gapN D.G)) ⟨e1 _, [], upd_same, rfl⟩ (fun i H3 hi h => SqT.of (h.1 _ _ hq)) ?_ ?_
    · rintro i x H3 H4 hi ⟨s3, ns, hD3, hns⟩ ⟨rfl, hxi⟩
      obtain ⟨n, rfl, hn⟩ := hx x (List.mem_of_getElem? hxi)
      have hB3 := hB.same s3
      have hbk3 := hB3.bk
      obtain ⟨u, hu, hv⟩ := hB3.r.g.get (List.getElem?_eq_getElem hn)
      walk_at "el"
      refine ⟨rfl, ?_⟩
      walk_at "el"
      refine n_prp hbk3 rfl ?_
      walk_at "el"
      refine n_ixT hB3.tG (atI_nat hu) ?_
      walk_at "el"
      refine ⟨_, hD3, ?_, s3.mu hD0, ns ++ [D.G[n].2.2], by rw [upd_same, List.map_append]; rfl, ?_⟩
      · rw [List.length_map, hns, List.length_map, List.length_take]
        exact Nat.lt_of_le_of_lt (Nat.min_le_right _ _) (Nat.lt_of_le_of_lt hl (by decide))
      · rw [List.take_add_one, hxi, List.map_append, hns]
        congr 1
        show [D.G[n].2.2] = [gapN D.G (.int n)]
        show _ = [((atZ D.G n).map fun x => x.2.2).getD 0]
        rw [atZ_nat, List.getElem?_eq_getElem hn]
        rfl
    · rintro H3 ⟨s3, ns, hD3, hns⟩
      rw [List.take_length] at hns
      walk_at "el"
      refine ⟨D0, ns, rfl, SqL.of hD3, ?_⟩
      rw [hns]
      exact k _ s3
theorem ok_excess_of (F : Fun K "excess_of" "excess_of" s_excess_of f fd) (T : Tb mg) (c_number_of : Cal P w K mg base CX0 3 "number_of" ["book", "source"] (spSrc K C fun r => .int r.num)) (c_sum_of : Cal P w K mg base CX0 3 "sum_of" ["book", "indexes"] (spSumOf K C)) :
    FnOk P w K mg base CX0 4 f fd ["book", "path"] (spExc K C) := by
  refine F.ok sc_excess_of (fun vs H Q E h => ?_) (fun cdv A outer s H vs Q E hr h => ?_)
  · obtain ⟨_, _, _, _, _, _, _, _, _, _, _, _, _, rfl, _⟩ := h
    rfl
  · obtain ⟨B, D, p, a1, q, a3, w1, i1, r1, w3, i3, r3, ys, rfl, hB, hp, h1, e1, h3, e3, hq, lq, iq, k⟩ := h
    refine ⟨_, (pss_cons (ps_asg (pv 1) (pg_tup rfl (pgs_cons (pg_name (i := 2) sc_excess_of.nd rfl (Or.inl rfl)) (pgs_cons (pg_name (i := 3) sc_excess_of.nd rfl (Or.inl rfl)) (pgs_cons (pg_name (i := 4) sc_excess_of.nd rfl (Or.inl rfl)) pgs_nil)))))
  (pss_one (ps_ret (pe_op op_sub (pe_op u_add (pe_cal c_number_of (hr.mono (by decide)) pass0 (pa_cons (pv 0) (pa_cons (pv 2) pa_nil))) (pe_cal c_sum_of (hr.mono (by decide)) pass0 (pa_cons (pv 0) (pa_cons (pv 3) pa_nil)))) (pe_cal c_number_of (hr.mono (by decide)) pass0 (pa_cons (pv 0) (pa_cons (pv 4) pa_nil))))))), ?_⟩
    walk_at "el"
    refine a_gtup (SqT.of hp) rfl ?_
    walk_at "el"
    refine ⟨B, D, a1, w1, i1, r1, rfl, hB, h1, e1, ?_⟩
    walk_at "el"
    refine ⟨B, D, q, ys, rfl, hB, hq, lq, iq, fun H4 s4 => ?_⟩
    walk_at "el"
    refine ⟨B, D, a3, w3, i3, r3, rfl, hB.same s4, s4 _ _ h3, e3, ?_⟩
    walk_at "el"
    exact k _ s4
theorem ok_is_link (F : Fun K "is_link" "is_link" s_is_link f fd) (T : Tb mg) (c_is_tuple : Cal P w K mg base CX0 1 "is_tuple" ["thing", "many"] (spTu K)) (c__is_source : Cal P w K mg base CX0 3 "_is_source" ["book", "side", "thing"] (spIsSrc K C))
    (c_event_of : Cal P w K mg base CX0 3 "event_of" ["book", "source"] (spSrc K C fun r => .int r.ev)) (c_number_of : Cal P w K mg base CX0 3 "number_of" ["book", "source"] (spSrc K C fun r => .int r.num)) (c_is_way : Cal P w K mg base CX0 3 "is_way" ["book", "a", "b", "thing"] (spWay K C)) (c_excess_of : Cal P w K mg base CX0 4 "excess_of" ["book", "path"] (spExc K C)) :
    FnOk P w K mg base CX0 5 f fd ["book", "thing"] (spIsLink K C) := by
  refine F.ok sc_is_link (fun vs H Q E h => ?_) (fun cdv A outer s H vs Q E hr h => ?_)
  · obtain ⟨_, _, _, _, rfl, _⟩ := h
    rfl
  · obtain ⟨B, D, x, d, rfl, hB, tk, hbu, k⟩ := h
    refine ⟨_, (pss_cons (ps_if (pt_not (pt_val (pe_cal c_is_tuple (hr.mono (by decide)) pass0 (pa_cons (pv 1) (pa_cons pe_int pa_nil)))))
    (pss_one (ps_ret pe_bl))
    pss_nil)
  (pss_cons (ps_asg (pv 1) (pg_tup rfl (pgs_cons (pg_name (i := 2) sc_is_link.nd rfl (Or.inl rfl)) (pgs_cons (pg_name (i := 3) sc_is_link.nd rfl (Or.inl rfl)) (pgs_cons (pg_name (i := 4) sc_is_link.nd rfl (Or.inl rfl)) pgs_nil)))))
  (pss_cons (ps_if (PW.pt (pw_or (pt_not (pt_val (pe_cal c__is_source (hr.mono (by decide)) pass0 (pa_cons (pv 0) (pa_cons pe_str (pa_cons (pv 2) pa_nil)))))) (pw_or1 (pt_not (pt_val (pe_cal c__is_source (hr.mono (by decide)) pass0 (pa_cons (pv 0) (pa_cons pe_str (pa_cons (pv 4) pa_nil)))))))))
    (pss_one (ps_ret pe_bl))
    pss_nil)
  (pss_one (ps_ret (pe_and (pe_cal c_is_way (hr.mono (by decide)) pass0 (pa_cons (pv 0) (pa_cons (pe_cal c_event_of (hr.mono (by decide)) pass0 (pa_cons (pv 0) (pa_cons (pv 2) pa_nil))) (pa_cons (pe_cal c_event_of (hr.mono (by decide)) pass0 (pa_cons (pv 0) (pa_cons (pv 4) pa_nil))) (pa_cons (pv 3) pa_nil))))) (pe_one (pe_cmpR op_gt (pe_cal c_excess_of (hr.mono (by decide)) pass0 (pa_cons (pv 0) (pa_cons (pv 1) pa_nil))) pe_int (nomark _))))))))), ?_⟩
    walk_at "el"
    refine ⟨x, _, rfl, tk.th, fun b hb => ?_⟩
    rcases b with _ | _
    · walk_at "el"
      have e : linkB D d = false := by
        unfold linkB
        split
        · exfalso
          obtain ⟨a, xs, rfl, ha, ta⟩ := tk.tupD
          have l : xs.length = 3 := by cases ta with | cons _ t => cases t with | cons _ t => cases t with | cons _ t => cases t; rfl
          exact absurd (hb.mpr ⟨a, xs, rfl, ha, by rw [l]; rfl⟩) (by decide)
        · rfl
      rw [e] at k
      exact k _ (Same.refl _)
    · obtain ⟨a, xs, rfl, ha, hl⟩ := hb.mp rfl
      match xs, hl with
      | [x1, x2, x3], _ =>
        obtain ⟨d1, d2, d3, rfl, t1, t2, t3⟩ := tk.three ha
        rw [link_eq] at k
        walk_at "el"
        refine a_gtup (SqT.of ha) rfl ?_
        walk_at "el"
        refine ⟨B, D, x1, d1, _, rfl, hB, t1, .inl rfl, fun H1 s1 => ?_⟩
        rcases h1 : srcOk "least" (itemD D d1)
        · rw [h1, Bool.false_and] at k
          walk_at "el"
          exact k _ s1
        · rw [h1, Bool.true_and] at k
          have hB1 := hB.same s1
          walk_at "el"
          refine ⟨B, D, x3, d3, _, rfl, hB1, t3.same s1, .inr rfl, fun H2 s2 => ?_⟩
          have s12 := s1.trans s2
          rcases h2 : srcOk "most" (itemD D d3)
          · rw [h2, Bool.false_and] at k
            walk_at "el"
            exact k _ s12
          · rw [h2, Bool.true_and] at k
            cases hi1 : itemD D d1 with
            | none => rw [hi1] at h1; cases h1
            | some r1 =>
              cases hi3 : itemD D d3 with
              | none => rw [hi3] at h2; cases h2
              | some r3 =>
                obtain ⟨w1, i1, rfl, e1⟩ := itemD_inv hi1
                obtain ⟨w3, i3, rfl, e3⟩ := itemD_inv hi3
                obtain ⟨a1, rfl, ha1⟩ := t1.src
                obtain ⟨a3, rfl, ha3⟩ := t3.src
                simp only [hi1, hi3] at k
                have hB2 := hB1.same s2
                have t22 := t2.same s12
                walk_at "el"
                refine ⟨B, D, a1, w1, i1, r1, rfl, hB2, s12 _ _ ha1, e1, ?_⟩
                walk_at "el"
                refine ⟨B, D, a3, w3, i3, r3, rfl, hB2, s12 _ _ ha3, e3, ?_⟩
                walk_at "el"
                refine ⟨B.o, B.dx, B.ev, B.wi, B.t, B.g, B.s, B.q, _, D.G, r1.ev, r3.ev, x2, rfl, hB2.bk, hB2.r.g.gaps (.inr hB2.tG), t22.th, t22.els, fun H3 b3 s3 hb3 => ?_⟩
                have s13 := s12.trans s3
                rw [isWay_tk t22] at hb3
                rcases b3 with _ | _
                · walk_at "el"
                  have e : wayB D.G r1.ev r3.ev d2 = false := by
                    rw [← Bool.not_eq_true]
                    exact fun h => absurd (hb3.mpr h) (by decide)
                  rw [e, Bool.false_and] at k
                  exact k _ s13
                · rw [hb3.mp rfl, Bool.true_and] at k
                  have hw := hb3.mp rfl
                  cases d2 with
                  | tuple ds =>
                    obtain ⟨q, ys, rfl, hq, ta⟩ := t2.tupD
                    have hw' : wayTo D.G r1.ev ys = some r3.ev := (way_toV (some r1.ev) ta).symm.trans (of_decide_eq_true hw)
                    have hB3 := hB2.same s3
                    walk_at "el"
                    refine ⟨B, D, a, a1, q, a3, w1, i1, r1, w3, i3, r3, ys, rfl, hB3, s13 _ _ ha, s13 _ _ ha1, e1, s13 _ _ ha3, e3, s13 _ _ hq, ?_, way_ints _ _ _ hw', fun H4 s4 => ?_⟩
                    · have z := tk_len ta
                      have b2 : PyData.bulkAll ds + 1 ≤ (PyData.tuple [.tuple [.str w1, .int i1], .tuple ds, .tuple [.str w3, .int i3]]).bulk := by
                        simp only [PyData.bulk, PyData.bulkAll]
                        omega
                      have b3 := len_bulk ds
                      omega
                    have s14 := s13.trans s4
                    walk_at "el"
                    have es : sumW D.G (.tuple ds) = sumV D.G ys := sum_toV ta
                    have ed : decide (r1.num + sumV D.G ys > r3.num) = decide (0 < r1.num + sumV D.G ys - r3.num) := by
                      rw [Bool.eq_iff_iff, decide_eq_true_iff, decide_eq_true_iff]
                      omega
                    rw [es, ed] at k
                    exact k _ s14
                  | _ => cases hw
end
end EL

/- part O -/
namespace EL
open PySem PySem.Spec PyProof.Rows L2
open PySem.W (Frag)
abbrev s_item : Stmt := top 53
abbrev N_item : List Str := ["_law_parts_here", "_law_thing", "_law_index", "_law_part", "_law_item_here"]
theorem sc_item : FnScope N_item ["_law_parts_here", "_law_thing"] (defScope s_item) := ⟨rfl, rfl, rfl, by decide +kernel, rfl, by decide +kernel, by decide +kernel⟩
abbrev s_l_is_link : Stmt := top 54
abbrev N_l_is_link : List Str := ["_law_parts_here", "_law_thing", "_law_start", "_law_end", "_law_index"]
theorem sc_l_is_link : FnScope N_l_is_link ["_law_parts_here", "_law_thing"] (defScope s_l_is_link) := ⟨rfl, rfl, rfl, by decide +kernel, rfl, by decide +kernel, by decide +kernel⟩
abbrev s_sources : Stmt := top 55
abbrev N_sources : List Str := ["_law_parts_here", "_law_k"]
theorem sc_sources : FnScope N_sources ["_law_parts_here"] (defScope s_sources) := ⟨rfl, rfl, rfl, by decide +kernel, rfl, by decide +kernel, by decide +kernel⟩
local macro_rules | `(tactic| walk_at "el1") => `(tactic| with_reducible first
  | refine a_sasg ?_ | refine a_sdrop ?_ | refine a_saugS ?_ | refine a_spar ?_ | refine a_seq ?_ | refine a_asg ?_ | refine a_drop ?_ | refine a_ret ?_ | refine a_if ?_ | refine a_next ?_
  | refine a_op ?_ | refine a_cons ?_ | refine a_nil ?_ | refine a_cb ?_ | refine a_call ?_ | refine a_c ?_ | refine a_gn ?_ | refine a_nx ?_ | refine a_rt ?_ | refine a_un ?_
  | refine a_test ?_ | refine a_B ?_ | refine a_bl ?_ | refine a_and ?_ | refine a_or ?_ | refine a_not ?_ | refine a_andV ?_ | refine a_orV ?_ | refine a_notV ?_ | refine a_ifx ?_ | refine a_chain ?_
  | refine a_nT ?_ | refine a_nF ?_ | refine a_fld ?_ | refine a_getF ?_ | refine a_T ?_ | refine a_F ?_ | refine a_tup ?_ | refine a_lst ?_ | refine a_sub ?_ | refine a_augS ?_ | refine a_two ?_ | refine a_I0 ?_ | refine a_U ?_ | refine n_add ?_ | refine n_int ?_ | refine n_ib ?_ | refine a_ip ?_ | refine a_rng1 ?_ | refine a_rng2 ?_ | refine a_bm ?_ | refine a_abs ?_ | refine a_pairs ?_ | refine a_pairs0 ?_ | refine a_bk ?_ | refine a_prp ?_ | refine a_lc ?_ | refine a_yes ?_ | refine a_sl ?_ | refine a_nop ?_ | refine a_prt ?_ | refine a_ex1 ?_ | refine a_for ?_ | refine a_sfor ?_ | refine a_iE1 ?_ | refine a_iEs ?_ | refine a_iEz ?_ | refine a_iEnum ?_ | refine a_iTup ?_ | refine a_iList ?_ | refine a_gcons ?_ | refine a_gnil ?_ | refine a_revT ?_ | refine a_spar3 ?_ | refine a_par3 ?_ | refine a_three ?_)
local macro_rules | `(tactic| walk_at "el2") => `(tactic| first
  | (refine a_var (by rfl) ?_)
  | (refine n_ixL (SqL.of (by assumption)) (by rfl) ?_) | (refine n_ixT (SqT.of (by assumption)) (by rfl) ?_) | (refine n_eq (by rfl) ?_) | (refine n_ne (by rfl) ?_)
  | (refine n_isN ?_) | (refine n_notN ?_) | (refine n_isB ?_) | (refine n_notB ?_) | (refine n_isBI ?_) | (refine n_notBI ?_) | (refine n_len (.inl (SqL.of (by assumption))) ?_) | (refine n_len (.inr (SqT.of (by assumption))) ?_)
  | (refine a_getL (SqL.of (by assumption)) (by rfl) ?_)
  | (refine n_isInt (by assumption) ?_) | (refine n_isBool (by assumption) ?_) | (refine n_isStr (by assumption) ?_) | (refine n_isTup (by assumption) ?_) | (refine n_isLst (by assumption) ?_))
local macro_rules | `(tactic| walk_at "el") => `(tactic| repeat (first | walk_at "el1" | walk_at "el2"))

/-! ### a law's own look at sources and links -/
theorem n_notinT {K : Frag} {H : Hp} {Q : VK} {x : V} {p : Addr} {xs : List V} {b : Bool} (h : H p = some (.tup xs)) (f1 : flatV x = true) (f2 : xs.all flatV = true) (e : inV x xs = b) (q : Q (.bl (!b)) H) : rIn K true x (.ref p) H Q :=
  ⟨p, xs, rfl, .inr (SqT.of h), f1, f2, by rw [if_pos rfl, e]; exact q⟩
theorem inV_no {s a b : Str} (h1 : s ≠ a) (h2 : s ≠ b) : inV (.str s) [.str a, .str b] = false := by
  show (_ == _ || (_ == _ || false)) = false
  rw [Bool.or_false, Bool.or_eq_false_iff, beq_eq_false_iff_ne, beq_eq_false_iff_ne]
  exact ⟨fun h => h1 h.symm, fun h => h2 h.symm⟩
theorem inV_l {a b : Str} : inV (.str a) [.str a, .str b] = true := by
  show (_ == _ || (_ == _ || false)) = true
  rw [beq_self_eq_true, Bool.true_or]
theorem inV_r {a b : Str} : inV (.str b) [.str a, .str b] = true := by
  show (_ == _ || (_ == _ || false)) = true
  rw [beq_self_eq_true, Bool.true_or, Bool.or_true]
theorem item_none {H : Hp} {D : PD} {x : V} {d : PyData} (tk : Tk H x d) (h : ∀ a wd i r, x = .ref a → H a = some (.tup [.str wd, .int i]) → srcD D wd i = some r → False) : itemD D d = none := by
  cases e : itemD D d with
  | none => rfl
  | some r =>
    exfalso
    obtain ⟨wd, i, rfl, hs⟩ := itemD_inv e
    obtain ⟨a, rfl, ha⟩ := tk.src
    exact h a wd i r rfl ha hs
def srcV (r : Src) : List V := [.int r.ev, .int r.num, witV r.wit, .bl r.fl, .bl r.ce]
def spLItem (K : Frag) : Sp := fun vs H Q _ => ∃ (b p : Addr) (l : Pt → Addr) (xs : Pt → List V) (D : PD) (x : V) (d : PyData), vs = [.ref p, x] ∧ LP H b p l xs D ∧ Tk H x d ∧
  (itemD D d = none → ∀ H', Same H H' → Q .non H') ∧ ∀ r, itemD D d = some r → ∀ q H', Same H H' → H' q = some (.tup (srcV r)) → Q (.ref q) H'
def spLLink (K : Frag) : Sp := fun vs H Q _ => ∃ (b p : Addr) (l : Pt → Addr) (xs : Pt → List V) (D : PD) (x : V) (d : PyData), vs = [.ref p, x] ∧ LP H b p l xs D ∧ Tk H x d ∧ d.bulk ≤ 300000 ∧ ∀ H', Same H H' → Q (.bl (linkB D d)) H'
/-- tuples that are sources -/
def SrcsAre (H : Hp) (D : PD) (vs : List V) : Prop := ∀ v ∈ vs, ∃ q wd i r, v = .ref q ∧ H q = some (.tup [.str wd, .int i]) ∧ srcD D wd i = some r
def spSrcs (K : Frag) : Sp := fun vs H Q _ => ∃ (b p : Addr) (l : Pt → Addr) (xs : Pt → List V) (D : PD), vs = [.ref p] ∧ LP H b p l xs D ∧ D.T.length ≤ 1000 ∧ D.S.length ≤ 1000 ∧
  ∀ H' r ws, Same H H' → H r = none → H' r = some (.lst ws) → SrcsAre H' D ws → ws.length = D.T.length + D.S.length → Q (.ref r) H'
section
variable {P : Program} {w : World} {K : Frag} {mg : Str → Option Value} {base : Heap} {f : Addr} {fd : FuncData} {C : Addr}
theorem ok_item (F : Fun K "_law_item" "_law_item" s_item f fd) (T : Tb mg) : FnOk P w K mg base CX0 1 f fd ["_law_parts_here", "_law_thing"] (spLItem K) := by
  refine F.ok sc_item (fun vs H Q E h => ?_) (fun cdv A outer s H vs Q E hr h => ?_)
  · obtain ⟨_, _, _, _, _, _, _, rfl, _⟩ := h
    rfl
  · obtain ⟨b, p, l, xs, D, x, d, rfl, hL, tk, kn, ks⟩ := h
    refine ⟨_, (pss_cons (ps_if (PW.pt (pw_or (pt_not (pt_val (pe_callB u_isi rfl T.b.isinstance_ boot_isinstance (pa_cons (pv 1) (pa_cons (pe_bltn (v := V.ty "tuple") rfl T.b.tuple_ (by decide +kernel) rfl) pa_nil))))) (pw_or (pt_cmpR (u_ne hr.units) (pe_callB u_len rfl T.b.len_ boot_len (pa_cons (pv 1) pa_nil)) pe_int (nomark _)) (pw_or1 (pt_not (pt_val (pe_callB u_isi rfl T.b.isinstance_ boot_isinstance (pa_cons (pe_ix ix_seq (pv 1) pe_int (fun _ _ => rfl)) (pa_cons (pe_bltn (v := V.ty "str") rfl T.b.str_ (by decide +kernel) rfl) pa_nil)))))))))
    (pss_one (ps_ret pe_non))
    pss_nil)
  (pss_cons (ps_par (i := 2) (j := 3) rfl sc_item.nd rfl rfl (by decide) rfl rfl (pa_cons (pe_ix ix_seq (pv 1) pe_int (fun _ _ => rfl)) (pa_cons (pe_ix ix_seq (pe_lst (pa_cons (pe_ifExp (pt_cmpR (u_eq hr.units) (pe_ix ix_seq (pv 1) pe_int (fun _ _ => rfl)) pe_str (nomark _)) pe_int pe_int) (pa_cons pe_non pa_nil))) (pe_callTy u_int rfl T.b.int_ (by decide +kernel) (pa_cons (pe_cmpR u_notin (pe_ix ix_seq (pv 1) pe_int (fun _ _ => rfl)) (pe_tup (pa_cons pe_str (pa_cons pe_str pa_nil))) rfl) pa_nil)) (fun _ _ => rfl)) pa_nil)) (by with_unfolding_all rfl))
  (pss_cons (ps_if (PW.pt (pw_or (pt_cmpR u_is (pv 3) pe_non (nomark _)) (pw_or (pt_not (pt_val (pe_callB u_isi rfl T.b.isinstance_ boot_isinstance (pa_cons (pv 2) (pa_cons (pe_bltn (v := V.ty "int") rfl T.b.int_ (by decide +kernel) rfl) pa_nil))))) (pw_or (pt_val (pe_callB u_isi rfl T.b.isinstance_ boot_isinstance (pa_cons (pv 2) (pa_cons (pe_bltn (v := V.ty "bool") rfl T.b.bool_ (by decide +kernel) rfl) pa_nil)))) (pw_or (pt_cmpR op_lt (pv 2) pe_int (nomark _)) (pw_or1 (pt_cmpR op_ge (pv 2) (pe_callB u_len rfl T.b.len_ boot_len (pa_cons (pe_ix ix_seq (pv 0) (pv 3) (fun _ _ => rfl)) pa_nil)) (nomark _))))))))
    (pss_one (ps_ret pe_non))
    pss_nil)
  (pss_cons (ps_set (i := 4) sc_item.nd rfl (Or.inl rfl) (pe_ix ix_seq (pe_ix ix_seq (pv 0) (pv 3) (fun _ _ => rfl)) (pv 2) (fun _ _ => rfl)))
  (pss_cons (ps_if (pt_cmpR (u_eq hr.units) (pv 3) pe_int (nomark _))
    (pss_one (ps_ret (pe_tup (pa_cons (pe_ix ix_seq (pv 4) pe_int (fun _ _ => rfl)) (pa_cons (pe_ix ix_seq (pv 4) pe_int (fun _ _ => rfl)) (pa_cons (pe_ix ix_seq (pv 4) pe_int (fun _ _ => rfl)) (pa_cons pe_bl (pa_cons pe_bl pa_nil))))))))
    pss_nil)
  (pss_one (ps_ret (pe_tup (pa_cons (pe_ix ix_seq (pv 4) pe_int (fun _ _ => rfl)) (pa_cons (pe_ix ix_seq (pv 4) pe_int (fun _ _ => rfl)) (pa_cons pe_non (pa_cons (pe_cmpR (u_eq hr.units) (pe_ix ix_seq (pv 4) pe_int (fun _ _ => rfl)) pe_str (nomark _)) (pa_cons (pe_cmpR (u_eq hr.units) (pe_ix ix_seq (pv 4) pe_int (fun _ _ => rfl)) pe_str (nomark _)) pa_nil))))))))))))), ?_⟩
    obtain ⟨ty, kt⟩ := (tk.th (K := K)).kit
    walk_at "el"
    refine ite2 (fun h0 => ?_) (fun h0 => ?_)
    · walk_at "el"
      refine kn (item_none tk fun a wd i r e ha _ => ?_) _ (Same.refl _)
      subst e
      rw [isT_of ha] at h0
      cases h0
    obtain ⟨a, ys, rfl, ha⟩ := isT_tup (tk.th (K := K)) (by simpa using h0)
    walk_at "el"
    refine ite2 (fun h1 => ?_) (fun h1 => ?_)
    · walk_at "el"
      refine kn (item_none tk fun a' wd i r e ha' _ => ?_) _ (Same.refl _)
      cases e
      rw [ha] at ha'
      cases ha'
      exact absurd h1 (by show ¬ (!decide (V.int 2 = V.int 2)) = true; decide)
    have l2 : ys.length = 2 := by
      have q : (ys.length : Int) = 2 := by simpa using h1
      omega
    match ys, l2 with
    | [y, z], _ =>
      obtain ⟨e1, e2, rfl, t1, t2⟩ := tk.two ha
      obtain ⟨ty1, kt1⟩ := (t1.th (K := K)).kit
      walk_at "el"
      refine ite2 (fun h2 => ?_) (fun h2 => ?_)
      · walk_at "el"
        refine kn (item_none tk fun a' wd i r e ha' _ => ?_) _ (Same.refl _)
        cases e
        rw [ha] at ha'
        cases ha'
        cases h2
      obtain ⟨s, rfl⟩ : ∃ s, y = .str s := by cases y <;> first | exact ⟨_, rfl⟩ | exact absurd rfl h2
      cases t1.strD
      have hp := hL.hp
      obtain ⟨ty2, kt2⟩ := (t2.th (K := K)).kit
      have bad : ∀ H', Same H H' → (∀ i r, z = .int i → srcD D s i = some r → False) → Q .non H' := fun H' sH hbad => by
        refine kn (item_none tk fun a' wd i r e ha' hs => ?_) _ sH
        cases e
        rw [ha] at ha'
        cases ha'
        exact hbad i r rfl hs
      walk_at "el"
      by_cases c1 : s = "told"
      · subst c1
        rw [decide_eq_true rfl]
        walk_at "el"
        refine ⟨by decide, fun q1 hq1 => ?_⟩
        have e1 := nw_of hq1
        have ha1 := e1 (.lst [.int 0, .non]) _ _ ha
        walk_at "el"
        refine ⟨by decide, fun q2 hq2 => ?_⟩
        have e2 := nw_of hq2
        refine n_notinT upd_same rfl rfl inV_l ?_
        walk_at "el"
        refine n_ixL (SqL.of (e2 _ _ _ upd_same)) (v := .int 0) (by rfl) ?_
        have s2 : Same H (upd (upd H q1 (.lst [.int 0, .non])) q2 (.tup [.str "told", .str "sure"])) := fun a o h => e2 (.tup [.str "told", .str "sure"]) a o (e1 (.lst [.int 0, .non]) a o h)
        have LL := hL.same s2
        have k2 := (t2.same s2).th (K := K)
        generalize upd (upd H q1 (.lst [.int 0, .non])) q2 (.tup [.str "told", .str "sure"]) = H2 at s2 LL k2 ⊢
        clear e1 e2 hq1 hq2 ha1
        obtain ⟨ty3, kt3⟩ := k2.kit
        have hp2 := LL.hp
        have hl2 := LL.hl .tel
        walk_at "el"
        refine ite2 (fun g1 => ?_) (fun g1 => ?_)
        · walk_at "el"
          exact bad _ s2 fun i r e _ => by subst e; exact absurd g1 (by simp [isI])
        rcases isI_cases (by simpa using g1) with ⟨i, rfl⟩ | ⟨bb, rfl⟩
        · walk_at "el"
          refine ite2 (fun g2 => by cases g2) (fun _ => ?_)
          walk_at "el"
          refine ite2 (fun g3 => ?_) (fun g3 => ?_)
          · have q : i < 0 := by simpa using g3
            walk_at "el"
            refine bad _ s2 fun i' r e hs => ?_
            cases e
            rcases src_cases hs with ⟨_, n, x, rfl, _⟩ | ⟨h, _⟩
            · omega
            · exact absurd h (by decide)
          have q : ¬ i < 0 := by simpa using g3
          obtain ⟨n, rfl⟩ : ∃ n : Nat, i = n := ⟨i.toNat, by omega⟩
          walk_at "el"
          rw [LL.r.t.len]
          refine ite2 (fun g4 => ?_) (fun g4 => ?_)
          · have q4 : (D.T.length : Int) ≤ n := by simpa using g4
            walk_at "el"
            refine bad _ s2 fun i' r e hs => ?_
            cases e
            rcases src_cases hs with ⟨_, m, x, e, hm, _⟩ | ⟨h, _⟩
            · have := (List.getElem?_eq_some_iff.mp hm).1
              omega
            · exact absurd h (by decide)
          have q4 : ¬ (D.T.length : Int) ≤ n := by simpa using g4
          have hn : n < D.T.length := by omega
          obtain ⟨u, hu, hv⟩ := LL.r.t.get (List.getElem?_eq_getElem hn)
          walk_at "el"
          refine n_ixL (SqL.of hl2) (atI_nat hu) ?_
          walk_at "el"
          rw [decide_eq_true rfl]
          walk_at "el"
          refine ⟨by show 5 ≤ sizeLine; decide, fun q5 hq5 => ?_⟩
          cases t2.intD
          refine ks ⟨D.T[n].2.1, D.T[n].2.2, some D.T[n].1, true, true⟩ ?_ _ _ (L2.Same.nw s2 hq5) upd_same
          show srcD D "told" n = _
          unfold srcD
          rw [if_pos rfl, atZ_nat, List.getElem?_eq_getElem hn]
          rfl
        · walk_at "el"
          refine ite2 (fun _ => ?_) (fun g2 => absurd rfl g2)
          walk_at "el"
          exact bad _ s2 fun i r e _ => by cases e
      · rw [decide_eq_false (fun h => c1 (V.str.inj h))]
        walk_at "el"
        refine ⟨by decide, fun q1 hq1 => ?_⟩
        have e1 := nw_of hq1
        have ha1 := e1 (.lst [.int 2, .non]) _ _ ha
        walk_at "el"
        refine ⟨by decide, fun q2 hq2 => ?_⟩
        have e2 := nw_of hq2
        have s2 : Same H (upd (upd H q1 (.lst [.int 2, .non])) q2 (.tup [.str "told", .str "sure"])) := fun a o h => e2 (.tup [.str "told", .str "sure"]) a o (e1 (.lst [.int 2, .non]) a o h)
        by_cases c2 : s = "sure"
        · subst c2
          refine n_notinT upd_same rfl rfl inV_r ?_
          walk_at "el"
          have v1 := e2 (.tup [.str "told", .str "sure"]) _ _ (upd_same (H := H) (a := q1) (o := .lst [.int 2, .non]))
          refine n_ixL (SqL.of v1) (v := .int 2) (by rfl) ?_
          have LL := hL.same s2
          have k2 := (t2.same s2).th (K := K)
          generalize upd (upd H q1 (.lst [.int 2, .non])) q2 (.tup [.str "told", .str "sure"]) = H2 at s2 LL k2 ⊢
          clear e1 e2 hq1 hq2 ha1 v1
          obtain ⟨ty3, kt3⟩ := k2.kit
          have hp2 := LL.hp
          have hl2 := LL.hl .sur
          walk_at "el"
          refine ite2 (fun g1 => ?_) (fun g1 => ?_)
          · walk_at "el"
            exact bad _ s2 fun i r e _ => by subst e; exact absurd g1 (by simp [isI])
          rcases isI_cases (by simpa using g1) with ⟨i, rfl⟩ | ⟨bb, rfl⟩
          · walk_at "el"
            refine ite2 (fun g2 => by cases g2) (fun _ => ?_)
            walk_at "el"
            refine ite2 (fun g3 => ?_) (fun g3 => ?_)
            · have q : i < 0 := by simpa using g3
              walk_at "el"
              refine bad _ s2 fun i' r e hs => ?_
              cases e
              rcases src_cases hs with ⟨h, _⟩ | ⟨_, n, x, rfl, _⟩
              · exact absurd h (by decide)
              · omega
            have q : ¬ i < 0 := by simpa using g3
            obtain ⟨n, rfl⟩ : ∃ n : Nat, i = n := ⟨i.toNat, by omega⟩
            walk_at "el"
            rw [LL.r.s.len]
            refine ite2 (fun g4 => ?_) (fun g4 => ?_)
            · have q4 : (D.S.length : Int) ≤ n := by simpa using g4
              walk_at "el"
              refine bad _ s2 fun i' r e hs => ?_
              cases e
              rcases src_cases hs with ⟨h, _⟩ | ⟨_, m, x, e, hm, _⟩
              · exact absurd h (by decide)
              · have := (List.getElem?_eq_some_iff.mp hm).1
                omega
            have q4 : ¬ (D.S.length : Int) ≤ n := by simpa using g4
            have hn : n < D.S.length := by omega
            obtain ⟨u, hu, hv⟩ := LL.r.s.get (List.getElem?_eq_getElem hn)
            walk_at "el"
            refine n_ixL (SqL.of hl2) (atI_nat hu) ?_
            walk_at "el"
            rw [decide_eq_false (by decide)]
            walk_at "el"
            refine ⟨by show 5 ≤ sizeLine; decide, fun q5 hq5 => ?_⟩
            cases t2.intD
            refine ks ⟨D.S[n].1, D.S[n].2.2, none, decide (D.S[n].2.1 = ("least" : Str)), decide (D.S[n].2.1 = ("most" : Str))⟩ ?_ _ _ (L2.Same.nw s2 hq5) ?_
            · show srcD D "sure" n = _
              unfold srcD
              rw [if_neg (by decide), if_pos rfl, atZ_nat, List.getElem?_eq_getElem hn]
              rfl
            · rw [upd_same]
              have f : ∀ (a b : Str), decide (V.str a = V.str b) = decide (a = b) := fun a b => by
                rw [Bool.eq_iff_iff, decide_eq_true_iff, decide_eq_true_iff]
                exact ⟨fun h => V.str.inj h, fun h => by rw [h]⟩
              rw [f, f]
              rfl
          · walk_at "el"
            refine ite2 (fun _ => ?_) (fun g2 => absurd rfl g2)
            walk_at "el"
            exact bad _ s2 fun i r e _ => by cases e
        · refine n_notinT upd_same rfl rfl (inV_no c1 c2) ?_
          walk_at "el"
          have v1 := e2 (.tup [.str "told", .str "sure"]) _ _ (upd_same (H := H) (a := q1) (o := .lst [.int 2, .non]))
          refine n_ixL (SqL.of v1) (v := .non) (by rfl) ?_
          walk_at "el"
          refine bad _ s2 fun i r _ hs => ?_
          rcases src_cases hs with ⟨h, _⟩ | ⟨h, _⟩
          · exact c1 h
          · exact c2 h
theorem ok_l_is_link (F : Fun K "_law_is_link" "_law_is_link" s_l_is_link f fd) (T : Tb mg) (c_item : Cal P w K mg base CX0 1 "_law_item" ["_law_parts_here", "_law_thing"] (spLItem K)) (c_l_is_way : Cal P w K mg base CX0 1 "_law_is_way" ["_law_gaps", "_law_a", "_law_b", "_law_thing"] (spWayL K)) :
    FnOk P w K mg base CX0 2 f fd ["_law_parts_here", "_law_thing"] (spLLink K) := by
  refine F.ok sc_l_is_link (fun vs H Q E h => ?_) (fun cdv A outer s H vs Q E hr h => ?_)
  · obtain ⟨_, _, _, _, _, _, _, rfl, _⟩ := h
    rfl
  · obtain ⟨b, p, l, xs, D, x, d, rfl, hL, tk, hbu, k⟩ := h
    refine ⟨_, (pss_cons (ps_if (PW.pt (pw_or (pt_not (pt_val (pe_callB u_isi rfl T.b.isinstance_ boot_isinstance (pa_cons (pv 1) (pa_cons (pe_bltn (v := V.ty "tuple") rfl T.b.tuple_ (by decide +kernel) rfl) pa_nil))))) (pw_or1 (pt_cmpR (u_ne hr.units) (pe_callB u_len rfl T.b.len_ boot_len (pa_cons (pv 1) pa_nil)) pe_int (nomark _)))))
    (pss_one (ps_ret pe_bl))
    pss_nil)
  (pss_cons (ps_par (i := 2) (j := 3) rfl sc_l_is_link.nd rfl rfl (by decide) rfl rfl (pa_cons (pe_cal c_item (hr.mono (by decide)) pass0 (pa_cons (pv 0) (pa_cons (pe_ix ix_seq (pv 1) pe_int (fun _ _ => rfl)) pa_nil))) (pa_cons (pe_cal c_item (hr.mono (by decide)) pass0 (pa_cons (pv 0) (pa_cons (pe_ix ix_seq (pv 1) pe_int (fun _ _ => rfl)) pa_nil))) pa_nil)) (by with_unfolding_all rfl))
  (pss_cons (ps_if (PW.pt (pw_or (pt_cmpR u_is (pv 2) pe_non (nomark _)) (pw_or (pt_cmpR u_is (pv 3) pe_non (nomark _)) (pw_or (pt_not (pt_val (pe_ix ix_seq (pv 2) pe_int (fun _ _ => rfl)))) (pw_or1 (pt_not (pt_val (pe_ix ix_seq (pv 3) pe_int (fun _ _ => rfl)))))))))
    (pss_one (ps_ret pe_bl))
    pss_nil)
  (pss_cons (ps_if (pt_not (pt_val (pe_cal c_l_is_way (hr.mono (by decide)) pass0 (pa_cons (pe_ix ix_seq (pv 0) pe_int (fun _ _ => rfl)) (pa_cons (pe_ix ix_seq (pv 2) pe_int (fun _ _ => rfl)) (pa_cons (pe_ix ix_seq (pv 3) pe_int (fun _ _ => rfl)) (pa_cons (pe_ix ix_seq (pv 1) pe_int (fun _ _ => rfl)) pa_nil)))))))
    (pss_one (ps_ret pe_bl))
    pss_nil)
  (pss_one (ps_ret (pe_cmpR op_gt (pe_op u_add (pe_ix ix_seq (pv 2) pe_int (fun _ _ => rfl)) (pe_callB (cr_sum rfl) rfl T.b.sum_ (by decide +kernel) (pa_cons (pe_lc (own := [("_law_index", 4)]) rfl sc_l_is_link.nd (u_iter (pe_ix ix_seq (pv 1) pe_int (fun _ _ => rfl))) (blkOk_by (own := [("_law_index", 4)]) (N := N_l_is_link) (sc := defScope s_l_is_link) (by decide +kernel)) (fun _ _ _ _ _ => (pg_name (i := 4) sc_l_is_link.nd rfl (Or.inl rfl))) (fun _ _ _ _ _ => pts_nil) (fun _ _ _ _ _ => (pe_ix (show IxR _ (rIx K) from ix_seq) (pe_ix (show IxR _ (rIx K) from ix_seq) (pe_ix (show IxR _ (rIx K) from ix_seq) (pv 0) pe_int (fun _ _ => rfl)) (pv 4) (fun _ _ => rfl)) pe_int (fun _ _ => rfl)))) pa_nil))) (pe_ix ix_seq (pv 3) pe_int (fun _ _ => rfl)) (nomark _)))))))), ?_⟩
    obtain ⟨ty, kt⟩ := (tk.th (K := K)).kit
    walk_at "el"
    refine ite2 (fun h0 => ?_) (fun h0 => ?_)
    · walk_at "el"
      have e : linkB D d = false := by
        unfold linkB
        split
        · exfalso
          obtain ⟨a, xs, rfl, ha, ta⟩ := tk.tupD
          rw [isT_of ha] at h0
          cases h0
        · rfl
      rw [e] at k
      exact k _ (Same.refl _)
    obtain ⟨a, ys, rfl, ha⟩ := isT_tup (tk.th (K := K)) (by simpa using h0)
    walk_at "el"
    refine ite2 (fun h1 => ?_) (fun h1 => ?_)
    · walk_at "el"
      have e : linkB D d = false := by
        unfold linkB
        split
        · exfalso
          obtain ⟨a', xs, e, ha', ta⟩ := tk.tupD
          cases e
          rw [ha] at ha'
          cases ha'
          have l : ys.length = 3 := by cases ta with | cons _ t => cases t with | cons _ t => cases t with | cons _ t => cases t; rfl
          rw [l] at h1
          exact absurd h1 (by show ¬ (!decide (V.int 3 = V.int 3)) = true; decide)
        · rfl
      rw [e] at k
      exact k _ (Same.refl _)
    have l3 : ys.length = 3 := by
      have q : (ys.length : Int) = 3 := by simpa using h1
      omega
    match ys, l3 with
    | [x1, x2, x3], _ =>
      obtain ⟨d1, d2, d3, rfl, t1, t2, t3⟩ := tk.three ha
      walk_at "el"
      refine ⟨b, p, l, xs, D, x1, d1, rfl, hL, t1, fun hn1 H1 s1 => ?_, fun r1 hr1 q1 H1 s1 hq1 => ?_⟩
      · have e : linkB D (.tuple [d1, d2, d3]) = false := by show (match itemD D d1, itemD D d3 with | some a, some b => _ | _, _ => false) = false; rw [hn1]
        rw [e] at k
        have ha1 := s1 _ _ ha
        walk_at "el"
        refine ⟨b, p, l, xs, D, x3, d3, rfl, hL.same s1, t3.same s1, fun hn3 H2 s2 => ?_, fun r3 hr3 q3 H2 s2 hq3 => ?_⟩
        · walk_at "el"
          exact k _ (s1.trans s2)
        · walk_at "el"
          exact k _ (s1.trans s2)
      · have ha1 := s1 _ _ ha
        walk_at "el"
        refine ⟨b, p, l, xs, D, x3, d3, rfl, hL.same s1, t3.same s1, fun hn3 H2 s2 => ?_, fun r3 hr3 q3 H2 s2 hq3 => ?_⟩
        · have e : linkB D (.tuple [d1, d2, d3]) = false := by show (match itemD D d1, itemD D d3 with | some a, some b => _ | _, _ => false) = false; rw [hn3]; cases itemD D d1 <;> rfl
          rw [e] at k
          walk_at "el"
          refine ite2 (fun h => by simp at h) (fun _ => ?_)
          walk_at "el"
          exact k _ (s1.trans s2)
        · have s12 := s1.trans s2
          have hq1' := s2 _ _ hq1
          have ha2 := s12 _ _ ha
          have LL := hL.same s12
          have hp2 := LL.hp
          rw [link_eq, hr1, hr3] at k
          have k1 : ∀ H', Same H H' → Q (.bl (r1.fl && (r3.ce && (wayB D.G r1.ev r3.ev d2 && decide (r1.num + sumW D.G d2 > r3.num))))) H' := k
          clear k
          walk_at "el"
          refine ite2 (fun h => by simp at h) (fun _ => ?_)
          walk_at "el"
          refine ite2 (fun h => by simp at h) (fun _ => ?_)
          walk_at "el"
          rcases g1 : r1.fl
          · rw [g1, Bool.false_and] at k1
            walk_at "el"
            exact k1 _ s12
          rw [g1, Bool.true_and] at k1
          walk_at "el"
          rcases g3 : r3.ce
          · rw [g3, Bool.false_and] at k1
            walk_at "el"
            exact k1 _ s12
          rw [g3, Bool.true_and] at k1
          have t22 := t2.same s12
          walk_at "el"
          refine ⟨l .gap, _, D.G, r1.ev, r3.ev, x2, rfl, LL.r.g.gaps (.inl (LL.hl .gap)), t22.th, t22.els, fun b3 hb3 => ?_⟩
          rw [isWay_tk t22] at hb3
          rcases b3 with _ | _
          · walk_at "el"
            have e : wayB D.G r1.ev r3.ev d2 = false := by
              rw [← Bool.not_eq_true]
              exact fun h => absurd (hb3.mpr h) (by decide)
            rw [e, Bool.false_and] at k1
            exact k1 _ s12
          · rw [hb3.mp rfl, Bool.true_and] at k1
            have hw := hb3.mp rfl
            cases d2 with
            | tuple ds =>
              obtain ⟨q, zs, rfl, hq, ta⟩ := t22.tupD
              have hw' : wayTo D.G r1.ev zs = some r3.ev := (way_toV (some r1.ev) ta).symm.trans (of_decide_eq_true hw)
              have hints := way_ints _ _ _ hw'
              have zl : zs.length ≤ 300000 := by
                have z := tk_len ta
                have b3 := len_bulk ds
                have b2 : PyData.bulkAll ds ≤ (PyData.tuple [d1, .tuple ds, d3]).bulk := by
                  simp only [PyData.bulk, PyData.bulkAll]
                  omega
                omega
              walk_at "el"
              refine a_iSeq (.inr ?_)
              walk_at "el"
              refine ⟨q, rfl, ⟨_, SqT.of hq⟩, fun D0 hD0 => ?_⟩
              have e1 := nw_of hD0
              refine lc_of (walk_tup (xs := zs)) (fun i H3 => Same H2 H3 ∧ ∃ ns : List Int, H3 D0 = some (.lst (ns.map V.int)) ∧ ns = (zs.take i).map (gapN D.G)) ⟨e1 _, [], upd_same, rfl⟩ (fun i H3 hi h => SqT.of (h.1 _ _ hq)) ?_ ?_
              · rintro i y H3 H4 hi ⟨s3, ns, hD3, hns⟩ ⟨rfl, hyi⟩
                obtain ⟨n, rfl, hn⟩ := hints y (List.mem_of_getElem? hyi)
                have LL3 := LL.same s3
                have hp3 := LL3.hp
                have hl3 := LL3.hl .gap
                obtain ⟨u, hu, hv⟩ := LL3.r.g.get (List.getElem?_eq_getElem hn)
                walk_at "el"
                refine ⟨rfl, ?_⟩
                walk_at "el"
                refine n_ixL (SqL.of hl3) (atI_nat hu) ?_
                walk_at "el"
                refine ⟨_, hD3, ?_, s3.mu hD0, ns ++ [D.G[n].2.2], by rw [upd_same, List.map_append]; rfl, ?_⟩
                · rw [List.length_map, hns, List.length_map, List.length_take]
                  exact Nat.lt_of_le_of_lt (Nat.min_le_right _ _) (Nat.lt_of_le_of_lt zl (by decide))
                · rw [List.take_add_one, hyi, List.map_append, hns]
                  congr 1
                  show [D.G[n].2.2] = [((atZ D.G n).map fun x => x.2.2).getD 0]
                  rw [atZ_nat, List.getElem?_eq_getElem hn]
                  rfl
              · rintro H3 ⟨s3, ns, hD3, hns⟩
                rw [List.take_length] at hns
                have hq1'' := s3 _ _ hq1'
                have hq3'' := s3 _ _ hq3
                walk_at "el"
                refine ⟨D0, ns, rfl, SqL.of hD3, ?_⟩
                walk_at "el"
                have es : sumW D.G (.tuple ds) = sumV D.G zs := sum_toV ta
                rw [es] at k1
                rw [hns]
                exact k1 _ (s12.trans s3)
            | _ => cases hw
theorem ok_sources (F : Fun K "_law_sources" "_law_sources" s_sources f fd) (T : Tb mg) : FnOk P w K mg base CX0 1 f fd ["_law_parts_here"] (spSrcs K) := by
  refine F.ok sc_sources (fun vs H Q E h => ?_) (fun cdv A outer s H vs Q E hr h => ?_)
  · obtain ⟨_, _, _, _, _, rfl, _⟩ := h
    rfl
  · obtain ⟨b, p, l, xs, D, rfl, hL, lt, ls, k⟩ := h
    refine ⟨_, (pss_one (ps_ret (pe_op u_add (pe_lc (own := [("_law_k", 1)]) rfl sc_sources.nd (pi_range1 rfl T.b.range_ (pa_cons (pe_callB u_len rfl T.b.len_ boot_len (pa_cons (pe_ix ix_seq (pv 0) pe_int (fun _ _ => rfl)) pa_nil)) pa_nil)) (blkOk_by (own := [("_law_k", 1)]) (N := N_sources) (sc := defScope s_sources) (by decide +kernel)) (fun _ _ _ _ _ => (pg_name (i := 1) sc_sources.nd rfl (Or.inl rfl))) (fun _ _ _ _ _ => pts_nil) (fun _ _ _ _ _ => (pe_tup (pa_cons pe_str (pa_cons (pv 1) pa_nil))))) (pe_lc (own := [("_law_k", 1)]) rfl sc_sources.nd (pi_range1 rfl T.b.range_ (pa_cons (pe_callB u_len rfl T.b.len_ boot_len (pa_cons (pe_ix ix_seq (pv 0) pe_int (fun _ _ => rfl)) pa_nil)) pa_nil)) (blkOk_by (own := [("_law_k", 1)]) (N := N_sources) (sc := defScope s_sources) (by decide +kernel)) (fun _ _ _ _ _ => (pg_name (i := 1) sc_sources.nd rfl (Or.inl rfl))) (fun _ _ _ _ _ => pts_nil) (fun _ _ _ _ _ => (pe_tup (pa_cons pe_str (pa_cons (pv 1) pa_nil)))))))), ?_⟩
    have hp := hL.hp
    have hlt := hL.hl .tel
    have hlt2 := hL.r.t.len
    walk_at "el"
    refine ⟨by omega, by omega, fun D0 hD0 => ?_⟩
    have e0 := nw_of hD0
    refine lc_of walk_range (fun i H3 => Same H H3 ∧ ∃ ws, H3 D0 = some (.lst ws) ∧ ws.length = i ∧ SrcsAre H3 D ws) ⟨e0 _, [], upd_same, rfl, fun _ h => nomatch h⟩ (fun _ _ _ _ => trivial) ?_ ?_
    · rintro i x H3 H4 hi ⟨s3, ws, hD3, hws, hsr⟩ hx
      obtain ⟨e5, rfl⟩ : H4 = H3 ∧ x = .int (0 + i) := hx
      subst e5
      rw [Int.zero_add]
      walk_at "el"
      refine ⟨rfl, ?_⟩
      walk_at "el"
      refine ⟨by show 2 ≤ sizeLine; decide, fun q hq => ?_⟩
      have e1 := nw_of hq
      have hi2 : i < D.T.length := by omega
      refine ⟨ws, e1 _ _ _ hD3, by rw [hws]; exact Nat.lt_of_lt_of_le (m := 1001) (by omega) (by decide), ?_, ws ++ [.ref q], upd_same, by rw [List.length_append, hws]; rfl, ?_⟩
      · exact (L2.Same.nw s3 hq).mu hD0
      · have ne : q ≠ D0 := fun z => by subst z; rw [hD3] at hq; cases hq
        refine all_app (fun v hv => ?_) (all_cons ⟨q, "told", i, ⟨D.T[i].2.1, D.T[i].2.2, some D.T[i].1, true, true⟩, rfl, by rw [upd_ne ne]; exact upd_same, ?_⟩ all_nil)
        · obtain ⟨q', wd, j, r, rfl, hq', hs⟩ := hsr v hv
          exact ⟨q', wd, j, r, rfl, by rw [upd_ne (fun z => by subst z; rw [hD3] at hq'; cases hq')]; exact e1 _ _ _ hq', hs⟩
        · show srcD D "told" i = _
          unfold srcD
          rw [if_pos rfl, atZ_nat, List.getElem?_eq_getElem hi2]
          rfl
    · rintro H3 ⟨s3, ws, hD3, hws, hsr⟩
      have L3 := hL.same s3
      have hp3 := L3.hp
      have hls := L3.hl .sur
      have hls2 := L3.r.s.len
      walk_at "el"
      refine ⟨by omega, by omega, fun D1 hD1 => ?_⟩
      have e1 := nw_of hD1
      refine lc_of walk_range (fun i H5 => Same H3 H5 ∧ ∃ us, H5 D1 = some (.lst us) ∧ us.length = i ∧ SrcsAre H5 D us) ⟨e1 _, [], upd_same, rfl, fun _ h => nomatch h⟩ (fun _ _ _ _ => trivial) ?_ ?_
      · rintro i x H5 H4 hi ⟨s5, us, hD5, hus, hur⟩ hx
        obtain ⟨e5, rfl⟩ : H4 = H5 ∧ x = .int (0 + i) := hx
        subst e5
        rw [Int.zero_add]
        walk_at "el"
        refine ⟨rfl, ?_⟩
        walk_at "el"
        refine ⟨by show 2 ≤ sizeLine; decide, fun q hq => ?_⟩
        have e1 := nw_of hq
        have hi2 : i < D.S.length := by omega
        refine ⟨us, e1 _ _ _ hD5, by rw [hus]; exact Nat.lt_of_lt_of_le (m := 1001) (by omega) (by decide), ?_, us ++ [.ref q], upd_same, by rw [List.length_append, hus]; rfl, ?_⟩
        · exact (L2.Same.nw s5 hq).mu hD1
        · have ne : q ≠ D1 := fun z => by subst z; rw [hD5] at hq; cases hq
          refine all_app (fun v hv => ?_) (all_cons ⟨q, "sure", i, ⟨D.S[i].1, D.S[i].2.2, none, decide (D.S[i].2.1 = ("least" : Str)), decide (D.S[i].2.1 = ("most" : Str))⟩, rfl, by rw [upd_ne ne]; exact upd_same, ?_⟩ all_nil)
          · obtain ⟨q', wd, j, r, rfl, hq', hs⟩ := hur v hv
            exact ⟨q', wd, j, r, rfl, by rw [upd_ne (fun z => by subst z; rw [hD5] at hq'; cases hq')]; exact e1 _ _ _ hq', hs⟩
          · show srcD D "sure" i = _
            unfold srcD
            rw [if_neg (by decide), if_pos rfl, atZ_nat, List.getElem?_eq_getElem hi2]
            rfl
      · rintro H5 ⟨s5, us, hD5, hus, hur⟩
        walk_at "el"
        refine n_cat (s5 _ _ hD3) hD5 (Nat.le_trans (m := 2000) (by omega) (by decide)) fun r hr => ?_
        have e6 := nw_of hr
        refine k _ r (ws ++ us) (fun a o h => e6 _ a o (s5 _ _ (s3 _ _ h))) ((s3.trans s5).free hr) upd_same (all_app (fun v hv => ?_) (fun v hv => ?_)) (by rw [List.length_append]; omega)
        · obtain ⟨q', wd, j, r, rfl, hq', hs⟩ := hsr v hv
          exact ⟨q', wd, j, r, rfl, e6 _ _ _ (s5 _ _ hq'), hs⟩
        · obtain ⟨q', wd, j, r, rfl, hq', hs⟩ := hur v hv
          exact ⟨q', wd, j, r, rfl, e6 _ _ _ hq', hs⟩
end
end EL

/- part Q -/
namespace EL
open PySem PySem.Spec PyProof.Rows L2
open PySem.W (Frag)
abbrev s__is_literal : Stmt := top 33
abbrev N__is_literal : List Str := ["book", "thing"]
theorem sc__is_literal : FnScope N__is_literal ["book", "thing"] (defScope s__is_literal) := ⟨rfl, rfl, rfl, by decide +kernel, rfl, by decide +kernel, by decide +kernel⟩
abbrev s__pairs_by_clause : Stmt := top 34
abbrev N__pairs_by_clause : List Str := ["clause", "w", "kind", "v", "other"]
theorem sc__pairs_by_clause : FnScope N__pairs_by_clause ["clause"] (defScope s__pairs_by_clause) := ⟨rfl, rfl, rfl, by decide +kernel, rfl, by decide +kernel, by decide +kernel⟩
abbrev s__pairs_by_link : Stmt := top 35
abbrev N__pairs_by_link : List Str := ["book", "link", "start", "_", "end", "w", "v"]
theorem sc__pairs_by_link : FnScope N__pairs_by_link ["book", "link"] (defScope s__pairs_by_link) := ⟨rfl, rfl, rfl, by decide +kernel, rfl, by decide +kernel, by decide +kernel⟩
abbrev s_is_step : Stmt := top 36
abbrev N_is_step : List Str := ["book", "thing", "one", "why", "other", "index"]
theorem sc_is_step : FnScope N_is_step ["book", "thing"] (defScope s_is_step) := ⟨rfl, rfl, rfl, by decide +kernel, rfl, by decide +kernel, by decide +kernel⟩
local macro_rules | `(tactic| walk_at "el1") => `(tactic| with_reducible first
  | refine a_sasg ?_ | refine a_sdrop ?_ | refine a_saugS ?_ | refine a_spar ?_ | refine a_seq ?_ | refine a_asg ?_ | refine a_drop ?_ | refine a_ret ?_ | refine a_if ?_ | refine a_next ?_
  | refine a_op ?_ | refine a_cons ?_ | refine a_nil ?_ | refine a_cb ?_ | refine a_call ?_ | refine a_c ?_ | refine a_gn ?_ | refine a_nx ?_ | refine a_rt ?_ | refine a_un ?_
  | refine a_test ?_ | refine a_B ?_ | refine a_bl ?_ | refine a_and ?_ | refine a_or ?_ | refine a_not ?_ | refine a_andV ?_ | refine a_orV ?_ | refine a_notV ?_ | refine a_ifx ?_ | refine a_chain ?_
  | refine a_nT ?_ | refine a_nF ?_ | refine a_fld ?_ | refine a_getF ?_ | refine a_T ?_ | refine a_F ?_ | refine a_tup ?_ | refine a_lst ?_ | refine a_sub ?_ | refine a_augS ?_ | refine a_two ?_ | refine a_I0 ?_ | refine a_U ?_ | refine n_add ?_ | refine n_int ?_ | refine n_ib ?_ | refine a_ip ?_ | refine a_rng1 ?_ | refine a_rng2 ?_ | refine a_bm ?_ | refine a_abs ?_ | refine a_pairs ?_ | refine a_pairs0 ?_ | refine a_bk ?_ | refine a_prp ?_ | refine a_lc ?_ | refine a_yes ?_ | refine a_sl ?_ | refine a_nop ?_ | refine a_prt ?_ | refine a_ex1 ?_ | refine a_for ?_ | refine a_sfor ?_ | refine a_iE1 ?_ | refine a_iEs ?_ | refine a_iEz ?_ | refine a_iEnum ?_ | refine a_iTup ?_ | refine a_iList ?_ | refine a_gcons ?_ | refine a_gnil ?_ | refine a_revT ?_ | refine a_spar3 ?_ | refine a_par3 ?_ | refine a_three ?_)
local macro_rules | `(tactic| walk_at "el2") => `(tactic| first
  | (refine a_var (by rfl) ?_)
  | (refine n_ixL (SqL.of (by assumption)) (by rfl) ?_) | (refine n_ixT (SqT.of (by assumption)) (by rfl) ?_) | (refine n_eq (by rfl) ?_) | (refine n_ne (by rfl) ?_)
  | (refine n_isN ?_) | (refine n_notN ?_) | (refine n_isB ?_) | (refine n_notB ?_) | (refine n_isBI ?_) | (refine n_notBI ?_) | (refine n_len (.inl (SqL.of (by assumption))) ?_) | (refine n_len (.inr (SqT.of (by assumption))) ?_)
  | (refine a_getL (SqL.of (by assumption)) (by rfl) ?_)
  | (refine n_isInt (by assumption) ?_) | (refine n_isBool (by assumption) ?_) | (refine n_isStr (by assumption) ?_) | (refine n_isTup (by assumption) ?_) | (refine n_isLst (by assumption) ?_))
local macro_rules | `(tactic| walk_at "el") => `(tactic| repeat (first | walk_at "el1" | walk_at "el2"))

theorem room65 {k : Nat} {A : Around} (r : Room k A) : A.units + 65 < cLine := by have := r.un; omega
/-! ### literals and steps -/
mutual
theorem tk_dp {K : Frag} {H : Hp} : ∀ (d : PyData) (v : V), Tk H v d → d.hasDict = false → Dp K H v d
  | .none, _, h, _ => by cases h; exact .non
  | .bool _, _, h, _ => by cases h; exact .bl _
  | .int _, _, h, _ => by cases h; exact .int _
  | .str _, _, h, _ => by cases h; exact .str _
  | .list ds, _, h, n => by
    cases h with
    | lst a t => exact .lst (SqL.of a) (tk_dpAll ds _ t n)
  | .tuple ds, _, h, n => by
    cases h with
    | tup a t => exact .tup (SqT.of a) (tk_dpAll ds _ t n)
  | .dict _, _, _, n => by cases n
theorem tk_dpAll {K : Frag} {H : Hp} : ∀ (ds : List PyData) (vs : List V), TkAll H vs ds → PyData.hasDictAll ds = false → DpAll K H vs ds
  | [], _, h, _ => by cases h; exact .nil
  | d :: ds, _, h, n => by
    cases h with
    | cons h1 h2 =>
      have q : (d.hasDict || PyData.hasDictAll ds) = false := n
      rw [Bool.or_eq_false_iff] at q
      exact .cons (tk_dp d _ h1 q.1) (tk_dpAll ds _ h2 q.2)
end
def kindD : PyData → Bool | .str s => decide (s = "early") || decide (s = "late") | _ => false
def belowD (n : Int) : PyData → Bool | .int i => decide (0 ≤ i) && decide (i < n) | _ => false
theorem below_tk {H : Hp} {n : Int} {y : V} {e : PyData} (t : Tk H y e) : belowB y n = belowD n e := by cases t <;> rfl
theorem kind_tk {H : Hp} {y : V} {e : PyData} (t : Tk H y e) : kindB y = kindD e := by cases t <;> rfl
def litB (wi : Int) : PyData → Bool | .tuple [a, k] => belowD wi a && kindD k | _ => false
theorem lit_inv {wi : Int} {d : PyData} (h : litB wi d = true) : ∃ (w : Int) (k : Str), d = .tuple [.int w, .str k] ∧ (k = "early" ∨ k = "late") ∧ 0 ≤ w ∧ w < wi := by
  unfold litB at h
  split at h
  · rename_i a k
    rw [Bool.and_eq_true] at h
    cases a with
    | int w =>
      cases k with
      | str s =>
        have q : (decide (0 ≤ w) && decide (w < wi)) = true := h.1
        have q2 : (decide (s = "early") || decide (s = "late")) = true := h.2
        rw [Bool.and_eq_true, decide_eq_true_iff, decide_eq_true_iff] at q
        rw [Bool.or_eq_true, decide_eq_true_iff, decide_eq_true_iff] at q2
        exact ⟨w, s, rfl, q2, q⟩
      | _ => exact absurd h.2 (by simp [kindD])
    | _ => exact absurd h.1 (by simp [belowD])
  · cases h
abbrev litD (w : Int) (k : Str) : PyData := .tuple [.int w, .str k]
theorem lit_strOk {k : Str} (h : k = "early" ∨ k = "late") : PyData.strOk k = true := by rcases h with rfl | rfl <;> decide +kernel
theorem other_ok {k : Str} : otherK k = "early" ∨ otherK k = "late" := by
  unfold otherK
  split
  · exact .inr rfl
  · exact .inl rfl
def pairsC (x : Int × Str × Int × Str) : List PyData := [.tuple [litD x.1 (otherK x.2.1), litD x.2.2.1 x.2.2.2], .tuple [litD x.2.2.1 (otherK x.2.2.2), litD x.1 x.2.1]]
def pairsW : Option Int → Option Int → List PyData
  | none, none => []
  | none, some v => [.tuple [litD v "late", litD v "early"]]
  | some w, none => [.tuple [litD w "early", litD w "late"]]
  | some w, some v => [.tuple [litD w "early", litD v "early"], .tuple [litD v "late", litD w "late"]]
def pairsOf (D : PD) : PyData → List PyData
  | .tuple [x, _, y] => match itemD D x, itemD D y with
    | some a, some b => pairsW a.wit b.wit
    | _, _ => []
  | _ => []
def inP (ps : List PyData) (one other : PyData) : Bool := ps.any fun z => PyData.eqv z (.tuple [one, other])
def clB (D : PD) (one other : PyData) : PyData → Bool
  | .int i => match atZ D.L i with
    | some x => inP (pairsC x) one other
    | none => false
  | _ => false
def whyB (D : PD) (one other : PyData) : PyData → Bool
  | .tuple [.str s, e] => if s = "clause" then clB D one other e else if s = "link" then linkB D e && inP (pairsOf D e) one other else false
  | _ => false
def stepB (D : PD) (wi : Int) : PyData → Bool
  | .tuple [one, why, other] => litB wi one && (litB wi other && whyB D one other why)
  | _ => false
theorem pairs_nod {w v : Int} {j k : Str} : (PyData.tuple [litD w j, litD v k]).hasDict = false := rfl
theorem shp_lits {w v : Int} {j k : Str} (hj : PyData.strOk j = true) (hk : PyData.strOk k = true) : SeqAt.shaped (.tuple [litD w j, litD v k]) = true := by
  simp [SeqAt.shaped, PyData.canLay0, PyData.canLayAll0, PyData.depth, PyData.depthAll, hj, hk]
theorem shp_pairs2 {w v w' v' : Int} {j k j' k' : Str} (hj : PyData.strOk j = true) (hk : PyData.strOk k = true) (hj' : PyData.strOk j' = true) (hk' : PyData.strOk k' = true) : SeqAt.shaped (.list [.tuple [litD w j, litD v k], .tuple [litD w' j', litD v' k']]) = true := by
  simp [SeqAt.shaped, PyData.canLay0, PyData.canLayAll0, PyData.depth, PyData.depthAll, hj, hk, hj', hk']
theorem shp_pairs1 {w v : Int} {j k : Str} (hj : PyData.strOk j = true) (hk : PyData.strOk k = true) : SeqAt.shaped (.list [.tuple [litD w j, litD v k]]) = true := by
  simp [SeqAt.shaped, PyData.canLay0, PyData.canLayAll0, PyData.depth, PyData.depthAll, hj, hk]
theorem shp_C {x : Int × Str × Int × Str} (h1 : x.2.1 = "early" ∨ x.2.1 = "late") (h2 : x.2.2.2 = "early" ∨ x.2.2.2 = "late") : SeqAt.shaped (.list (pairsC x)) = true := shp_pairs2 (lit_strOk other_ok) (lit_strOk h2) (lit_strOk other_ok) (lit_strOk h1)
theorem shp_W {a b : Option Int} : SeqAt.shaped (.list (pairsW a b)) = true := by
  have e : PyData.strOk "early" = true := by decide +kernel
  have l : PyData.strOk "late" = true := by decide +kernel
  rcases a with _ | a <;> rcases b with _ | b
  · rfl
  · exact shp_pairs1 l e
  · exact shp_pairs1 e l
  · exact shp_pairs2 e e l l
theorem nod_W {a b : Option Int} : (PyData.list (pairsW a b)).hasDict = false := by rcases a with _ | a <;> rcases b with _ | b <;> rfl
/-- x in l, of two literals in a list of pairs -/
theorem n_inP {K : Frag} {H : Hp} {Q : VK} {p r : Addr} {ps : List PyData} {d1 d3 : PyData} {wi : Int} (tp : Tk H (.ref p) (.tuple [d1, d3])) (h1 : litB wi d1 = true) (h3 : litB wi d3 = true) (tr : Tk H (.ref r) (.list ps)) (nd : (PyData.list ps).hasDict = false) (sh : SeqAt.shaped (.list ps) = true)
    (q : Q (.bl (inP ps d1 d3)) H) : rInD K (.ref p) (.ref r) H Q := by
  obtain ⟨w, k, rfl, hk, _⟩ := lit_inv h1
  obtain ⟨v, j, rfl, hj, _⟩ := lit_inv h3
  exact ⟨_, ps, tk_dp _ _ tp rfl, tk_dp _ _ tr nd, shp_lits (lit_strOk hk) (lit_strOk hj), sh, q⟩
def spLit (K : Frag) (C : Addr) : Sp := fun vs H Q _ => ∃ (A : BA) (D : PD) (x : V) (d : PyData), vs = [.ref A.o, x] ∧ BB K C H A D ∧ Tk H x d ∧ ∀ H', Same H H' → Q (.bl (litB A.wi d)) H'
def spPC : Sp := fun vs H Q _ => ∃ (q : Addr) (x : Int × Str × Int × Str), vs = [.ref q] ∧ H q = some (.tup (encL x)) ∧ ∀ H' r, Same H H' → H r = none → Tk H' (.ref r) (.list (pairsC x)) → Q (.ref r) H'
def spPL (K : Frag) (C : Addr) : Sp := fun vs H Q _ => ∃ (A : BA) (D : PD) (q a1 a3 : Addr) (z : V) (w1 w3 : Str) (i1 i3 : Int) (r1 r3 : Src), vs = [.ref A.o, .ref q] ∧ BB K C H A D ∧ H q = some (.tup [.ref a1, z, .ref a3]) ∧ H a1 = some (.tup [.str w1, .int i1]) ∧ srcD D w1 i1 = some r1 ∧ H a3 = some (.tup [.str w3, .int i3]) ∧ srcD D w3 i3 = some r3 ∧
  ∀ H' r, Same H H' → H r = none → Tk H' (.ref r) (.list (pairsW r1.wit r3.wit)) → Q (.ref r) H'
def spIsStep (K : Frag) (C : Addr) : Sp := fun vs H Q _ => ∃ (A : BA) (D : PD) (x : V) (d : PyData), vs = [.ref A.o, x] ∧ BB K C H A D ∧ D.Ok A.ev A.wi ∧ Tk H x d ∧ d.bulk ≤ 300000 ∧ ∀ H', Same H H' → Q (.bl (stepB D A.wi d)) H'
/-- a list of pairs of literals, laid step by step -/
theorem tk_lit {H : Hp} {p : Addr} {w : Int} {k : Str} (h : H p = some (.tup [.int w, .str k])) : Tk H (.ref p) (litD w k) := .tup h (.cons (.int _) (.cons (.str _) .nil))
theorem tk_pair {H : Hp} {p : Addr} {x y : V} {d e : PyData} (h : H p = some (.tup [x, y])) (a : Tk H x d) (b : Tk H y e) : Tk H (.ref p) (.tuple [d, e]) := .tup h (.cons a (.cons b .nil))
section
variable {P : Program} {w : World} {K : Frag} {mg : Str → Option Value} {base : Heap} {f : Addr} {fd : FuncData} {C : Addr}
theorem ok_is_literal (F : Fun K "_is_literal" "_is_literal" s__is_literal f fd) (T : Tb mg) (p_witnesses : PrpG P w K mg base C "witnesses" "_witnesses") (c_is_tuple : Cal P w K mg base CX0 1 "is_tuple" ["thing", "many"] (spTu K)) (c_is_below : Cal P w K mg base CX0 2 "is_below" ["thing", "many"] (spBelow K)) (c_is_kind : Cal P w K mg base CX0 1 "is_kind" ["thing"] (spB kindB K)) :
    FnOk P w K mg base CX0 3 f fd ["book", "thing"] (spLit K C) := by
  refine F.ok sc__is_literal (fun vs H Q E h => ?_) (fun cdv A outer s H vs Q E hr h => ?_)
  · obtain ⟨_, _, _, _, rfl, _⟩ := h
    rfl
  · obtain ⟨B, D, x, d, rfl, hB, tk, k⟩ := h
    refine ⟨_, (pss_one (ps_ret (pe_and (pe_cal c_is_tuple (hr.mono (by decide)) pass0 (pa_cons (pv 1) (pa_cons pe_int pa_nil))) (pe_and (pe_cal c_is_below (hr.mono (by decide)) pass0 (pa_cons (pe_ix ix_seq (pv 1) pe_int (fun _ _ => rfl)) (pa_cons (pe_prp p_witnesses (hr.mono (by decide)) (pv 0)) pa_nil))) (pe_one (pe_cal c_is_kind (hr.mono (by decide)) pass0 (pa_cons (pe_ix ix_seq (pv 1) pe_int (fun _ _ => rfl)) pa_nil))))))), ?_⟩
    have hbk := hB.bk
    walk_at "el"
    refine ⟨x, _, rfl, tk.th, fun b hb => ?_⟩
    rcases b with _ | _
    · walk_at "el"
      have e : litB B.wi d = false := by
        unfold litB
        split
        · exfalso
          obtain ⟨a, xs, rfl, ha, ta⟩ := tk.tupD
          have l : xs.length = 2 := by cases ta with | cons _ t => cases t with | cons _ t => cases t; rfl
          exact absurd (hb.mpr ⟨a, xs, rfl, ha, by rw [l]; rfl⟩) (by decide)
        · rfl
      rw [e] at k
      exact k _ (Same.refl _)
    · obtain ⟨a, xs, rfl, ha, hl⟩ := hb.mp rfl
      match xs, hl with
      | [y, z], _ =>
        obtain ⟨d1, d2, rfl, t1, t2⟩ := tk.two ha
        have k' : ∀ H', Same H H' → Q (.bl (belowD B.wi d1 && kindD d2)) H' := k
        walk_at "el"
        refine n_prp hbk rfl ?_
        walk_at "el"
        refine ⟨y, _, rfl, t1.th, fun H1 s1 => ?_⟩
        rw [below_tk t1]
        have ha1 := s1 _ _ ha
        rcases hy : belowD B.wi d1
        · rw [hy, Bool.false_and] at k'
          walk_at "el"
          exact k' _ s1
        · rw [hy, Bool.true_and] at k'
          walk_at "el"
          refine ⟨z, rfl, (t2.same s1).th, fun H2 s2 => ?_⟩
          rw [kind_tk t2]
          exact k' _ (s1.trans s2)
theorem ok_pairs_by_clause (F : Fun K "_pairs_by_clause" "_pairs_by_clause" s__pairs_by_clause f fd) (T : Tb mg) (c_contrary : Cal P w K mg base CX0 1 "contrary" ["kind"] (fun vs H Q _ => ∃ s, vs = [.str s] ∧ Q (.str (otherK s)) H)) :
    FnOk P w K mg base CX0 2 f fd ["clause"] spPC := by
  refine F.ok sc__pairs_by_clause (fun vs H Q E h => ?_) (fun cdv A outer s H vs Q E hr h => ?_)
  · obtain ⟨_, _, rfl, _⟩ := h
    rfl
  · obtain ⟨q, x, rfl, hq, k⟩ := h
    refine ⟨_, (pss_cons (ps_asg (pv 0) (pg_tup rfl (pgs_cons (pg_name (i := 1) sc__pairs_by_clause.nd rfl (Or.inl rfl)) (pgs_cons (pg_name (i := 2) sc__pairs_by_clause.nd rfl (Or.inl rfl)) (pgs_cons (pg_name (i := 3) sc__pairs_by_clause.nd rfl (Or.inl rfl)) (pgs_cons (pg_name (i := 4) sc__pairs_by_clause.nd rfl (Or.inl rfl)) pgs_nil))))))
  (pss_one (ps_ret (pe_lst (pa_cons (pe_tup (pa_cons (pe_tup (pa_cons (pv 1) (pa_cons (pe_cal c_contrary (hr.mono (by decide)) pass0 (pa_cons (pv 2) pa_nil)) pa_nil))) (pa_cons (pe_tup (pa_cons (pv 3) (pa_cons (pv 4) pa_nil))) pa_nil))) (pa_cons (pe_tup (pa_cons (pe_tup (pa_cons (pv 3) (pa_cons (pe_cal c_contrary (hr.mono (by decide)) pass0 (pa_cons (pv 4) pa_nil)) pa_nil))) (pa_cons (pe_tup (pa_cons (pv 1) (pa_cons (pv 2) pa_nil))) pa_nil))) pa_nil)))))), ?_⟩
    walk_at "el"
    refine a_gtup (SqT.of hq) rfl ?_
    walk_at "el"
    refine ⟨x.2.1, rfl, ?_⟩
    walk_at "el"
    refine ⟨by show 2 ≤ sizeLine; decide, fun t1 h1 => ?_⟩
    have e1 := nw_of h1 (.tup [.int x.1, .str (otherK x.2.1)])
    have g1 := tk_lit (upd_at h1 (.tup [.int x.1, .str (otherK x.2.1)]))
    walk_at "el"
    refine ⟨by show 2 ≤ sizeLine; decide, fun t2 h2 => ?_⟩
    have e2 := nw_of h2 (.tup [.int x.2.2.1, .str x.2.2.2])
    have g2 := tk_lit (upd_at h2 (.tup [.int x.2.2.1, .str x.2.2.2]))
    walk_at "el"
    refine ⟨by show 2 ≤ sizeLine; decide, fun t3 h3 => ?_⟩
    have e3 := nw_of h3 (.tup [.ref t1, .ref t2])
    have g3 := tk_pair (upd_at h3 (.tup [.ref t1, .ref t2])) ((g1.same e2).same e3) (g2.same e3)
    walk_at "el"
    refine ⟨x.2.2.2, rfl, ?_⟩
    walk_at "el"
    refine ⟨by show 2 ≤ sizeLine; decide, fun t4 h4 => ?_⟩
    have e4 := nw_of h4 (.tup [.int x.2.2.1, .str (otherK x.2.2.2)])
    have g4 := tk_lit (upd_at h4 (.tup [.int x.2.2.1, .str (otherK x.2.2.2)]))
    walk_at "el"
    refine ⟨by show 2 ≤ sizeLine; decide, fun t5 h5 => ?_⟩
    have e5 := nw_of h5 (.tup [.int x.1, .str x.2.1])
    have g5 := tk_lit (upd_at h5 (.tup [.int x.1, .str x.2.1]))
    walk_at "el"
    refine ⟨by show 2 ≤ sizeLine; decide, fun t6 h6 => ?_⟩
    have e6 := nw_of h6 (.tup [.ref t4, .ref t5])
    have g6 := tk_pair (upd_at h6 (.tup [.ref t4, .ref t5])) ((g4.same e5).same e6) (g5.same e6)
    walk_at "el"
    refine ⟨by show 2 ≤ sizeLine; decide, fun t7 h7 => ?_⟩
    have e7 := nw_of h7 (.lst [.ref t3, .ref t6])
    have s6 : Same H _ := fun a o h => e6 a o (e5 _ _ (e4 _ _ (e3 _ _ (e2 _ _ (e1 _ _ h)))))
    exact k _ t7 (fun a o h => e7 a o (s6 a o h)) (s6.free h7) (.lst upd_same (.cons (((g3.same e4).same e5 |>.same e6).same e7) (.cons (g6.same e7) .nil)))
theorem ok_pairs_by_link (F : Fun K "_pairs_by_link" "_pairs_by_link" s__pairs_by_link f fd) (T : Tb mg) (c_witness_of : Cal P w K mg base CX0 3 "witness_of" ["book", "source"] (spSrc K C fun r => witV r.wit)) :
    FnOk P w K mg base CX0 4 f fd ["book", "link"] (spPL K C) := by
  refine F.ok sc__pairs_by_link (fun vs H Q E h => ?_) (fun cdv A outer s H vs Q E hr h => ?_)
  · obtain ⟨_, _, _, _, _, _, _, _, _, _, _, _, rfl, _⟩ := h
    rfl
  · obtain ⟨B, D, q, a1, a3, z, w1, w3, i1, i3, r1, r3, rfl, hB, hq, h1, hs1, h3, hs3, k⟩ := h
    obtain ⟨ev1, num1, o1, fl1, ce1⟩ := r1
    obtain ⟨ev3, num3, o3, fl3, ce3⟩ := r3
    refine ⟨_, (pss_cons (ps_asg (pv 1) (pg_tup rfl (pgs_cons (pg_name (i := 2) sc__pairs_by_link.nd rfl (Or.inl rfl)) (pgs_cons (pg_name (i := 3) sc__pairs_by_link.nd rfl (Or.inl rfl)) (pgs_cons (pg_name (i := 4) sc__pairs_by_link.nd rfl (Or.inl rfl)) pgs_nil)))))
  (pss_cons (ps_set (i := 5) sc__pairs_by_link.nd rfl (Or.inl rfl) (pe_cal c_witness_of (hr.mono (by decide)) pass0 (pa_cons (pv 0) (pa_cons (pv 2) pa_nil))))
  (pss_cons (ps_set (i := 6) sc__pairs_by_link.nd rfl (Or.inl rfl) (pe_cal c_witness_of (hr.mono (by decide)) pass0 (pa_cons (pv 0) (pa_cons (pv 4) pa_nil))))
  (pss_cons (ps_if (PW.pt (pw_and (pt_cmpR u_is (pv 5) pe_non (nomark _)) (pw_and1 (pt_cmpR u_is (pv 6) pe_non (nomark _)))))
    (pss_one (ps_ret (pe_lst pa_nil)))
    pss_nil)
  (pss_cons (ps_if (pt_cmpR u_is (pv 5) pe_non (nomark _))
    (pss_one (ps_ret (pe_lst (pa_cons (pe_tup (pa_cons (pe_tup (pa_cons (pv 6) (pa_cons pe_str pa_nil))) (pa_cons (pe_tup (pa_cons (pv 6) (pa_cons pe_str pa_nil))) pa_nil))) pa_nil))))
    pss_nil)
  (pss_cons (ps_if (pt_cmpR u_is (pv 6) pe_non (nomark _))
    (pss_one (ps_ret (pe_lst (pa_cons (pe_tup (pa_cons (pe_tup (pa_cons (pv 5) (pa_cons pe_str pa_nil))) (pa_cons (pe_tup (pa_cons (pv 5) (pa_cons pe_str pa_nil))) pa_nil))) pa_nil))))
    pss_nil)
  (pss_one (ps_ret (pe_lst (pa_cons (pe_tup (pa_cons (pe_tup (pa_cons (pv 5) (pa_cons pe_str pa_nil))) (pa_cons (pe_tup (pa_cons (pv 6) (pa_cons pe_str pa_nil))) pa_nil))) (pa_cons (pe_tup (pa_cons (pe_tup (pa_cons (pv 6) (pa_cons pe_str pa_nil))) (pa_cons (pe_tup (pa_cons (pv 5) (pa_cons pe_str pa_nil))) pa_nil))) pa_nil))))))))))), ?_⟩
    rcases o1 with _ | u1 <;> rcases o3 with _ | u3
    · walk_at "el"
      refine a_gtup (SqT.of hq) rfl ?_
      walk_at "el"
      refine ⟨B, D, a1, w1, i1, _, rfl, hB, h1, hs1, ?_⟩
      simp only [witV]
      walk_at "el"
      refine ⟨B, D, a3, w3, i3, _, rfl, hB, h3, hs3, ?_⟩
      simp only [witV]
      walk_at "el"
      try rw [decide_eq_true rfl]
      walk_at "el"
      try rw [decide_eq_true rfl]
      walk_at "el"
      refine ⟨by decide, fun r hr => ?_⟩
      exact k _ r (nw_of hr _) hr (.lst upd_same .nil)
    · walk_at "el"
      refine a_gtup (SqT.of hq) rfl ?_
      walk_at "el"
      refine ⟨B, D, a1, w1, i1, _, rfl, hB, h1, hs1, ?_⟩
      simp only [witV]
      walk_at "el"
      refine ⟨B, D, a3, w3, i3, _, rfl, hB, h3, hs3, ?_⟩
      simp only [witV]
      walk_at "el"
      try rw [decide_eq_true rfl]
      walk_at "el"
      try rw [decide_eq_false (fun h => nomatch h)]
      walk_at "el"
      try rw [decide_eq_true rfl]
      walk_at "el"
      refine ⟨by show 2 ≤ sizeLine; decide, fun t1 g1 => ?_⟩
      have e1 := nw_of g1 (.tup [.int u3, .str "late"])
      have k1 := tk_lit (upd_at g1 (.tup [.int u3, .str "late"]))
      walk_at "el"
      refine ⟨by show 2 ≤ sizeLine; decide, fun t2 g2 => ?_⟩
      have e2 := nw_of g2 (.tup [.int u3, .str "early"])
      have k2 := tk_lit (upd_at g2 (.tup [.int u3, .str "early"]))
      walk_at "el"
      refine ⟨by show 2 ≤ sizeLine; decide, fun t3 g3 => ?_⟩
      have e3 := nw_of g3 (.tup [.ref t1, .ref t2])
      have k3 := tk_pair (upd_at g3 (.tup [.ref t1, .ref t2])) ((k1.same e2).same e3) (k2.same e3)
      walk_at "el"
      refine ⟨by show 1 ≤ sizeLine; decide, fun r hr => ?_⟩
      have e4 := nw_of hr (.lst [.ref t3])
      have s3 : Same H _ := fun a o h => e3 a o (e2 _ _ (e1 _ _ h))
      exact k _ r (fun a o h => e4 a o (s3 a o h)) (s3.free hr) (.lst upd_same (.cons (k3.same e4) .nil))
    · walk_at "el"
      refine a_gtup (SqT.of hq) rfl ?_
      walk_at "el"
      refine ⟨B, D, a1, w1, i1, _, rfl, hB, h1, hs1, ?_⟩
      simp only [witV]
      walk_at "el"
      refine ⟨B, D, a3, w3, i3, _, rfl, hB, h3, hs3, ?_⟩
      simp only [witV]
      walk_at "el"
      try rw [decide_eq_false (fun h => nomatch h)]
      walk_at "el"
      try rw [decide_eq_false (fun h => nomatch h)]
      walk_at "el"
      try rw [decide_eq_true rfl]
      walk_at "el"
      refine ⟨by show 2 ≤ sizeLine; decide, fun t1 g1 => ?_⟩
      have e1 := nw_of g1 (.tup [.int u1, .str "early"])
      have k1 := tk_lit (upd_at g1 (.tup [.int u1, .str "early"]))
      walk_at "el"
      refine ⟨by show 2 ≤ sizeLine; decide, fun t2 g2 => ?_⟩
      have e2 := nw_of g2 (.tup [.int u1, .str "late"])
      have k2 := tk_lit (upd_at g2 (.tup [.int u1, .str "late"]))
      walk_at "el"
      refine ⟨by show 2 ≤ sizeLine; decide, fun t3 g3 => ?_⟩
      have e3 := nw_of g3 (.tup [.ref t1, .ref t2])
      have k3 := tk_pair (upd_at g3 (.tup [.ref t1, .ref t2])) ((k1.same e2).same e3) (k2.same e3)
      walk_at "el"
      refine ⟨by show 1 ≤ sizeLine; decide, fun r hr => ?_⟩
      have e4 := nw_of hr (.lst [.ref t3])
      have s3 : Same H _ := fun a o h => e3 a o (e2 _ _ (e1 _ _ h))
      exact k _ r (fun a o h => e4 a o (s3 a o h)) (s3.free hr) (.lst upd_same (.cons (k3.same e4) .nil))
    · walk_at "el"
      refine a_gtup (SqT.of hq) rfl ?_
      walk_at "el"
      refine ⟨B, D, a1, w1, i1, _, rfl, hB, h1, hs1, ?_⟩
      simp only [witV]
      walk_at "el"
      refine ⟨B, D, a3, w3, i3, _, rfl, hB, h3, hs3, ?_⟩
      simp only [witV]
      walk_at "el"
      try rw [decide_eq_false (fun h => nomatch h)]
      walk_at "el"
      try rw [decide_eq_false (fun h => nomatch h)]
      walk_at "el"
      try rw [decide_eq_false (fun h => nomatch h)]
      walk_at "el"
      refine ⟨by show 2 ≤ sizeLine; decide, fun t1 g1 => ?_⟩
      have e1 := nw_of g1 (.tup [.int u1, .str "early"])
      have k1 := tk_lit (upd_at g1 (.tup [.int u1, .str "early"]))
      walk_at "el"
      refine ⟨by show 2 ≤ sizeLine; decide, fun t2 g2 => ?_⟩
      have e2 := nw_of g2 (.tup [.int u3, .str "early"])
      have k2 := tk_lit (upd_at g2 (.tup [.int u3, .str "early"]))
      walk_at "el"
      refine ⟨by show 2 ≤ sizeLine; decide, fun t3 g3 => ?_⟩
      have e3 := nw_of g3 (.tup [.ref t1, .ref t2])
      have k3 := tk_pair (upd_at g3 (.tup [.ref t1, .ref t2])) ((k1.same e2).same e3) (k2.same e3)
      walk_at "el"
      refine ⟨by show 2 ≤ sizeLine; decide, fun t4 g4 => ?_⟩
      have e4 := nw_of g4 (.tup [.int u3, .str "late"])
      have k4 := tk_lit (upd_at g4 (.tup [.int u3, .str "late"]))
      walk_at "el"
      refine ⟨by show 2 ≤ sizeLine; decide, fun t5 g5 => ?_⟩
      have e5 := nw_of g5 (.tup [.int u1, .str "late"])
      have k5 := tk_lit (upd_at g5 (.tup [.int u1, .str "late"]))
      walk_at "el"
      refine ⟨by show 2 ≤ sizeLine; decide, fun t6 g6 => ?_⟩
      have e6 := nw_of g6 (.tup [.ref t4, .ref t5])
      have k6 := tk_pair (upd_at g6 (.tup [.ref t4, .ref t5])) ((k4.same e5).same e6) (k5.same e6)
      walk_at "el"
      refine ⟨by show 2 ≤ sizeLine; decide, fun r hr => ?_⟩
      have e7 := nw_of hr (.lst [.ref t3, .ref t6])
      have s6 : Same H _ := fun a o h => e6 a o (e5 _ _ (e4 _ _ (e3 _ _ (e2 _ _ (e1 _ _ h)))))
      exact k _ r (fun a o h => e7 a o (s6 a o h)) (s6.free hr) (.lst upd_same (.cons (((k3.same e4).same e5 |>.same e6).same e7) (.cons (k6.same e7) .nil)))
theorem link_inv {D : PD} {d : PyData} (h : linkB D d = true) : ∃ (w1 w3 : Str) (i1 i3 : Int) (m : PyData) (r1 r3 : Src), d = .tuple [.tuple [.str w1, .int i1], m, .tuple [.str w3, .int i3]] ∧ srcD D w1 i1 = some r1 ∧ srcD D w3 i3 = some r3 := by
  unfold linkB at h
  split at h
  · rename_i x w y
    cases h1 : itemD D x with
    | none => rw [h1] at h; cases h
    | some r1 =>
      cases h3 : itemD D y with
      | none => rw [h1, h3] at h; cases h
      | some r3 =>
        obtain ⟨w1, i1, rfl, e1⟩ := itemD_inv h1
        obtain ⟨w3, i3, rfl, e3⟩ := itemD_inv h3
        exact ⟨w1, w3, i1, i3, w, r1, r3, rfl, e1, e3⟩
  · cases h
theorem Tk.lnk {H : Hp} {y : V} {w1 w3 : Str} {i1 i3 : Int} {m : PyData} (t : Tk H y (.tuple [.tuple [.str w1, .int i1], m, .tuple [.str w3, .int i3]])) : ∃ q a1 z a3, y = .ref q ∧ H q = some (.tup [.ref a1, z, .ref a3]) ∧ H a1 = some (.tup [.str w1, .int i1]) ∧ H a3 = some (.tup [.str w3, .int i3]) := by
  obtain ⟨q, xs, rfl, hq, ta⟩ := t.tupD
  cases ta with
  | cons h1 ta =>
    cases ta with
    | cons h2 ta =>
      cases ta with
      | cons h3 ta =>
        cases ta
        obtain ⟨a1, rfl, g1⟩ := h1.src
        obtain ⟨a3, rfl, g3⟩ := h3.src
        exact ⟨q, a1, _, a3, rfl, hq, g1, g3⟩
theorem pairs_link {D : PD} {w1 w3 : Str} {i1 i3 : Int} {m : PyData} {r1 r3 : Src} (h1 : srcD D w1 i1 = some r1) (h3 : srcD D w3 i3 = some r3) : pairsOf D (.tuple [.tuple [.str w1, .int i1], m, .tuple [.str w3, .int i3]]) = pairsW r1.wit r3.wit := by
  show (match itemD D (.tuple [.str w1, .int i1]), itemD D (.tuple [.str w3, .int i3]) with | some a, some b => pairsW a.wit b.wit | _, _ => []) = _
  have g1 : itemD D (.tuple [.str w1, .int i1]) = some r1 := h1
  have g3 : itemD D (.tuple [.str w3, .int i3]) = some r3 := h3
  rw [g1, g3]
theorem cl_below {H : Hp} {D : PD} {y : V} {e o1 o3 : PyData} (t : Tk H y e) (h : belowB y D.L.length = false) : clB D o1 o3 e = false := by
  cases t with
  | int i =>
    have h' : (decide (0 ≤ i) && decide (i < (D.L.length : Int))) = false := h
    rw [Bool.and_eq_false_iff, decide_eq_false_iff_not, decide_eq_false_iff_not] at h'
    show (match atZ D.L i with | some x => inP (pairsC x) o1 o3 | none => false) = false
    cases hz : atZ D.L i with
    | none => rfl
    | some x =>
      obtain ⟨n, rfl, hn⟩ := atZ_some hz
      have := (List.getElem?_eq_some_iff.mp hn).1
      omega
  | _ => rfl
theorem step_eq {D : PD} {wi : Int} {d1 d2 d3 : PyData} : stepB D wi (.tuple [d1, d2, d3]) = (litB wi d1 && (litB wi d3 && whyB D d1 d3 d2)) := rfl
theorem why_cl {D : PD} {o1 o3 e : PyData} : whyB D o1 o3 (.tuple [.str "clause", e]) = clB D o1 o3 e := by simp [whyB]
theorem why_lk {D : PD} {o1 o3 e : PyData} : whyB D o1 o3 (.tuple [.str "link", e]) = (linkB D e && inP (pairsOf D e) o1 o3) := by
  have n : ("link" : Str) ≠ "clause" := by decide
  simp [whyB, n]
theorem why_inv {D : PD} {o1 o3 d : PyData} (h : whyB D o1 o3 d = true) : (∃ e, d = .tuple [.str "clause", e]) ∨ ∃ e, d = .tuple [.str "link", e] := by
  unfold whyB at h
  split at h
  · rename_i s e
    by_cases c : s = "clause"
    · subst c; exact .inl ⟨e, rfl⟩
    · rw [if_neg c] at h
      by_cases c2 : s = "link"
      · subst c2; exact .inr ⟨e, rfl⟩
      · rw [if_neg c2] at h; cases h
  · cases h
theorem Tk.headed {H : Hp} {x : V} {s : Str} {e : PyData} (t : Tk H x (.tuple [.str s, e])) : ∃ a y, x = .ref a ∧ H a = some (.tup [.str s, y]) ∧ Tk H y e := by
  obtain ⟨q, xs, rfl, hq, ta⟩ := t.tupD
  cases ta with
  | cons h1 ta =>
    cases ta with
    | cons h2 ta =>
      cases ta
      rw [h1.str_] at hq
      exact ⟨q, _, rfl, hq, h2⟩
theorem ok_is_step (F : Fun K "is_step" "is_step" s_is_step f fd) (T : Tb mg) (p_clauses : PrpG P w K mg base C "clauses" "_clauses") (c_is_tuple : Cal P w K mg base CX0 1 "is_tuple" ["thing", "many"] (spTu K)) (c__is_literal : Cal P w K mg base CX0 3 "_is_literal" ["book", "thing"] (spLit K C))
    (c_is_headed : Cal P w K mg base CX0 2 "is_headed" ["thing", "word"] (spHd K)) (c_is_below : Cal P w K mg base CX0 2 "is_below" ["thing", "many"] (spBelow K)) (c__pairs_by_clause : Cal P w K mg base CX0 2 "_pairs_by_clause" ["clause"] spPC) (c_is_link : Cal P w K mg base CX0 5 "is_link" ["book", "thing"] (spIsLink K C))
    (c__pairs_by_link : Cal P w K mg base CX0 4 "_pairs_by_link" ["book", "link"] (spPL K C)) : FnOk P w K mg base CX0 6 f fd ["book", "thing"] (spIsStep K C) := by
  refine F.ok sc_is_step (fun vs H Q E h => ?_) (fun cdv A outer s H vs Q E hr h => ?_)
  · obtain ⟨_, _, _, _, rfl, _⟩ := h
    rfl
  · obtain ⟨B, D, x, d, rfl, hB, ok, tk, hbu, k⟩ := h
    refine ⟨_, (pss_cons (ps_if (pt_not (pt_val (pe_cal c_is_tuple (hr.mono (by decide)) pass0 (pa_cons (pv 1) (pa_cons pe_int pa_nil)))))
    (pss_one (ps_ret pe_bl))
    pss_nil)
  (pss_cons (ps_asg (pv 1) (pg_tup rfl (pgs_cons (pg_name (i := 2) sc_is_step.nd rfl (Or.inl rfl)) (pgs_cons (pg_name (i := 3) sc_is_step.nd rfl (Or.inl rfl)) (pgs_cons (pg_name (i := 4) sc_is_step.nd rfl (Or.inl rfl)) pgs_nil)))))
  (pss_cons (ps_if (PW.pt (pw_or (pt_not (pt_val (pe_cal c__is_literal (hr.mono (by decide)) pass0 (pa_cons (pv 0) (pa_cons (pv 2) pa_nil))))) (pw_or1 (pt_not (pt_val (pe_cal c__is_literal (hr.mono (by decide)) pass0 (pa_cons (pv 0) (pa_cons (pv 4) pa_nil))))))))
    (pss_one (ps_ret pe_bl))
    pss_nil)
  (pss_cons (ps_if (pt_val (pe_cal c_is_headed (hr.mono (by decide)) pass0 (pa_cons (pv 3) (pa_cons pe_str pa_nil))))
    (pss_cons (ps_set (i := 5) sc_is_step.nd rfl (Or.inl rfl) (pe_ix ix_seq (pv 3) pe_int (fun _ _ => rfl)))
  (pss_one (ps_ret (pe_and (pe_cal c_is_below (hr.mono (by decide)) pass0 (pa_cons (pv 5) (pa_cons (pe_callB u_len rfl T.b.len_ boot_len (pa_cons (pe_prp p_clauses (hr.mono (by decide)) (pv 0)) pa_nil)) pa_nil))) (pe_one (pe_cmpR (op_inD (room65 hr)) (pe_tup (pa_cons (pv 2) (pa_cons (pv 4) pa_nil))) (pe_cal c__pairs_by_clause (hr.mono (by decide)) pass0 (pa_cons (pe_ix ix_seq (pe_prp p_clauses (hr.mono (by decide)) (pv 0)) (pv 5) (fun _ _ => rfl)) pa_nil)) rfl))))))
    pss_nil)
  (pss_cons (ps_if (pt_val (pe_cal c_is_headed (hr.mono (by decide)) pass0 (pa_cons (pv 3) (pa_cons pe_str pa_nil))))
    (pss_one (ps_ret (pe_and (pe_cal c_is_link (hr.mono (by decide)) pass0 (pa_cons (pv 0) (pa_cons (pe_ix ix_seq (pv 3) pe_int (fun _ _ => rfl)) pa_nil))) (pe_one (pe_cmpR (op_inD (room65 hr)) (pe_tup (pa_cons (pv 2) (pa_cons (pv 4) pa_nil))) (pe_cal c__pairs_by_link (hr.mono (by decide)) pass0 (pa_cons (pv 0) (pa_cons (pe_ix ix_seq (pv 3) pe_int (fun _ _ => rfl)) pa_nil))) rfl)))))
    pss_nil)
  (pss_one (ps_ret pe_bl))))))), ?_⟩
    walk_at "el"
    refine ⟨x, _, rfl, tk.th, fun b hb => ?_⟩
    rcases b with _ | _
    · walk_at "el"
      have e : stepB D B.wi d = false := by
        unfold stepB
        split
        · exfalso
          obtain ⟨a, xs, rfl, ha, ta⟩ := tk.tupD
          have l : xs.length = 3 := by cases ta with | cons _ t => cases t with | cons _ t => cases t with | cons _ t => cases t; rfl
          exact absurd (hb.mpr ⟨a, xs, rfl, ha, by rw [l]; rfl⟩) (by decide)
        · rfl
      rw [e] at k
      exact k _ (Same.refl _)
    obtain ⟨a, xs, rfl, ha, hl⟩ := hb.mp rfl
    match xs, hl with
    | [x1, x2, x3], _ =>
      obtain ⟨d1, d2, d3, rfl, t1, t2, t3⟩ := tk.three ha
      rw [step_eq] at k
      walk_at "el"
      refine a_gtup (SqT.of ha) rfl ?_
      walk_at "el"
      refine ⟨B, D, x1, d1, rfl, hB, t1, fun H1 s1 => ?_⟩
      rcases g1 : litB B.wi d1
      · rw [g1, Bool.false_and] at k
        walk_at "el"
        exact k _ s1
      rw [g1, Bool.true_and] at k
      walk_at "el"
      refine ⟨B, D, x3, d3, rfl, hB.same s1, t3.same s1, fun H2 s2 => ?_⟩
      have s12 := s1.trans s2
      rcases g3 : litB B.wi d3
      · rw [g3, Bool.false_and] at k
        walk_at "el"
        exact k _ s12
      rw [g3, Bool.true_and] at k
      have hB2 := hB.same s12
      have u2 := t2.same s12
      have hbk := hB2.bk
      walk_at "el"
      refine ⟨x2, _, rfl, u2.th, u2.els, fun b1 hb1 => ?_⟩
      rcases b1 with _ | _
      · walk_at "el"
        refine ⟨x2, _, rfl, u2.th, u2.els, fun b2 hb2 => ?_⟩
        rcases b2 with _ | _
        · walk_at "el"
          have e : whyB D d1 d3 d2 = false := by
            rw [← Bool.not_eq_true]
            intro h
            rcases why_inv h with ⟨e, rfl⟩ | ⟨e, rfl⟩
            · obtain ⟨a, y, rfl, ha, _⟩ := u2.headed
              exact absurd (hb1.mpr ⟨a, y, rfl, ha⟩) (by decide)
            · obtain ⟨a, y, rfl, ha, _⟩ := u2.headed
              exact absurd (hb2.mpr ⟨a, y, rfl, ha⟩) (by decide)
          rw [e] at k
          exact k _ s12
        · obtain ⟨c, y, rfl, hc⟩ := hb2.mp rfl
          obtain ⟨e1, e, rfl, t4, t5⟩ := u2.two hc
          cases t4.strD
          rw [why_lk] at k
          have be : e.bulk ≤ 300000 := by
            have z : e.bulk ≤ (PyData.tuple [d1, .tuple [.str "link", e], d3]).bulk := by
              simp only [PyData.bulk, PyData.bulkAll]
              omega
            omega
          walk_at "el"
          refine ⟨B, D, y, e, rfl, hB2, t5, be, fun H3 s3 => ?_⟩
          have s13 := s12.trans s3
          rcases g5 : linkB D e
          · rw [g5, Bool.false_and] at k
            walk_at "el"
            exact k _ s13
          rw [g5, Bool.true_and] at k
          obtain ⟨w1, w3, i1, i3, m, r1, r3, rfl, hs1, hs3⟩ := link_inv g5
          rw [pairs_link hs1 hs3] at k
          obtain ⟨q, a1, z, a3, rfl, hq, ha1, ha3⟩ := t5.lnk
          walk_at "el"
          refine ⟨by show 2 ≤ sizeLine; decide, fun p hp => ?_⟩
          have e6 := nw_of hp (.tup [x1, x3])
          have tp := tk_pair (upd_at hp (.tup [x1, x3])) ((t1.same s13).same e6) ((t3.same s13).same e6)
          have hc4 := e6 _ _ (s3 _ _ hc)
          walk_at "el"
          refine ⟨B, D, q, a1, a3, z, w1, w3, i1, i3, r1, r3, rfl, (hB2.same s3).same e6, e6 _ _ (s3 _ _ hq), e6 _ _ (s3 _ _ ha1), hs1, e6 _ _ (s3 _ _ ha3), hs3, fun H5 r s5 hr tr => ?_⟩
          refine n_inP (tp.same s5) g1 g3 tr nod_W shp_W ?_
          exact k _ (fun a o h => s5 a o (e6 _ _ (s13 a o h)))
      · obtain ⟨c, y, rfl, hc⟩ := hb1.mp rfl
        obtain ⟨e1, e, rfl, t4, t5⟩ := u2.two hc
        cases t4.strD
        rw [why_cl] at k
        walk_at "el"
        refine n_prp hbk rfl ?_
        walk_at "el"
        refine n_len (.inr hB2.tL) ?_
        walk_at "el"
        rw [hB2.r.l.len]
        refine ⟨y, _, rfl, t5.th, fun H3 s3 => ?_⟩
        have s13 := s12.trans s3
        rcases hy : belowB y D.L.length
        · walk_at "el"
          rw [cl_below t5 hy] at k
          exact k _ s13
        obtain ⟨i, rfl, i0, i1⟩ := below_int hy
        obtain ⟨n, rfl⟩ : ∃ n : Nat, i = n := ⟨i.toNat, by omega⟩
        have hn : n < D.L.length := by omega
        cases t5.intD
        have ek : clB D d1 d3 (.int n) = inP (pairsC D.L[n]) d1 d3 := by
          show (match atZ D.L n with | some x => inP (pairsC x) d1 d3 | none => false) = _
          rw [atZ_nat, List.getElem?_eq_getElem hn]
        rw [ek] at k
        have okl := ok.l _ (List.getElem_mem hn)
        walk_at "el"
        refine ⟨by show 2 ≤ sizeLine; decide, fun p hp => ?_⟩
        have e6 := nw_of hp (.tup [x1, x3])
        have tp := tk_pair (upd_at hp (.tup [x1, x3])) ((t1.same s13).same e6) ((t3.same s13).same e6)
        have hB3 := (hB2.same s3).same e6
        have hbk3 := hB3.bk
        obtain ⟨u, hu, hv⟩ := hB3.r.l.get (List.getElem?_eq_getElem hn)
        walk_at "el"
        refine n_prp hbk3 rfl ?_
        walk_at "el"
        refine n_ixT hB3.tL (atI_nat hu) ?_
        walk_at "el"
        refine ⟨u, D.L[n], rfl, hv, fun H5 r s5 hr tr => ?_⟩
        refine n_inP (tp.same s5) g1 g3 tr rfl (shp_C okl.2.1 okl.2.2.2) ?_
        exact k _ (fun a o h => s5 a o (e6 _ _ (s13 a o h)))
end
end EL

/- part QL -/
namespace EL
open PySem PySem.Spec PyProof.Rows L2
open PySem.W (Frag)
abbrev s_l_contrary : Stmt := top 57
abbrev N_l_contrary : List Str := ["_law_literal"]
theorem sc_l_contrary : FnScope N_l_contrary ["_law_literal"] (defScope s_l_contrary) := ⟨rfl, rfl, rfl, by decide +kernel, rfl, by decide +kernel, by decide +kernel⟩
abbrev s_by_clause : Stmt := top 58
abbrev N_by_clause : List Str := ["_law_item_here", "_law_one_here", "_law_other"]
theorem sc_by_clause : FnScope N_by_clause ["_law_item_here"] (defScope s_by_clause) := ⟨rfl, rfl, rfl, by decide +kernel, rfl, by decide +kernel, by decide +kernel⟩
abbrev s_is_literal : Stmt := top 59
abbrev N_is_literal : List Str := ["_law_witnesses", "_law_thing"]
theorem sc_is_literal : FnScope N_is_literal ["_law_witnesses", "_law_thing"] (defScope s_is_literal) := ⟨rfl, rfl, rfl, by decide +kernel, rfl, by decide +kernel, by decide +kernel⟩
abbrev s_pairs : Stmt := top 56
abbrev N_pairs : List Str := ["_law_parts_here", "_law_thing", "_law_w", "_law_v"]
theorem sc_pairs : FnScope N_pairs ["_law_parts_here", "_law_thing"] (defScope s_pairs) := ⟨rfl, rfl, rfl, by decide +kernel, rfl, by decide +kernel, by decide +kernel⟩
abbrev s_l_is_step : Stmt := top 60
abbrev N_l_is_step : List Str := ["_law_witnesses", "_law_parts_here", "_law_thing", "_law_why"]
theorem sc_l_is_step : FnScope N_l_is_step ["_law_witnesses", "_law_parts_here", "_law_thing"] (defScope s_l_is_step) := ⟨rfl, rfl, rfl, by decide +kernel, rfl, by decide +kernel, by decide +kernel⟩
local macro_rules | `(tactic| walk_at "el1") => `(tactic| with_reducible first
  | refine a_sasg ?_ | refine a_sdrop ?_ | refine a_saugS ?_ | refine a_spar ?_ | refine a_seq ?_ | refine a_asg ?_ | refine a_drop ?_ | refine a_ret ?_ | refine a_if ?_ | refine a_next ?_
  | refine a_op ?_ | refine a_cons ?_ | refine a_nil ?_ | refine a_cb ?_ | refine a_call ?_ | refine a_c ?_ | refine a_gn ?_ | refine a_nx ?_ | refine a_rt ?_ | refine a_un ?_
  | refine a_test ?_ | refine a_B ?_ | refine a_bl ?_ | refine a_and ?_ | refine a_or ?_ | refine a_not ?_ | refine a_andV ?_ | refine a_orV ?_ | refine a_notV ?_ | refine a_ifx ?_ | refine a_chain ?_
  | refine a_nT ?_ | refine a_nF ?_ | refine a_fld ?_ | refine a_getF ?_ | refine a_T ?_ | refine a_F ?_ | refine a_tup ?_ | refine a_lst ?_ | refine a_sub ?_ | refine a_augS ?_ | refine a_two ?_ | refine a_I0 ?_ | refine a_U ?_ | refine n_add ?_ | refine n_int ?_ | refine n_ib ?_ | refine a_ip ?_ | refine a_rng1 ?_ | refine a_rng2 ?_ | refine a_bm ?_ | refine a_abs ?_ | refine a_pairs ?_ | refine a_pairs0 ?_ | refine a_bk ?_ | refine a_prp ?_ | refine a_lc ?_ | refine a_yes ?_ | refine a_sl ?_ | refine a_nop ?_ | refine a_prt ?_ | refine a_ex1 ?_ | refine a_for ?_ | refine a_sfor ?_ | refine a_iE1 ?_ | refine a_iEs ?_ | refine a_iEz ?_ | refine a_iEnum ?_ | refine a_iTup ?_ | refine a_iList ?_ | refine a_gcons ?_ | refine a_gnil ?_ | refine a_revT ?_ | refine a_spar3 ?_ | refine a_par3 ?_ | refine a_three ?_)
local macro_rules | `(tactic| walk_at "el2") => `(tactic| first
  | (refine a_var (by rfl) ?_)
  | (refine n_ixL (SqL.of (by assumption)) (by rfl) ?_) | (refine n_ixT (SqT.of (by assumption)) (by rfl) ?_) | (refine n_eq (by rfl) ?_) | (refine n_ne (by rfl) ?_)
  | (refine n_isN ?_) | (refine n_notN ?_) | (refine n_isB ?_) | (refine n_notB ?_) | (refine n_isBI ?_) | (refine n_notBI ?_) | (refine n_len (.inl (SqL.of (by assumption))) ?_) | (refine n_len (.inr (SqT.of (by assumption))) ?_)
  | (refine a_getL (SqL.of (by assumption)) (by rfl) ?_)
  | (refine n_isInt (by assumption) ?_) | (refine n_isBool (by assumption) ?_) | (refine n_isStr (by assumption) ?_) | (refine n_isTup (by assumption) ?_) | (refine n_isLst (by assumption) ?_))
local macro_rules | `(tactic| walk_at "el") => `(tactic| repeat (first | walk_at "el1" | walk_at "el2"))

/-! ### a law's own look at steps -/
def spLLit (K : Frag) : Sp := fun vs H Q _ => ∃ (wi : Int) (x : V) (d : PyData), vs = [.int wi, x] ∧ Tk H x d ∧ ∀ H', Same H H' → Q (.bl (litB wi d)) H'
def spLPairs (K : Frag) : Sp := fun vs H Q _ => ∃ (b p : Addr) (l : Pt → Addr) (xs : Pt → List V) (D : PD) (q a1 a3 : Addr) (z : V) (w1 w3 : Str) (i1 i3 : Int) (r1 r3 : Src), vs = [.ref p, .ref q] ∧ LP H b p l xs D ∧ H q = some (.tup [.ref a1, z, .ref a3]) ∧ H a1 = some (.tup [.str w1, .int i1]) ∧ srcD D w1 i1 = some r1 ∧ H a3 = some (.tup [.str w3, .int i3]) ∧ srcD D w3 i3 = some r3 ∧
  ∀ H' r, Same H H' → H r = none → Tk H' (.ref r) (.list (pairsW r1.wit r3.wit)) → Q (.ref r) H'
def spLStep (K : Frag) : Sp := fun vs H Q _ => ∃ (b p : Addr) (l : Pt → Addr) (xs : Pt → List V) (D : PD) (ev wi : Int) (x : V) (d : PyData), vs = [.int wi, .ref p, x] ∧ LP H b p l xs D ∧ D.Ok ev wi ∧ Tk H x d ∧ d.bulk ≤ 300000 ∧ ∀ H', Same H H' → Q (.bl (stepB D wi d)) H'
section
variable {P : Program} {w : World} {K : Frag} {mg : Str → Option Value} {base : Heap} {f : Addr} {fd : FuncData} {C : Addr}
theorem ok_l_contrary (F : Fun K "_law_contrary" "_law_contrary" s_l_contrary f fd) (T : Tb mg) : FnOk P w K mg base CX0 1 f fd ["_law_literal"] spTl := by
  refine F.ok sc_l_contrary (fun vs H Q E h => ?_) (fun cdv A outer s H vs Q E hr h => ?_)
  · obtain ⟨_, _, _, rfl, _⟩ := h
    rfl
  · obtain ⟨p, x, s, rfl, hp, k⟩ := h
    refine ⟨_, (pss_one (ps_ret (pe_tup (pa_cons (pe_ix ix_seq (pv 0) pe_int (fun _ _ => rfl)) (pa_cons (pe_ifExp (pt_cmpR (u_eq hr.units) (pe_ix ix_seq (pv 0) pe_int (fun _ _ => rfl)) pe_str (nomark _)) pe_str pe_str) pa_nil))))), ?_⟩
    walk_at "el"
    by_cases c : s = "early"
    · subst c
      rw [decide_eq_true rfl]
      walk_at "el"
      refine ⟨by show 2 ≤ sizeLine; decide, fun r hr => ?_⟩
      exact k r hr
    · rw [decide_eq_false (fun h => c (V.str.inj h))]
      walk_at "el"
      refine ⟨by show 2 ≤ sizeLine; decide, fun r hr => ?_⟩
      have e : otherK s = "early" := if_neg c
      rw [e] at k
      exact k r hr
theorem ok_by_clause (F : Fun K "_law_by_clause" "_law_by_clause" s_by_clause f fd) (T : Tb mg) (c_l_contrary : Cal P w K mg base CX0 1 "_law_contrary" ["_law_literal"] spTl) : FnOk P w K mg base CX0 2 f fd ["_law_item_here"] spPC := by
  refine F.ok sc_by_clause (fun vs H Q E h => ?_) (fun cdv A outer s H vs Q E hr h => ?_)
  · obtain ⟨_, _, rfl, _⟩ := h
    rfl
  · obtain ⟨q, x, rfl, hq, k⟩ := h
    refine ⟨_, (pss_cons (ps_par (i := 1) (j := 2) rfl sc_by_clause.nd rfl rfl (by decide) rfl rfl (pa_cons (pe_tup (pa_cons (pe_ix ix_seq (pv 0) pe_int (fun _ _ => rfl)) (pa_cons (pe_ix ix_seq (pv 0) pe_int (fun _ _ => rfl)) pa_nil))) (pa_cons (pe_tup (pa_cons (pe_ix ix_seq (pv 0) pe_int (fun _ _ => rfl)) (pa_cons (pe_ix ix_seq (pv 0) pe_int (fun _ _ => rfl)) pa_nil))) pa_nil)) (by with_unfolding_all rfl))
  (pss_one (ps_ret (pe_lst (pa_cons (pe_tup (pa_cons (pe_cal c_l_contrary (hr.mono (by decide)) pass0 (pa_cons (pv 1) pa_nil)) (pa_cons (pv 2) pa_nil))) (pa_cons (pe_tup (pa_cons (pe_cal c_l_contrary (hr.mono (by decide)) pass0 (pa_cons (pv 2) pa_nil)) (pa_cons (pv 1) pa_nil))) pa_nil)))))), ?_⟩
    walk_at "el"
    refine ⟨by show 2 ≤ sizeLine; decide, fun t1 h1 => ?_⟩
    have e1 := nw_of h1 (.tup [.int x.1, .str x.2.1])
    have g1 := tk_lit (upd_at h1 (.tup [.int x.1, .str x.2.1]))
    have f1 := upd_at h1 (.tup [.int x.1, .str x.2.1])
    have hq1 := e1 _ _ hq
    walk_at "el"
    refine ⟨by show 2 ≤ sizeLine; decide, fun t2 h2 => ?_⟩
    have e2 := nw_of h2 (.tup [.int x.2.2.1, .str x.2.2.2])
    have g2 := tk_lit (upd_at h2 (.tup [.int x.2.2.1, .str x.2.2.2]))
    have f2 := upd_at h2 (.tup [.int x.2.2.1, .str x.2.2.2])
    walk_at "el"
    refine ⟨t1, _, _, rfl, e2 _ _ f1, fun t3 h3 => ?_⟩
    have e3 := nw_of h3 (.tup [.int x.1, .str (otherK x.2.1)])
    have g3 := tk_lit (upd_at h3 (.tup [.int x.1, .str (otherK x.2.1)]))
    walk_at "el"
    refine ⟨by show 2 ≤ sizeLine; decide, fun t4 h4 => ?_⟩
    have e4 := nw_of h4 (.tup [.ref t3, .ref t2])
    have g4 := tk_pair (upd_at h4 (.tup [.ref t3, .ref t2])) (g3.same e4) ((g2.same e3).same e4)
    walk_at "el"
    refine ⟨t2, _, _, rfl, e4 _ _ (e3 _ _ f2), fun t5 h5 => ?_⟩
    have e5 := nw_of h5 (.tup [.int x.2.2.1, .str (otherK x.2.2.2)])
    have g5 := tk_lit (upd_at h5 (.tup [.int x.2.2.1, .str (otherK x.2.2.2)]))
    walk_at "el"
    refine ⟨by show 2 ≤ sizeLine; decide, fun t6 h6 => ?_⟩
    have e6 := nw_of h6 (.tup [.ref t5, .ref t1])
    have g6 := tk_pair (upd_at h6 (.tup [.ref t5, .ref t1])) (g5.same e6) ((((g1.same e2).same e3).same e4 |>.same e5).same e6)
    walk_at "el"
    refine ⟨by show 2 ≤ sizeLine; decide, fun t7 h7 => ?_⟩
    have e7 := nw_of h7 (.lst [.ref t4, .ref t6])
    have s6 : Same H _ := fun a o h => e6 a o (e5 _ _ (e4 _ _ (e3 _ _ (e2 _ _ (e1 _ _ h)))))
    exact k _ t7 (fun a o h => e7 a o (s6 a o h)) (s6.free h7) (.lst upd_same (.cons (((g4.same e5).same e6).same e7) (.cons (g6.same e7) .nil)))
theorem ok_l_literal (F : Fun K "_law_is_literal" "_law_is_literal" s_is_literal f fd) (T : Tb mg) : FnOk P w K mg base CX0 1 f fd ["_law_witnesses", "_law_thing"] (spLLit K) := by
  refine F.ok sc_is_literal (fun vs H Q E h => ?_) (fun cdv A outer s H vs Q E hr h => ?_)
  · obtain ⟨_, _, _, rfl, _⟩ := h
    rfl
  · obtain ⟨wi, x, d, rfl, tk, k⟩ := h
    refine ⟨_, (pss_cons (ps_if (PW.pt (pw_or (pt_not (pt_val (pe_callB u_isi rfl T.b.isinstance_ boot_isinstance (pa_cons (pv 1) (pa_cons (pe_bltn (v := V.ty "tuple") rfl T.b.tuple_ (by decide +kernel) rfl) pa_nil))))) (pw_or (pt_cmpR (u_ne hr.units) (pe_callB u_len rfl T.b.len_ boot_len (pa_cons (pv 1) pa_nil)) pe_int (nomark _)) (pw_or1 (pt_not (pt_val (pe_callB u_isi rfl T.b.isinstance_ boot_isinstance (pa_cons (pe_ix ix_seq (pv 1) pe_int (fun _ _ => rfl)) (pa_cons (pe_bltn (v := V.ty "str") rfl T.b.str_ (by decide +kernel) rfl) pa_nil)))))))))
    (pss_one (ps_ret pe_bl))
    pss_nil)
  (pss_cons (ps_if (PW.pt (pw_or (pt_not (pt_val (pe_callB u_isi rfl T.b.isinstance_ boot_isinstance (pa_cons (pe_ix ix_seq (pv 1) pe_int (fun _ _ => rfl)) (pa_cons (pe_bltn (v := V.ty "int") rfl T.b.int_ (by decide +kernel) rfl) pa_nil))))) (pw_or (pt_val (pe_callB u_isi rfl T.b.isinstance_ boot_isinstance (pa_cons (pe_ix ix_seq (pv 1) pe_int (fun _ _ => rfl)) (pa_cons (pe_bltn (v := V.ty "bool") rfl T.b.bool_ (by decide +kernel) rfl) pa_nil)))) (pw_or1 (pt_cmpR op_lt (pe_ix ix_seq (pv 1) pe_int (fun _ _ => rfl)) pe_int (nomark _))))))
    (pss_one (ps_ret pe_bl))
    pss_nil)
  (pss_cons (ps_if (pt_cmpR op_ge (pe_ix ix_seq (pv 1) pe_int (fun _ _ => rfl)) (pv 0) (nomark _))
    (pss_one (ps_ret pe_bl))
    pss_nil)
  (pss_one (ps_ret (pe_cmpR u_in (pe_ix ix_seq (pv 1) pe_int (fun _ _ => rfl)) (pe_tup (pa_cons pe_str (pa_cons pe_str pa_nil))) rfl)))))), ?_⟩
    obtain ⟨ty, kt⟩ := (tk.th (K := K)).kit
    have bad : (∀ w k, H = H → litB wi d = true → d = litD w k → False) → Q (.bl false) H := fun hb => by
      have e : litB wi d = false := by
        rw [← Bool.not_eq_true]
        intro h
        obtain ⟨w, k, hd, _⟩ := lit_inv h
        exact hb w k rfl h hd
      rw [e] at k
      exact k _ (Same.refl _)
    walk_at "el"
    refine ite2 (fun h0 => ?_) (fun h0 => ?_)
    · walk_at "el"
      refine bad fun w k _ _ hd => ?_
      subst hd
      obtain ⟨a, xs, rfl, ha, _⟩ := tk.tupD
      rw [isT_of ha] at h0
      cases h0
    obtain ⟨a, ys, rfl, ha⟩ := isT_tup (tk.th (K := K)) (by simpa using h0)
    walk_at "el"
    refine ite2 (fun h1 => ?_) (fun h1 => ?_)
    · walk_at "el"
      refine bad fun w k _ _ hd => ?_
      subst hd
      obtain ⟨a', xs, e, ha', ta⟩ := tk.tupD
      cases e
      rw [ha] at ha'
      cases ha'
      have l : ys.length = 2 := by cases ta with | cons _ t => cases t with | cons _ t => cases t; rfl
      rw [l] at h1
      exact absurd h1 (by show ¬ (!decide (V.int 2 = V.int 2)) = true; decide)
    have l2 : ys.length = 2 := by
      have q : (ys.length : Int) = 2 := by simpa using h1
      omega
    match ys, l2 with
    | [y, z], _ =>
      obtain ⟨d1, d2, rfl, t1, t2⟩ := tk.two ha
      obtain ⟨ty1, kt1⟩ := (t1.th (K := K)).kit
      obtain ⟨ty2, kt2⟩ := (t2.th (K := K)).kit
      walk_at "el"
      refine ite2 (fun h2 => ?_) (fun h2 => ?_)
      · walk_at "el"
        refine bad fun w k _ _ hd => ?_
        cases hd
        rw [t2.str_] at h2
        cases h2
      obtain ⟨s, rfl⟩ : ∃ s, z = .str s := by cases z <;> first | exact ⟨_, rfl⟩ | exact absurd rfl h2
      cases t2.strD
      walk_at "el"
      refine ite2 (fun g1 => ?_) (fun g1 => ?_)
      · walk_at "el"
        refine bad fun w k _ _ hd => ?_
        cases hd
        rw [t1.int_] at g1
        cases g1
      rcases isI_cases (by simpa using g1) with ⟨i, rfl⟩ | ⟨bb, rfl⟩
      · cases t1.intD
        walk_at "el"
        refine ite2 (fun g2 => by cases g2) (fun _ => ?_)
        walk_at "el"
        refine ite2 (fun g3 => ?_) (fun g3 => ?_)
        · have q : i < 0 := by simpa using g3
          walk_at "el"
          refine bad fun w k _ hl hd => ?_
          obtain ⟨w', k', e, _, h0, _⟩ := lit_inv hl
          cases e
          omega
        have q : ¬ i < 0 := by simpa using g3
        walk_at "el"
        refine ite2 (fun g4 => ?_) (fun g4 => ?_)
        · have q4 : wi ≤ i := by simpa using g4
          walk_at "el"
          refine bad fun w k _ hl hd => ?_
          obtain ⟨w', k', e, _, _, h1⟩ := lit_inv hl
          cases e
          omega
        have q4 : ¬ wi ≤ i := by simpa using g4
        walk_at "el"
        refine ⟨by decide, fun p hp => ?_⟩
        have e5 := nw_of hp (.tup [.str "early", .str "late"])
        refine n_inT upd_same rfl rfl ?_
        have e : litB wi (.tuple [.int i, .str s]) = inV (.str s) [.str "early", .str "late"] := by
          show ((decide (0 ≤ i) && decide (i < wi)) && (decide (s = "early") || decide (s = "late"))) = _
          rw [decide_eq_true (by omega), decide_eq_true (by omega), Bool.true_and, Bool.true_and]
          by_cases c1 : s = "early"
          · subst c1
            rw [inV_l, decide_eq_true rfl]; rfl
          · by_cases c2 : s = "late"
            · subst c2
              rw [inV_r, decide_eq_true (p := ("late" : Str) = "late") rfl, Bool.or_true]
            · rw [inV_no c1 c2, decide_eq_false c1, decide_eq_false c2]; rfl
        rw [← e]
        exact k _ e5
      · walk_at "el"
        refine ite2 (fun _ => ?_) (fun g2 => absurd rfl g2)
        walk_at "el"
        refine bad fun w k _ _ hd => ?_
        cases hd
        have := t1.int_
        cases this
theorem ok_l_pairs (F : Fun K "_law_pairs" "_law_pairs" s_pairs f fd) (T : Tb mg) (c_item : Cal P w K mg base CX0 1 "_law_item" ["_law_parts_here", "_law_thing"] (spLItem K)) : FnOk P w K mg base CX0 2 f fd ["_law_parts_here", "_law_thing"] (spLPairs K) := by
  refine F.ok sc_pairs (fun vs H Q E h => ?_) (fun cdv A outer s H vs Q E hr h => ?_)
  · obtain ⟨_, _, _, _, _, _, _, _, _, _, _, _, _, _, _, rfl, _⟩ := h
    rfl
  · obtain ⟨b, p, l, xs, D, q, a1, a3, z, w1, w3, i1, i3, r1, r3, rfl, hL, hq, h1, hs1, h3, hs3, k0⟩ := h
    have start : ∀ {R : VK}, True → True := fun _ => trivial
    obtain ⟨ev1, num1, o1, fl1, ce1⟩ := r1
    obtain ⟨ev3, num3, o3, fl3, ce3⟩ := r3
    refine ⟨_, (pss_cons (ps_par (i := 2) (j := 3) rfl sc_pairs.nd rfl rfl (by decide) rfl rfl (pa_cons (pe_ix ix_seq (pe_cal c_item (hr.mono (by decide)) pass0 (pa_cons (pv 0) (pa_cons (pe_ix ix_seq (pv 1) pe_int (fun _ _ => rfl)) pa_nil))) pe_int (fun _ _ => rfl)) (pa_cons (pe_ix ix_seq (pe_cal c_item (hr.mono (by decide)) pass0 (pa_cons (pv 0) (pa_cons (pe_ix ix_seq (pv 1) pe_int (fun _ _ => rfl)) pa_nil))) pe_int (fun _ _ => rfl)) pa_nil)) (by with_unfolding_all rfl))
  (pss_cons (ps_if (PW.pt (pw_and (pt_cmpR u_is (pv 2) pe_non (nomark _)) (pw_and1 (pt_cmpR u_is (pv 3) pe_non (nomark _)))))
    (pss_one (ps_ret (pe_lst pa_nil)))
    pss_nil)
  (pss_cons (ps_if (pt_cmpR u_is (pv 2) pe_non (nomark _))
    (pss_one (ps_ret (pe_lst (pa_cons (pe_tup (pa_cons (pe_tup (pa_cons (pv 3) (pa_cons pe_str pa_nil))) (pa_cons (pe_tup (pa_cons (pv 3) (pa_cons pe_str pa_nil))) pa_nil))) pa_nil))))
    pss_nil)
  (pss_cons (ps_if (pt_cmpR u_is (pv 3) pe_non (nomark _))
    (pss_one (ps_ret (pe_lst (pa_cons (pe_tup (pa_cons (pe_tup (pa_cons (pv 2) (pa_cons pe_str pa_nil))) (pa_cons (pe_tup (pa_cons (pv 2) (pa_cons pe_str pa_nil))) pa_nil))) pa_nil))))
    pss_nil)
  (pss_one (ps_ret (pe_lst (pa_cons (pe_tup (pa_cons (pe_tup (pa_cons (pv 2) (pa_cons pe_str pa_nil))) (pa_cons (pe_tup (pa_cons (pv 3) (pa_cons pe_str pa_nil))) pa_nil))) (pa_cons (pe_tup (pa_cons (pe_tup (pa_cons (pv 3) (pa_cons pe_str pa_nil))) (pa_cons (pe_tup (pa_cons (pv 2) (pa_cons pe_str pa_nil))) pa_nil))) pa_nil))))))))), ?_⟩
    rcases o1 with _ | u1 <;> rcases o3 with _ | u3
    · walk_at "el"
      refine ⟨b, p, l, xs, D, .ref a1, .tuple [.str w1, .int i1], rfl, hL, .tup h1 (.cons (.str _) (.cons (.int _) .nil)), fun hn => absurd (hs1.symm.trans hn) (fun h => nomatch h), fun r' hr' q1 H1 s1 hq1 => ?_⟩
      cases Option.some.inj (hs1.symm.trans hr')
      have hq' := s1 _ _ hq
      simp only [srcV, witV] at hq1
      walk_at "el"
      refine ⟨b, p, l, xs, D, .ref a3, .tuple [.str w3, .int i3], rfl, hL.same s1, .tup (s1 _ _ h3) (.cons (.str _) (.cons (.int _) .nil)), fun hn => absurd (hs3.symm.trans hn) (fun h => nomatch h), fun r' hr' q3 H2 s2 hq3 => ?_⟩
      cases Option.some.inj (hs3.symm.trans hr')
      simp only [srcV, witV] at hq3
      have s12 := s1.trans s2
      have k : ∀ H' r, Same H2 H' → H2 r = none → Tk H' (.ref r) (.list (pairsW _ _)) → Q (.ref r) H' := fun H' r sH hr t => k0 H' r (s12.trans sH) (s12.free hr) t
      clear k0
      walk_at "el"
      try rw [decide_eq_true rfl]
      walk_at "el"
      try rw [decide_eq_true rfl]
      walk_at "el"
      refine ⟨by decide, fun r hr => ?_⟩
      exact k _ r (nw_of hr _) hr (.lst upd_same .nil)
    · walk_at "el"
      refine ⟨b, p, l, xs, D, .ref a1, .tuple [.str w1, .int i1], rfl, hL, .tup h1 (.cons (.str _) (.cons (.int _) .nil)), fun hn => absurd (hs1.symm.trans hn) (fun h => nomatch h), fun r' hr' q1 H1 s1 hq1 => ?_⟩
      cases Option.some.inj (hs1.symm.trans hr')
      have hq' := s1 _ _ hq
      simp only [srcV, witV] at hq1
      walk_at "el"
      refine ⟨b, p, l, xs, D, .ref a3, .tuple [.str w3, .int i3], rfl, hL.same s1, .tup (s1 _ _ h3) (.cons (.str _) (.cons (.int _) .nil)), fun hn => absurd (hs3.symm.trans hn) (fun h => nomatch h), fun r' hr' q3 H2 s2 hq3 => ?_⟩
      cases Option.some.inj (hs3.symm.trans hr')
      simp only [srcV, witV] at hq3
      have s12 := s1.trans s2
      have k : ∀ H' r, Same H2 H' → H2 r = none → Tk H' (.ref r) (.list (pairsW _ _)) → Q (.ref r) H' := fun H' r sH hr t => k0 H' r (s12.trans sH) (s12.free hr) t
      clear k0
      walk_at "el"
      try rw [decide_eq_true rfl]
      walk_at "el"
      try rw [decide_eq_false (fun h => nomatch h)]
      walk_at "el"
      try rw [decide_eq_true rfl]
      walk_at "el"
      refine ⟨by show 2 ≤ sizeLine; decide, fun t1 g1 => ?_⟩
      have e1 := nw_of g1 (.tup [.int u3, .str "late"])
      have k1 := tk_lit (upd_at g1 (.tup [.int u3, .str "late"]))
      walk_at "el"
      refine ⟨by show 2 ≤ sizeLine; decide, fun t2 g2 => ?_⟩
      have e2 := nw_of g2 (.tup [.int u3, .str "early"])
      have k2 := tk_lit (upd_at g2 (.tup [.int u3, .str "early"]))
      walk_at "el"
      refine ⟨by show 2 ≤ sizeLine; decide, fun t3 g3 => ?_⟩
      have e3 := nw_of g3 (.tup [.ref t1, .ref t2])
      have k3 := tk_pair (upd_at g3 (.tup [.ref t1, .ref t2])) ((k1.same e2).same e3) (k2.same e3)
      walk_at "el"
      refine ⟨by show 1 ≤ sizeLine; decide, fun r hr => ?_⟩
      have e4 := nw_of hr (.lst [.ref t3])
      have s3 : Same H2 _ := fun a o h => e3 a o (e2 _ _ (e1 _ _ h))
      exact k _ r (fun a o h => e4 a o (s3 a o h)) (s3.free hr) (.lst upd_same (.cons (k3.same e4) .nil))
    · walk_at "el"
      refine ⟨b, p, l, xs, D, .ref a1, .tuple [.str w1, .int i1], rfl, hL, .tup h1 (.cons (.str _) (.cons (.int _) .nil)), fun hn => absurd (hs1.symm.trans hn) (fun h => nomatch h), fun r' hr' q1 H1 s1 hq1 => ?_⟩
      cases Option.some.inj (hs1.symm.trans hr')
      have hq' := s1 _ _ hq
      simp only [srcV, witV] at hq1
      walk_at "el"
      refine ⟨b, p, l, xs, D, .ref a3, .tuple [.str w3, .int i3], rfl, hL.same s1, .tup (s1 _ _ h3) (.cons (.str _) (.cons (.int _) .nil)), fun hn => absurd (hs3.symm.trans hn) (fun h => nomatch h), fun r' hr' q3 H2 s2 hq3 => ?_⟩
      cases Option.some.inj (hs3.symm.trans hr')
      simp only [srcV, witV] at hq3
      have s12 := s1.trans s2
      have k : ∀ H' r, Same H2 H' → H2 r = none → Tk H' (.ref r) (.list (pairsW _ _)) → Q (.ref r) H' := fun H' r sH hr t => k0 H' r (s12.trans sH) (s12.free hr) t
      clear k0
      walk_at "el"
      try rw [decide_eq_false (fun h => nomatch h)]
      walk_at "el"
      try rw [decide_eq_false (fun h => nomatch h)]
      walk_at "el"
      try rw [decide_eq_true rfl]
      walk_at "el"
      refine ⟨by show 2 ≤ sizeLine; decide, fun t1 g1 => ?_⟩
      have e1 := nw_of g1 (.tup [.int u1, .str "early"])
      have k1 := tk_lit (upd_at g1 (.tup [.int u1, .str "early"]))
      walk_at "el"
      refine ⟨by show 2 ≤ sizeLine; decide, fun t2 g2 => ?_⟩
      have e2 := nw_of g2 (.tup [.int u1, .str "late"])
      have k2 := tk_lit (upd_at g2 (.tup [.int u1, .str "late"]))
      walk_at "el"
      refine ⟨by show 2 ≤ sizeLine; decide, fun t3 g3 => ?_⟩
      have e3 := nw_of g3 (.tup [.ref t1, .ref t2])
      have k3 := tk_pair (upd_at g3 (.tup [.ref t1, .ref t2])) ((k1.same e2).same e3) (k2.same e3)
      walk_at "el"
      refine ⟨by show 1 ≤ sizeLine; decide, fun r hr => ?_⟩
      have e4 := nw_of hr (.lst [.ref t3])
      have s3 : Same H2 _ := fun a o h => e3 a o (e2 _ _ (e1 _ _ h))
      exact k _ r (fun a o h => e4 a o (s3 a o h)) (s3.free hr) (.lst upd_same (.cons (k3.same e4) .nil))
    · walk_at "el"
      refine ⟨b, p, l, xs, D, .ref a1, .tuple [.str w1, .int i1], rfl, hL, .tup h1 (.cons (.str _) (.cons (.int _) .nil)), fun hn => absurd (hs1.symm.trans hn) (fun h => nomatch h), fun r' hr' q1 H1 s1 hq1 => ?_⟩
      cases Option.some.inj (hs1.symm.trans hr')
      have hq' := s1 _ _ hq
      simp only [srcV, witV] at hq1
      walk_at "el"
      refine ⟨b, p, l, xs, D, .ref a3, .tuple [.str w3, .int i3], rfl, hL.same s1, .tup (s1 _ _ h3) (.cons (.str _) (.cons (.int _) .nil)), fun hn => absurd (hs3.symm.trans hn) (fun h => nomatch h), fun r' hr' q3 H2 s2 hq3 => ?_⟩
      cases Option.some.inj (hs3.symm.trans hr')
      simp only [srcV, witV] at hq3
      have s12 := s1.trans s2
      have k : ∀ H' r, Same H2 H' → H2 r = none → Tk H' (.ref r) (.list (pairsW _ _)) → Q (.ref r) H' := fun H' r sH hr t => k0 H' r (s12.trans sH) (s12.free hr) t
      clear k0
      walk_at "el"
      try rw [decide_eq_false (fun h => nomatch h)]
      walk_at "el"
      try rw [decide_eq_false (fun h => nomatch h)]
      walk_at "el"
      try rw [decide_eq_false (fun h => nomatch h)]
      walk_at "el"
      refine ⟨by show 2 ≤ sizeLine; decide, fun t1 g1 => ?_⟩
      have e1 := nw_of g1 (.tup [.int u1, .str "early"])
      have k1 := tk_lit (upd_at g1 (.tup [.int u1, .str "early"]))
      walk_at "el"
      refine ⟨by show 2 ≤ sizeLine; decide, fun t2 g2 => ?_⟩
      have e2 := nw_of g2 (.tup [.int u3, .str "early"])
      have k2 := tk_lit (upd_at g2 (.tup [.int u3, .str "early"]))
      walk_at "el"
      refine ⟨by show 2 ≤ sizeLine; decide, fun t3 g3 => ?_⟩
      have e3 := nw_of g3 (.tup [.ref t1, .ref t2])
      have k3 := tk_pair (upd_at g3 (.tup [.ref t1, .ref t2])) ((k1.same e2).same e3) (k2.same e3)
      walk_at "el"
      refine ⟨by show 2 ≤ sizeLine; decide, fun t4 g4 => ?_⟩
      have e4 := nw_of g4 (.tup [.int u3, .str "late"])
      have k4 := tk_lit (upd_at g4 (.tup [.int u3, .str "late"]))
      walk_at "el"
      refine ⟨by show 2 ≤ sizeLine; decide, fun t5 g5 => ?_⟩
      have e5 := nw_of g5 (.tup [.int u1, .str "late"])
      have k5 := tk_lit (upd_at g5 (.tup [.int u1, .str "late"]))
      walk_at "el"
      refine ⟨by show 2 ≤ sizeLine; decide, fun t6 g6 => ?_⟩
      have e6 := nw_of g6 (.tup [.ref t4, .ref t5])
      have k6 := tk_pair (upd_at g6 (.tup [.ref t4, .ref t5])) ((k4.same e5).same e6) (k5.same e6)
      walk_at "el"
      refine ⟨by show 2 ≤ sizeLine; decide, fun r hr => ?_⟩
      have e7 := nw_of hr (.lst [.ref t3, .ref t6])
      have s6 : Same H2 _ := fun a o h => e6 a o (e5 _ _ (e4 _ _ (e3 _ _ (e2 _ _ (e1 _ _ h)))))
      exact k _ r (fun a o h => e7 a o (s6 a o h)) (s6.free hr) (.lst upd_same (.cons (((k3.same e4).same e5 |>.same e6).same e7) (.cons (k6.same e7) .nil)))
theorem ok_l_is_step (F : Fun K "_law_is_step" "_law_is_step" s_l_is_step f fd) (T : Tb mg) (c_is_literal : Cal P w K mg base CX0 1 "_law_is_literal" ["_law_witnesses", "_law_thing"] (spLLit K)) (c_l_is_link : Cal P w K mg base CX0 2 "_law_is_link" ["_law_parts_here", "_law_thing"] (spLLink K)) (c_pairs : Cal P w K mg base CX0 2 "_law_pairs" ["_law_parts_here", "_law_thing"] (spLPairs K)) (c_by_clause : Cal P w K mg base CX0 2 "_law_by_clause" ["_law_item_here"] spPC) :
    FnOk P w K mg base CX0 3 f fd ["_law_witnesses", "_law_parts_here", "_law_thing"] (spLStep K) := by
  refine F.ok sc_l_is_step (fun vs H Q E h => ?_) (fun cdv A outer s H vs Q E hr h => ?_)
  · obtain ⟨_, _, _, _, _, _, _, _, _, rfl, _⟩ := h
    rfl
  · obtain ⟨b, p, l, xs, D, ev, wi, x, d, rfl, hL, ok, tk, hbu, k⟩ := h
    refine ⟨_, (pss_cons (ps_if (PW.pt (pw_or (pt_not (pt_val (pe_callB u_isi rfl T.b.isinstance_ boot_isinstance (pa_cons (pv 2) (pa_cons (pe_bltn (v := V.ty "tuple") rfl T.b.tuple_ (by decide +kernel) rfl) pa_nil))))) (pw_or1 (pt_cmpR (u_ne hr.units) (pe_callB u_len rfl T.b.len_ boot_len (pa_cons (pv 2) pa_nil)) pe_int (nomark _)))))
    (pss_one (ps_ret pe_bl))
    pss_nil)
  (pss_cons (ps_if (PW.pt (pw_or (pt_not (pt_val (pe_cal c_is_literal (hr.mono (by decide)) pass0 (pa_cons (pv 0) (pa_cons (pe_ix ix_seq (pv 2) pe_int (fun _ _ => rfl)) pa_nil))))) (pw_or1 (pt_not (pt_val (pe_cal c_is_literal (hr.mono (by decide)) pass0 (pa_cons (pv 0) (pa_cons (pe_ix ix_seq (pv 2) pe_int (fun _ _ => rfl)) pa_nil))))))))
    (pss_one (ps_ret pe_bl))
    pss_nil)
  (pss_cons (ps_set (i := 3) sc_l_is_step.nd rfl (Or.inl rfl) (pe_ix ix_seq (pv 2) pe_int (fun _ _ => rfl)))
  (pss_cons (ps_if (PW.pt (pw_or (pt_not (pt_val (pe_callB u_isi rfl T.b.isinstance_ boot_isinstance (pa_cons (pv 3) (pa_cons (pe_bltn (v := V.ty "tuple") rfl T.b.tuple_ (by decide +kernel) rfl) pa_nil))))) (pw_or (pt_cmpR (u_ne hr.units) (pe_callB u_len rfl T.b.len_ boot_len (pa_cons (pv 3) pa_nil)) pe_int (nomark _)) (pw_or1 (pt_not (pt_val (pe_callB u_isi rfl T.b.isinstance_ boot_isinstance (pa_cons (pe_ix ix_seq (pv 3) pe_int (fun _ _ => rfl)) (pa_cons (pe_bltn (v := V.ty "str") rfl T.b.str_ (by decide +kernel) rfl) pa_nil)))))))))
    (pss_one (ps_ret pe_bl))
    pss_nil)
  (pss_cons (ps_if (pt_cmpR (u_eq hr.units) (pe_ix ix_seq (pv 3) pe_int (fun _ _ => rfl)) pe_str (nomark _))
    (pss_one (ps_ret (pe_and (pe_cal c_l_is_link (hr.mono (by decide)) pass0 (pa_cons (pv 1) (pa_cons (pe_ix ix_seq (pv 3) pe_int (fun _ _ => rfl)) pa_nil))) (pe_one (pe_cmpR (op_inD (room65 hr)) (pe_tup (pa_cons (pe_ix ix_seq (pv 2) pe_int (fun _ _ => rfl)) (pa_cons (pe_ix ix_seq (pv 2) pe_int (fun _ _ => rfl)) pa_nil))) (pe_cal c_pairs (hr.mono (by decide)) pass0 (pa_cons (pv 1) (pa_cons (pe_ix ix_seq (pv 3) pe_int (fun _ _ => rfl)) pa_nil))) rfl)))))
    pss_nil)
  (pss_cons (ps_if (PW.pt (pw_or (pt_cmpR (u_ne hr.units) (pe_ix ix_seq (pv 3) pe_int (fun _ _ => rfl)) pe_str (nomark _)) (pw_or (pt_not (pt_val (pe_callB u_isi rfl T.b.isinstance_ boot_isinstance (pa_cons (pe_ix ix_seq (pv 3) pe_int (fun _ _ => rfl)) (pa_cons (pe_bltn (v := V.ty "int") rfl T.b.int_ (by decide +kernel) rfl) pa_nil))))) (pw_or1 (pt_val (pe_callB u_isi rfl T.b.isinstance_ boot_isinstance (pa_cons (pe_ix ix_seq (pv 3) pe_int (fun _ _ => rfl)) (pa_cons (pe_bltn (v := V.ty "bool") rfl T.b.bool_ (by decide +kernel) rfl) pa_nil))))))))
    (pss_one (ps_ret pe_bl))
    pss_nil)
  (pss_one (ps_ret (pe_and (pe_chain op_le op_lt pe_int (pe_ix ix_seq (pv 3) pe_int (fun _ _ => rfl)) (pe_callB u_len rfl T.b.len_ boot_len (pa_cons (pe_ix ix_seq (pv 1) pe_int (fun _ _ => rfl)) pa_nil))) (pe_one (pe_cmpR (op_inD (room65 hr)) (pe_tup (pa_cons (pe_ix ix_seq (pv 2) pe_int (fun _ _ => rfl)) (pa_cons (pe_ix ix_seq (pv 2) pe_int (fun _ _ => rfl)) pa_nil))) (pe_cal c_by_clause (hr.mono (by decide)) pass0 (pa_cons (pe_ix ix_seq (pe_ix ix_seq (pv 1) pe_int (fun _ _ => rfl)) (pe_ix ix_seq (pv 3) pe_int (fun _ _ => rfl)) (fun _ _ => rfl)) pa_nil)) rfl))))))))))), ?_⟩
    obtain ⟨ty, kt⟩ := (tk.th (K := K)).kit
    walk_at "el"
    refine ite2 (fun h0 => ?_) (fun h0 => ?_)
    · walk_at "el"
      have e : stepB D wi d = false := by
        unfold stepB
        split
        · exfalso
          obtain ⟨a, xs, rfl, ha, ta⟩ := tk.tupD
          rw [isT_of ha] at h0
          cases h0
        · rfl
      rw [e] at k
      exact k _ (Same.refl _)
    obtain ⟨a, ys, rfl, ha⟩ := isT_tup (tk.th (K := K)) (by simpa using h0)
    walk_at "el"
    refine ite2 (fun h1 => ?_) (fun h1 => ?_)
    · walk_at "el"
      have e : stepB D wi d = false := by
        unfold stepB
        split
        · exfalso
          obtain ⟨a', xs, e, ha', ta⟩ := tk.tupD
          cases e
          rw [ha] at ha'
          cases ha'
          have l : ys.length = 3 := by cases ta with | cons _ t => cases t with | cons _ t => cases t with | cons _ t => cases t; rfl
          rw [l] at h1
          exact absurd h1 (by show ¬ (!decide (V.int 3 = V.int 3)) = true; decide)
        · rfl
      rw [e] at k
      exact k _ (Same.refl _)
    have l3 : ys.length = 3 := by
      have q : (ys.length : Int) = 3 := by simpa using h1
      omega
    match ys, l3 with
    | [x1, x2, x3], _ =>
      obtain ⟨d1, d2, d3, rfl, t1, t2, t3⟩ := tk.three ha
      rw [step_eq] at k
      walk_at "el"
      refine ⟨wi, x1, d1, rfl, t1, fun H1 s1 => ?_⟩
      rcases g1 : litB wi d1
      · rw [g1, Bool.false_and] at k
        walk_at "el"
        exact k _ s1
      rw [g1, Bool.true_and] at k
      have ha1 := s1 _ _ ha
      walk_at "el"
      refine ⟨wi, x3, d3, rfl, t3.same s1, fun H2 s2 => ?_⟩
      have s12 := s1.trans s2
      rcases g3 : litB wi d3
      · rw [g3, Bool.false_and] at k
        walk_at "el"
        exact k _ s12
      rw [g3, Bool.true_and] at k
      have ha2 := s12 _ _ ha
      have u2 := t2.same s12
      have LL := hL.same s12
      have bad : (∀ e, d2 = .tuple [.str "clause", e] → whyB D d1 d3 d2 = true → False) → (∀ e, d2 = .tuple [.str "link", e] → False) → Q (.bl false) H2 := fun hc hl => by
        have e : whyB D d1 d3 d2 = false := by
          rw [← Bool.not_eq_true]
          intro h
          rcases why_inv h with ⟨e, he⟩ | ⟨e, he⟩
          · exact hc e he h
          · exact hl e he
        rw [e] at k
        exact k _ s12
      obtain ⟨ty2, kt2⟩ := (u2.th (K := K)).kit
      walk_at "el"
      refine ite2 (fun h4 => ?_) (fun h4 => ?_)
      · walk_at "el"
        refine bad (fun e hd _ => ?_) (fun e hd => ?_)
        · subst hd
          obtain ⟨c, y, rfl, hc, _⟩ := u2.headed
          rw [isT_of hc] at h4
          cases h4
        · subst hd
          obtain ⟨c, y, rfl, hc, _⟩ := u2.headed
          rw [isT_of hc] at h4
          cases h4
      obtain ⟨c, zs, rfl, hc⟩ := isT_tup (u2.th (K := K)) (by simpa using h4)
      walk_at "el"
      refine ite2 (fun h5 => ?_) (fun h5 => ?_)
      · walk_at "el"
        have bl : zs.length = 2 → False := fun l => by
          rw [l] at h5
          exact absurd h5 (by show ¬ (!decide (V.int 2 = V.int 2)) = true; decide)
        refine bad (fun e hd _ => ?_) (fun e hd => ?_)
        · subst hd
          obtain ⟨c', y, e, hc', _⟩ := u2.headed
          cases e
          rw [hc] at hc'
          cases hc'
          exact bl rfl
        · subst hd
          obtain ⟨c', y, e, hc', _⟩ := u2.headed
          cases e
          rw [hc] at hc'
          cases hc'
          exact bl rfl
      have l2 : zs.length = 2 := by
        have q : (zs.length : Int) = 2 := by simpa using h5
        omega
      match zs, l2 with
      | [y, z], _ =>
        obtain ⟨e1, e2, rfl, v1, v2⟩ := u2.two hc
        obtain ⟨ty3, kt3⟩ := (v1.th (K := K)).kit
        obtain ⟨ty4, kt4⟩ := (v2.th (K := K)).kit
        walk_at "el"
        refine ite2 (fun h6 => ?_) (fun h6 => ?_)
        · walk_at "el"
          refine bad (fun e hd _ => ?_) (fun e hd => ?_)
          · cases hd
            rw [v1.str_] at h6
            cases h6
          · cases hd
            rw [v1.str_] at h6
            cases h6
        obtain ⟨s, rfl⟩ : ∃ s, y = .str s := by cases y <;> first | exact ⟨_, rfl⟩ | exact absurd rfl h6
        cases v1.strD
        walk_at "el"
        by_cases c1 : s = "link"
        · subst c1
          rw [decide_eq_true rfl]
          rw [why_lk] at k
          have be : e2.bulk ≤ 300000 := by
            have z : e2.bulk ≤ (PyData.tuple [d1, .tuple [.str "link", e2], d3]).bulk := by
              simp only [PyData.bulk, PyData.bulkAll]
              omega
            omega
          walk_at "el"
          refine ⟨b, p, l, xs, D, z, e2, rfl, LL, v2, be, fun H3 s3 => ?_⟩
          have s13 := s12.trans s3
          rcases g5 : linkB D e2
          · rw [g5, Bool.false_and] at k
            walk_at "el"
            exact k _ s13
          rw [g5, Bool.true_and] at k
          obtain ⟨w1, w3, i1, i3, m, r1, r3, rfl, hs1, hs3⟩ := link_inv g5
          rw [pairs_link hs1 hs3] at k
          obtain ⟨q, a1, z', a3, rfl, hq, hb1, hb3⟩ := v2.lnk
          have ha3 := s13 _ _ ha
          walk_at "el"
          refine ⟨by show 2 ≤ sizeLine; decide, fun p' hp => ?_⟩
          have e6 := nw_of hp (.tup [x1, x3])
          have tp := tk_pair (upd_at hp (.tup [x1, x3])) ((t1.same s13).same e6) ((t3.same s13).same e6)
          have hc4 := e6 _ _ (s3 _ _ hc)
          walk_at "el"
          refine ⟨b, p, l, xs, D, q, a1, a3, z', w1, w3, i1, i3, r1, r3, rfl, (LL.same s3).same e6, e6 _ _ (s3 _ _ hq), e6 _ _ (s3 _ _ hb1), hs1, e6 _ _ (s3 _ _ hb3), hs3, fun H5 r s5 hr tr => ?_⟩
          refine n_inP (tp.same s5) g1 g3 tr nod_W shp_W ?_
          exact k _ (fun a o h => s5 a o (e6 _ _ (s13 a o h)))
        rw [decide_eq_false (fun h => c1 (V.str.inj h))]
        walk_at "el"
        by_cases c2 : s = "clause"
        · subst c2
          rw [decide_eq_true rfl]
          walk_at "el"
          rw [why_cl] at k
          refine ite2 (fun g6 => ?_) (fun g6 => ?_)
          · walk_at "el"
            refine bad (fun e hd h => ?_) (fun e hd => by cases hd)
            rw [why_cl] at h
            cases v2 with
            | int i => cases g6
            | _ => cases h
          rcases isI_cases (by simpa using g6) with ⟨i, rfl⟩ | ⟨bb, rfl⟩
          · cases v2.intD
            have hp2 := LL.hp
            have hl2 := LL.hl .cla
            have bad2 : atZ D.L i = none → Q (.bl false) H2 := fun hz => by
              have e : clB D d1 d3 (.int i) = false := by
                show (match atZ D.L i with | some x => inP (pairsC x) d1 d3 | none => false) = false
                rw [hz]
              rw [e] at k
              exact k _ s12
            walk_at "el"
            refine ite2 (fun g7 => by cases g7) (fun _ => ?_)
            walk_at "el"
            refine ite2 (fun g8 => ?_) (fun g8 => ?_)
            · have q8 : 0 ≤ i := by simpa using g8
              obtain ⟨n, rfl⟩ : ∃ n : Nat, i = n := ⟨i.toNat, by omega⟩
              walk_at "el"
              rw [LL.r.l.len]
              refine ite2 (fun g9 => ?_) (fun g9 => ?_)
              · have q9 : (n : Int) < D.L.length := by simpa using g9
                have hn : n < D.L.length := by omega
                have ek : clB D d1 d3 (.int n) = inP (pairsC D.L[n]) d1 d3 := by
                  show (match atZ D.L n with | some x => inP (pairsC x) d1 d3 | none => false) = _
                  rw [atZ_nat, List.getElem?_eq_getElem hn]
                rw [ek] at k
                have okl := ok.l _ (List.getElem_mem hn)
                walk_at "el"
                refine ⟨by show 2 ≤ sizeLine; decide, fun p' hp => ?_⟩
                have e6 := nw_of hp (.tup [x1, x3])
                have tp := tk_pair (upd_at hp (.tup [x1, x3])) ((t1.same s12).same e6) ((t3.same s12).same e6)
                have L6 := LL.same e6
                have hp6 := L6.hp
                have hl6 := L6.hl .cla
                have hc6 := e6 _ _ hc
                obtain ⟨u, hu, hv⟩ := L6.r.l.get (List.getElem?_eq_getElem hn)
                walk_at "el"
                refine n_ixL (SqL.of hl6) (atI_nat hu) ?_
                walk_at "el"
                refine ⟨u, D.L[n], rfl, hv, fun H5 r s5 hr tr => ?_⟩
                refine n_inP (tp.same s5) g1 g3 tr rfl (shp_C okl.2.1 okl.2.2.2) ?_
                exact k _ (fun a o h => s5 a o (e6 _ _ (s12 a o h)))
              · have q9 : ¬ (n : Int) < D.L.length := by simpa using g9
                walk_at "el"
                refine bad2 ?_
                rw [atZ_nat]
                exact List.getElem?_eq_none (by omega)
            · have q8 : ¬ 0 ≤ i := by simpa using g8
              walk_at "el"
              refine bad2 ?_
              unfold atZ
              rw [if_neg q8]
          · walk_at "el"
            refine ite2 (fun _ => ?_) (fun g7 => absurd rfl g7)
            walk_at "el"
            refine bad (fun e hd h => ?_) (fun e hd => by cases hd)
            rw [why_cl] at h
            cases v2 with
            | _ => cases h
        · rw [decide_eq_false (fun h => c2 (V.str.inj h))]
          walk_at "el"
          refine bad (fun e hd _ => ?_) (fun e hd => ?_)
          · cases hd
            exact c2 rfl
          · cases hd
            exact c1 rfl
end
end EL

/- part K25 -/
namespace EL
open PySem PySem.Spec PyProof.Rows L2
open PySem.W (Frag)
abbrev s_drawn : Stmt := top 65
abbrev N_drawn : List Str := ["_law_bag_here", "_law_events", "_law_witnesses", "_law_parts_here", "_law_every", "_law_index", "_law_one_here", "_law_other", "_law_start", "_law_trail", "_law_here", "_law_ends", "_law_thing", "_law_pairs_here"]
theorem sc_drawn : FnScope N_drawn ["_law_bag_here", "_law_events", "_law_witnesses", "_law_parts_here"] (defScope s_drawn) := ⟨rfl, rfl, rfl, by decide +kernel, rfl, by decide +kernel, by decide +kernel⟩
local macro_rules | `(tactic| walk_at "el1") => `(tactic| with_reducible first
  | refine a_sasg ?_ | refine a_sdrop ?_ | refine a_saugS ?_ | refine a_spar ?_ | refine a_seq ?_ | refine a_asg ?_ | refine a_drop ?_ | refine a_ret ?_ | refine a_if ?_ | refine a_next ?_
  | refine a_op ?_ | refine a_cons ?_ | refine a_nil ?_ | refine a_cb ?_ | refine a_call ?_ | refine a_c ?_ | refine a_gn ?_ | refine a_nx ?_ | refine a_rt ?_ | refine a_un ?_
  | refine a_test ?_ | refine a_B ?_ | refine a_bl ?_ | refine a_and ?_ | refine a_or ?_ | refine a_not ?_ | refine a_andV ?_ | refine a_orV ?_ | refine a_notV ?_ | refine a_ifx ?_ | refine a_chain ?_
  | refine a_nT ?_ | refine a_nF ?_ | refine a_fld ?_ | refine a_getF ?_ | refine a_T ?_ | refine a_F ?_ | refine a_tup ?_ | refine a_lst ?_ | refine a_sub ?_ | refine a_augS ?_ | refine a_two ?_ | refine a_I0 ?_ | refine a_U ?_ | refine n_add ?_ | refine n_int ?_ | refine n_ib ?_ | refine a_ip ?_ | refine a_rng1 ?_ | refine a_rng2 ?_ | refine a_bm ?_ | refine a_abs ?_ | refine a_pairs ?_ | refine a_pairs0 ?_ | refine a_bk ?_ | refine a_prp ?_ | refine a_lc ?_ | refine a_yes ?_ | refine a_sl ?_ | refine a_nop ?_ | refine a_prt ?_ | refine a_ex1 ?_ | refine a_for ?_ | refine a_sfor ?_ | refine a_iE1 ?_ | refine a_iEs ?_ | refine a_iEz ?_ | refine a_iEnum ?_ | refine a_iTup ?_ | refine a_iList ?_ | refine a_gcons ?_ | refine a_gnil ?_ | refine a_revT ?_ | refine a_spar3 ?_ | refine a_par3 ?_ | refine a_three ?_)
local macro_rules | `(tactic| walk_at "el2") => `(tactic| first
  | (refine a_var (by rfl) ?_)
  | (refine n_ixL (SqL.of (by assumption)) (by rfl) ?_) | (refine n_ixT (SqT.of (by assumption)) (by rfl) ?_) | (refine n_eq (by rfl) ?_) | (refine n_ne (by rfl) ?_)
  | (refine n_isN ?_) | (refine n_notN ?_) | (refine n_isB ?_) | (refine n_notB ?_) | (refine n_isBI ?_) | (refine n_notBI ?_) | (refine n_len (.inl (SqL.of (by assumption))) ?_) | (refine n_len (.inr (SqT.of (by assumption))) ?_)
  | (refine a_getL (SqL.of (by assumption)) (by rfl) ?_)
  | (refine n_isInt (by assumption) ?_) | (refine n_isBool (by assumption) ?_) | (refine n_isStr (by assumption) ?_) | (refine n_isTup (by assumption) ?_) | (refine n_isLst (by assumption) ?_))
local macro_rules | `(tactic| walk_at "el") => `(tactic| repeat (first | walk_at "el1" | walk_at "el2"))

theorem SrcsAre.kp {H H' : Hp} {D : PD} {b c : Addr} {ws : List V} (h : SrcsAre H D ws) (hb : Bag H b c) (k : Kp b H H') : SrcsAre H' D ws := fun v hv => by
  obtain ⟨q, wd, i, r, e, hq, hs⟩ := h v hv
  exact ⟨q, wd, i, r, e, k _ _ (hb.neT hq) hq, hs⟩
theorem SrcsAre.same {H H' : Hp} {D : PD} {ws : List V} (h : SrcsAre H D ws) (k : Same H H') : SrcsAre H' D ws := fun v hv => by
  obtain ⟨q, wd, i, r, e, hq, hs⟩ := h v hv
  exact ⟨q, wd, i, r, e, k _ _ hq, hs⟩
theorem src_word {D : PD} {wd : Str} {i : Int} {r : Src} (h : srcD D wd i = some r) (l1 : D.T.length ≤ 1000) (l2 : D.S.length ≤ 1000) : (wd = "told" ∨ wd = "sure") ∧ 0 ≤ i ∧ i ≤ 1000 := by
  rcases src_cases h with ⟨e, n, x, rfl, hn, _⟩ | ⟨e, n, x, rfl, hn, _⟩
  · have := (List.getElem?_eq_some_iff.mp hn).1
    exact ⟨.inl e, by omega, by omega⟩
  · have := (List.getElem?_eq_some_iff.mp hn).1
    exact ⟨.inr e, by omega, by omega⟩
theorem ni_src {H : Hp} {D : PD} {b q : Addr} {wd : Str} {i : Int} {r : Src} (hq : H q = some (.tup [.str wd, .int i])) (nb : q ≠ b) (h : srcD D wd i = some r) (l1 : D.T.length ≤ 1000) (l2 : D.S.length ≤ 1000) : NiS 10 1 b H (.ref q) := by
  obtain ⟨e, i0, i1⟩ := src_word h l1 l2
  have z : NiS 4 0 b H (.str wd) := by
    rcases e with rfl | rfl
    · exact NiS.le ni_str (by decide +kernel) (by decide)
    · exact NiS.le ni_str (by decide +kernel) (by decide)
  exact (ni_tup hq nb (all_cons z (all_cons ((ni_int (Nat.lt_of_lt_of_le (m := 1001) (by omega) (by decide))).le (by decide) (by decide)) all_nil))).le (by show 2 * (4 + 1) ≤ 10; decide) (by decide)
theorem list_dp {K : Frag} {H : Hp} {m : Nat} : ∀ {us : List V}, (∀ v ∈ us, ∃ d, Tk H v d ∧ d.hasDict = false ∧ d.canLay0 = true ∧ d.depth ≤ m) → ∃ ds : List PyData, DpAll K H us ds ∧ PyData.canLayAll0 ds = true ∧ PyData.depthAll ds ≤ m ∧ ds.length = us.length
  | [], _ => ⟨[], .nil, rfl, Nat.zero_le _, rfl⟩
  | v :: us, h => by
    obtain ⟨ds, a, c, d, l⟩ := list_dp (K := K) (us := us) fun x hx => h x (List.mem_cons_of_mem _ hx)
    obtain ⟨e, t, n, cl, dp⟩ := h v (List.mem_cons_self ..)
    refine ⟨e :: ds, .cons (tk_dp _ _ t n) a, ?_, ?_, by rw [List.length_cons, List.length_cons, l]⟩
    · show (e.canLay0 && PyData.canLayAll0 ds) = true
      rw [c, cl]; rfl
    · show max e.depth (PyData.depthAll ds) ≤ m
      exact Nat.max_le.mpr ⟨dp, d⟩
theorem shp_lst {ds : List PyData} {m : Nat} (c : PyData.canLayAll0 ds = true) (d : PyData.depthAll ds ≤ m) (h : m ≤ 60) : SeqAt.shaped (.list ds) = true := by
  show (PyData.canLayAll0 ds && decide (PyData.depthAll ds + 1 ≤ 64)) = true
  rw [c, decide_eq_true (by omega)]
  rfl
theorem src_nice {H : Hp} {D : PD} {us : List V} (h : SrcsAre H D us) : ∀ v ∈ us, ∃ d, Tk H v d ∧ d.hasDict = false ∧ d.canLay0 = true ∧ d.depth ≤ 1 := fun v hv => by
  obtain ⟨q, wd, i, r, rfl, hq, hs⟩ := h v hv
  have z : PyData.strOk wd = true := by
    rcases src_cases hs with ⟨e, _⟩ | ⟨e, _⟩
    · rw [e]; decide +kernel
    · rw [e]; decide +kernel
  refine ⟨.tuple [.str wd, .int i], .tup hq (.cons (.str _) (.cons (.int _) .nil)), rfl, ?_, by show max 0 (max 0 0) + 1 ≤ 1; decide⟩
  show (PyData.strOk wd && true) = true
  rw [z]; rfl
theorem cla_nice {H : Hp} {xs : List V} {L : List (Int × Str × Int × Str)} (h : RowsAre encL H xs L) (ok : ∀ x ∈ L, (x.2.1 = "early" ∨ x.2.1 = "late") ∧ (x.2.2.2 = "early" ∨ x.2.2.2 = "late")) : ∀ v ∈ xs, ∃ d, Tk H v d ∧ d.hasDict = false ∧ d.canLay0 = true ∧ d.depth ≤ 1 := fun v hv => by
  obtain ⟨i, hi, e⟩ := List.getElem_of_mem hv
  obtain ⟨q, x, e1, hx, hq⟩ := h.at_ i v (by rw [List.getElem?_eq_getElem hi, e])
  obtain ⟨k1, k2⟩ := ok x (List.mem_of_getElem? hx)
  subst e1
  refine ⟨.tuple [.int x.1, .str x.2.1, .int x.2.2.1, .str x.2.2.2], .tup hq (.cons (.int _) (.cons (.str _) (.cons (.int _) (.cons (.str _) .nil)))), rfl, ?_, by show max 0 (max 0 (max 0 (max 0 0))) + 1 ≤ 1; decide⟩
  show (true && (PyData.strOk x.2.1 && (true && (PyData.strOk x.2.2.2 && true)))) = true
  rw [lit_strOk k1, lit_strOk k2]; rfl
/-- a literal in the heap -/
def LitAt (H : Hp) (y : Addr) : Prop := ∃ (w : Int) (k : Str), H y = some (.tup [.int w, .str k]) ∧ 0 ≤ w ∧ w ≤ 1000 ∧ (k = "early" ∨ k = "late")
/-- why a step holds, in the heap -/
def WhyAt (b : Addr) (H : Hp) (y : Addr) : Prop := (∃ n : Int, H y = some (.tup [.str "clause", .int n]) ∧ 0 ≤ n ∧ n ≤ 1000) ∨
  ∃ t a1 tr a3, H y = some (.tup [.str "link", .ref t]) ∧ H t = some (.tup [.ref a1, .ref tr, .ref a3]) ∧ NiS 20 1 b H (.ref a1) ∧ NiS 20 1 b H (.ref tr) ∧ NiS 20 1 b H (.ref a3)
theorem LitAt.kp {H H' : Hp} {b c y : Addr} (h : LitAt H y) (hb : Bag H b c) (k : Kp b H H') : LitAt H' y := by
  obtain ⟨w, s, hy, r⟩ := h
  exact ⟨w, s, k _ _ (hb.neT hy) hy, r⟩
theorem LitAt.same {H H' : Hp} {y : Addr} (h : LitAt H y) (k : Same H H') : LitAt H' y := by
  obtain ⟨w, s, hy, r⟩ := h
  exact ⟨w, s, k _ _ hy, r⟩
theorem WhyAt.kp {H H' : Hp} {b c y : Addr} (h : WhyAt b H y) (hb : Bag H b c) (k : Kp b H H') : WhyAt b H' y := by
  rcases h with ⟨n, hy, r⟩ | ⟨t, a1, tr, a3, hy, ht, n1, n2, n3⟩
  · exact .inl ⟨n, k _ _ (hb.neT hy) hy, r⟩
  · exact .inr ⟨t, a1, tr, a3, k _ _ (hb.neT hy) hy, k _ _ (hb.neT ht) ht, n1.kp k, n2.kp k, n3.kp k⟩
def spDrawn5 (K : Frag) : Sp := fun vs H Q _ => ∃ (b c p : Addr) (l : Pt → Addr) (xs : Pt → List V) (D : PD) (ev wi e0 : Int), vs = [.ref b, .int e0, .int wi, .ref p] ∧ Bag H b c ∧ LP H b p l xs D ∧ D.Ok ev wi ∧ wi ≤ 1000 ∧ 0 < wi ∧ D.T.length ≤ 1000 ∧ D.G.length ≤ 1000 ∧ D.S.length ≤ 1000 ∧ D.L.length ≤ 1000 ∧
  ∀ q H' y1 y2 y3, Bag H' b c → Kp b H H' → H' q = some (.tup [.ref y1, .ref y2, .ref y3]) → LitAt H' y1 → WhyAt b H' y2 → LitAt H' y3 → Q (.ref q) H'
/-- the two literals of one of a list of pairs -/
theorem pair_of {H : Hp} {ps : List PyData} {r : Addr} {vs : List V} (t : Tk H (.ref r) (.list ps)) (h : H r = some (.lst vs)) (ok : ∀ d ∈ ps, ∃ (w v : Int) (j k : Str), d = .tuple [litD w j, litD v k] ∧ 0 ≤ w ∧ w ≤ 1000 ∧ 0 ≤ v ∧ v ≤ 1000 ∧ (j = "early" ∨ j = "late") ∧ (k = "early" ∨ k = "late")) :
    ∀ x ∈ vs, ∃ q y1 y3, x = .ref q ∧ H q = some (.tup [.ref y1, .ref y3]) ∧ LitAt H y1 ∧ LitAt H y3 := fun x hx => by
  obtain ⟨ds, e, ta⟩ := t.elL h
  cases e
  obtain ⟨d, hd, td⟩ := ta.mem x hx
  obtain ⟨w, v, j, k, rfl, w0, w1, v0, v1, hj, hk⟩ := ok d hd
  obtain ⟨q, zs, rfl, hq, tz⟩ := td.tupD
  cases tz with
  | cons h1 tz =>
    cases tz with
    | cons h2 tz =>
      cases tz
      obtain ⟨y1, z1, rfl, g1, k1⟩ := h1.tupD
      obtain ⟨y3, z3, rfl, g3, k3⟩ := h2.tupD
      cases k1 with
      | cons a1 k1 =>
        cases k1 with
        | cons a2 k1 =>
          cases k1
          cases k3 with
          | cons b1 k3 =>
            cases k3 with
            | cons b2 k3 =>
              cases k3
              rw [a1.int_, a2.str_] at g1
              rw [b1.int_, b2.str_] at g3
              exact ⟨q, y1, y3, rfl, hq, ⟨w, j, g1, w0, w1, hj⟩, ⟨v, k, g3, v0, v1, hk⟩⟩
theorem Tk.lstD {H : Hp} {r : Addr} {ds : List PyData} (t : Tk H (.ref r) (.list ds)) : ∃ vs, H r = some (.lst vs) ∧ TkAll H vs ds := by
  cases t with
  | lst h t => exact ⟨_, h, t⟩
section
variable {P : Program} {w : World} {K : Frag} {mg : Str → Option Value} {base : Heap} {f : Addr} {fd : FuncData} {C : Addr}
theorem ok_drawn (F : Fun K "_law_drawn" "_law_drawn" s_drawn f fd) (T : Tb mg) (c_take : Cal P w K mg base CX0 1 "_law_take" ["_law_bag_here", "_law_many"] spTake) (c_one : Cal P w K mg base CX0 2 "_law_one" ["_law_bag_here", "_law_menu"] (spOne K)) (c_item : Cal P w K mg base CX0 1 "_law_item" ["_law_parts_here", "_law_thing"] (spLItem K))
    (c_walk : Cal P w K mg base CX0 3 "_law_walk" ["_law_bag_here", "_law_gaps", "_law_a", "_law_many"] (spWalk K)) (c_sources : Cal P w K mg base CX0 1 "_law_sources" ["_law_parts_here"] (spSrcs K)) (c_by_clause : Cal P w K mg base CX0 2 "_law_by_clause" ["_law_item_here"] spPC) (c_pairs : Cal P w K mg base CX0 2 "_law_pairs" ["_law_parts_here", "_law_thing"] (spLPairs K)) :
    FnOk P w K mg base CX0 4 f fd ["_law_bag_here", "_law_events", "_law_witnesses", "_law_parts_here"] (spDrawn5 K) := by
  refine F.ok sc_drawn (fun vs H Q E h => ?_) (fun cdv A outer s H vs Q E hr h => ?_)
  · obtain ⟨_, _, _, _, _, _, _, _, _, rfl, _⟩ := h
    rfl
  · obtain ⟨b, c, p, l, xs, D, ev, wi, ev0, rfl, hb, hL, ok, wi8, wi0, lT, lG, lS, lC, k⟩ := h
    refine ⟨_, (pss_cons (ps_set (i := 4) sc_drawn.nd rfl (Or.inl rfl) (pe_cal c_sources (hr.mono (by decide)) pass0 (pa_cons (pv 3) pa_nil)))
  (pss_cons (ps_if (PW.pt (pw_and (pt_cmpR (u_ne hr.units) (pe_ix ix_seq (pv 3) pe_int (fun _ _ => rfl)) (pe_lst pa_nil) (nomark _)) (pw_and1 (PW.pt (pw_or (pt_cmpR (u_eq hr.units) (pv 4) (pe_lst pa_nil) (nomark _)) (pw_or1 (pt_cmpR (u_eq hr.units) (pe_cal c_take (hr.mono (by decide)) pass0 (pa_cons (pv 0) (pa_cons pe_int pa_nil))) pe_int (nomark _))))))))
    (pss_cons (ps_set (i := 5) sc_drawn.nd rfl (Or.inl rfl) (pe_cal c_take (hr.mono (by decide)) pass0 (pa_cons (pv 0) (pa_cons (pe_callB u_len rfl T.b.len_ boot_len (pa_cons (pe_ix ix_seq (pv 3) pe_int (fun _ _ => rfl)) pa_nil)) pa_nil))))
  (pss_cons (ps_asg (pe_cal c_one (hr.mono (by decide)) pass0 (pa_cons (pv 0) (pa_cons (pe_cal c_by_clause (hr.mono (by decide)) pass0 (pa_cons (pe_ix ix_seq (pe_ix ix_seq (pv 3) pe_int (fun _ _ => rfl)) (pv 5) (fun _ _ => rfl)) pa_nil)) pa_nil))) (pg_tup rfl (pgs_cons (pg_name (i := 6) sc_drawn.nd rfl (Or.inl rfl)) (pgs_cons (pg_name (i := 7) sc_drawn.nd rfl (Or.inl rfl)) pgs_nil))))
  (pss_one (ps_ret (pe_tup (pa_cons (pv 6) (pa_cons (pe_tup (pa_cons pe_str (pa_cons (pv 5) pa_nil))) (pa_cons (pv 7) pa_nil))))))))
    pss_nil)
  (pss_cons (ps_if (pt_cmpR (u_eq hr.units) (pv 4) (pe_lst pa_nil) (nomark _))
    (pss_one (ps_ret (pe_tup (pa_cons (pe_tup (pa_cons pe_int (pa_cons pe_str pa_nil))) (pa_cons (pe_tup (pa_cons pe_str (pa_cons pe_int pa_nil))) (pa_cons (pe_tup (pa_cons pe_int (pa_cons pe_str pa_nil))) pa_nil))))))
    pss_nil)
  (pss_cons (ps_set (i := 8) sc_drawn.nd rfl (Or.inl rfl) (pe_cal c_one (hr.mono (by decide)) pass0 (pa_cons (pv 0) (pa_cons (pv 4) pa_nil))))
  (pss_cons (ps_asg (pe_cal c_walk (hr.mono (by decide)) pass0 (pa_cons (pv 0) (pa_cons (pe_ix ix_seq (pv 3) pe_int (fun _ _ => rfl)) (pa_cons (pe_ix ix_seq (pe_cal c_item (hr.mono (by decide)) pass0 (pa_cons (pv 3) (pa_cons (pv 8) pa_nil))) pe_int (fun _ _ => rfl)) (pa_cons (pe_cal c_take (hr.mono (by decide)) pass0 (pa_cons (pv 0) (pa_cons pe_int pa_nil))) pa_nil))))) (pg_tup rfl (pgs_cons (pg_name (i := 9) sc_drawn.nd rfl (Or.inl rfl)) (pgs_cons (pg_name (i := 10) sc_drawn.nd rfl (Or.inr rfl)) pgs_nil))))
  (pss_cons (ps_setLc (i := 11) (own := [("_law_one_here", 6)]) rfl sc_drawn.nd rfl rfl (sw_true rfl rfl rfl (by decide +kernel)) (u_iter (pv 4)) (blkOk_by (own := [("_law_one_here", 6)]) (N := N_drawn) (sc := defScope s_drawn) (by decide +kernel)) (fun _ _ _ _ _ => (pg_name (i := 6) sc_drawn.nd rfl (Or.inl rfl))) (fun _ _ _ _ _ => (pts_one (pt_cmpR (show OpR _ (compareOp .Eq) (rEqU K) from (u_eq hr.units)) (pe_ix (show IxR _ (rIx K) from ix_seq) (pe_cal c_item (hr.mono (by decide)) pass0 (pa_cons (pv 3) (pa_cons (pv 6) pa_nil))) pe_int (fun _ _ => rfl)) (pv 10) (nomark _)))) (fun _ _ _ _ _ => (pv 6)))
  (pss_cons (ps_set (i := 12) sc_drawn.nd rfl (Or.inl rfl) (pe_tup (pa_cons (pv 8) (pa_cons (pv 9) (pa_cons (pe_cal c_one (hr.mono (by decide)) pass0 (pa_cons (pv 0) (pa_cons (pe_ifExp (pt_cmpR (u_ne hr.units) (pv 11) (pe_lst pa_nil) (nomark _)) (pv 11) (pv 4)) pa_nil))) pa_nil)))))
  (pss_cons (ps_set (i := 13) sc_drawn.nd rfl (Or.inl rfl) (pe_cal c_pairs (hr.mono (by decide)) pass0 (pa_cons (pv 3) (pa_cons (pv 12) pa_nil))))
  (pss_cons (ps_if (pt_cmpR (u_eq hr.units) (pv 13) (pe_lst pa_nil) (nomark _))
    (pss_one (ps_ret (pe_tup (pa_cons (pe_tup (pa_cons pe_int (pa_cons pe_str pa_nil))) (pa_cons (pe_tup (pa_cons pe_str (pa_cons (pv 12) pa_nil))) (pa_cons (pe_tup (pa_cons pe_int (pa_cons pe_str pa_nil))) pa_nil))))))
    pss_nil)
  (pss_cons (ps_asg (pe_cal c_one (hr.mono (by decide)) pass0 (pa_cons (pv 0) (pa_cons (pv 13) pa_nil))) (pg_tup rfl (pgs_cons (pg_name (i := 6) sc_drawn.nd rfl (Or.inl rfl)) (pgs_cons (pg_name (i := 7) sc_drawn.nd rfl (Or.inl rfl)) pgs_nil))))
  (pss_one (ps_ret (pe_tup (pa_cons (pv 6) (pa_cons (pe_tup (pa_cons pe_str (pa_cons (pv 12) pa_nil))) (pa_cons (pv 7) pa_nil)))))))))))))))), ?_⟩
    walk_at "el"
    refine ⟨b, p, l, xs, D, rfl, hL, lT, lS, fun H1 e ws s1 he0 he hS hwl => ?_⟩
    have ne := hb.ne he0
    have hb1 := hb.same s1
    have L1 := hL.same s1
    have k1 : Kp b H H1 := same_kp s1
    have hp1 := L1.hp
    have hc1 := L1.hl .cla
    clear hL hb he0
    -- the end that leads along a clause
    walk_at "el"
    refine ⟨by decide, fun z0 hz0 => ?_⟩
    have e2 := nw_of hz0 (.lst [])
    obtain ⟨ds, dA, dC, dD, dl⟩ := list_dp (K := K) (cla_nice (L1.r.l.same e2) fun x hx => ⟨(ok.l x hx).2.1, (ok.l x hx).2.2.2⟩)
    refine n_neD (.lst (SqL.of (e2 _ _ hc1)) dA) (.lst (SqL.of upd_same) .nil) (shp_lst dC dD (by decide)) (shp_lst rfl (Nat.zero_le 1) (by decide)) ?_
    rw [eqv_nil]
    have hb2 := hb1.same e2
    have L2' := L1.same e2
    have he2 := e2 _ _ he
    have hS2 := hS.same e2
    have k2 : Kp b H (upd H1 z0 (.lst [])) := k1.trans (same_kp e2)
    generalize upd H1 z0 (.lst []) = H2 at hb2 L2' he2 hS2 k2 dA ⊢
    clear hb1 L1 k1 hp1 hc1 s1 he hS e2 hz0 dA
    have cl_len := L2'.r.l.len
    walk_at "el"
    refine (show ∀ R : Bool → Hp → Prop, (∀ bb H3, ((bb = true → 0 < D.L.length) ∧ Bag H3 b c ∧ Kp b H H3 ∧ LP H3 b p l xs D ∧ H3 e = some (.lst ws) ∧ SrcsAre H3 D ws) → R bb H3) → (if (!decide (ds = [])) = true then tOr _ _ _ H2 R else R false H2) from fun R hR => ?_) _ ?_
    · refine ite2 (fun g1 => ?_) (fun g1 => hR false H2 ⟨(fun h => nomatch h), hb2, k2, L2', he2, hS2⟩)
      have lpos : 0 < D.L.length := by
        have z : ds ≠ [] := by simpa using g1
        have : 0 < ds.length := List.length_pos_iff.mpr z
        omega
      walk_at "el"
      refine ⟨by decide, fun z1 hz1 => ?_⟩
      have e3 := nw_of hz1 (.lst [])
      obtain ⟨us, uA, uC, uD, ul⟩ := list_dp (K := K) (src_nice (hS2.same e3))
      refine n_eqD (.lst (SqL.of (e3 _ _ he2)) uA) (.lst (SqL.of upd_same) .nil) (shp_lst uC uD (by decide)) (shp_lst rfl (Nat.zero_le 1) (by decide)) ?_
      rw [eqv_nil]
      have hb3 := hb2.same e3
      have L3 := L2'.same e3
      have he3 := e3 _ _ he2
      have hS3 := hS2.same e3
      have k3 : Kp b H (upd H2 z1 (.lst [])) := k2.trans (same_kp e3)
      generalize upd H2 z1 (.lst []) = H3 at hb3 L3 he3 hS3 k3 uA ⊢
      walk_at "el"
      refine ite2 (fun g2 => hR true H3 ⟨fun _ => lpos, hb3, k3, L3, he3, hS3⟩) (fun g2 => ?_)
      walk_at "el"
      refine ⟨b, c, 3, rfl, hb3, by decide, by decide, fun r H4 _ _ hb4 k4 => ?_⟩
      walk_at "el"
      exact hR _ H4 ⟨fun _ => lpos, hb4, k3.trans k4, L3.kp hb3 k4, k4 _ _ ne he3, hS3.kp hb3 k4⟩
    clear hb2 L2' he2 hS2 k2 dC dD dl H2 cl_len
    rintro bb H2 ⟨hpos, hb2, k2, L2', he2, hS2⟩
    have tri : ∀ {H' : Hp} {y1 y2 y3 : Addr}, Bag H' b c → Kp b H H' → LitAt H' y1 → WhyAt b H' y2 → LitAt H' y3 → [V.ref y1, V.ref y2, V.ref y3].length ≤ sizeLine ∧ ∀ q, H' q = none → Q (.ref q) (upd H' q (.tup [.ref y1, .ref y2, .ref y3])) := fun {H' y1 y2 y3} hb' k' a1 a2 a3 => by
      refine ⟨by show 3 ≤ sizeLine; decide, fun q hq => ?_⟩
      have eq := nw_of hq (.tup [.ref y1, .ref y2, .ref y3])
      exact k q _ y1 y2 y3 (hb'.same eq) (k'.trans (same_kp eq)) upd_same (a1.same eq) (a2.kp hb' (same_kp eq)) (a3.same eq)
    refine ite2 (fun g1 => ?_) (fun g1 => ?_)
    · have lpos := hpos g1
      have hp2 := L2'.hp
      have hc2 := L2'.hl .cla
      have hcl := L2'.r.l.len
      walk_at "el"
      refine ⟨b, c, _, rfl, hb2, by omega, by omega, fun ix H3 i0 i1 hb3 k3 => ?_⟩
      have L3 := L2'.kp hb2 k3
      have hp3 := L3.hp
      have hc3 := L3.hl .cla
      obtain ⟨n, rfl⟩ : ∃ n : Nat, ix = n := ⟨ix.toNat, by omega⟩
      have hn : n < D.L.length := by omega
      obtain ⟨u, hu, hv⟩ := L3.r.l.get (List.getElem?_eq_getElem hn)
      have okl := ok.l _ (List.getElem_mem hn)
      walk_at "el"
      refine n_ixL (SqL.of hc3) (atI_nat hu) ?_
      walk_at "el"
      refine ⟨u, D.L[n], rfl, hv, fun H4 r s4 hr0 tr => ?_⟩
      have nr := hb3.ne hr0
      have hb4 := hb3.same s4
      obtain ⟨vs, hvs, tvs⟩ := tr.lstD
      have vl : vs.length = 2 := tk_len tvs
      have prs := pair_of tr hvs (by
        refine all_cons ⟨_, _, _, _, rfl, okl.1.1, by omega, okl.2.2.1.1, by omega, other_ok, okl.2.2.2⟩ (all_cons ⟨_, _, _, _, rfl, okl.2.2.1.1, by omega, okl.1.1, by omega, other_ok, okl.2.1⟩ all_nil))
      walk_at "el"
      refine ⟨b, c, r, vs, rfl, hb4, nr, .inl hvs, by omega, by omega, fun x H5 hx hb5 k5 => ?_⟩
      obtain ⟨q, y1, y3, rfl, hq, a1, a3⟩ := prs x hx
      have hq5 := k5 _ _ (hb4.neT hq) hq
      have A1 := a1.kp hb4 k5
      have A3 := a3.kp hb4 k5
      have kk : Kp b H H5 := k2.trans (k3.trans (Kp.into k5 s4))
      walk_at "el"
      refine a_gtup (SqT.of hq5) rfl ?_
      walk_at "el"
      refine ⟨by show 2 ≤ sizeLine; decide, fun y2 hy2 => ?_⟩
      have e6 := nw_of hy2 (.tup [.str "clause", .int n])
      walk_at "el"
      exact tri (hb5.same e6) (kk.trans (same_kp e6)) (A1.same e6) (.inl ⟨n, upd_same, by omega, by omega⟩) (A3.same e6)
    walk_at "el"
    refine ⟨by decide, fun z1 hz1 => ?_⟩
    have e3 := nw_of hz1 (.lst [])
    obtain ⟨us, uA, uC, uD, ul⟩ := list_dp (K := K) (src_nice (hS2.same e3))
    refine n_eqD (.lst (SqL.of (e3 _ _ he2)) uA) (.lst (SqL.of upd_same) .nil) (shp_lst uC uD (by decide)) (shp_lst rfl (Nat.zero_le 1) (by decide)) ?_
    rw [eqv_nil]
    have hb3 := hb2.same e3
    have L3 := L2'.same e3
    have he3 := e3 _ _ he2
    have hS3 := hS2.same e3
    have k3 : Kp b H (upd H2 z1 (.lst [])) := k2.trans (same_kp e3)
    generalize upd H2 z1 (.lst []) = H3 at hb3 L3 he3 hS3 k3 uA ⊢
    clear hb2 L2' he2 hS2 k2 e3 hz1 uA
    walk_at "el"
    refine ite2 (fun g2 => ?_) (fun g2 => ?_)
    · walk_at "el"
      refine ⟨by show 2 ≤ sizeLine; decide, fun y1 h1 => ?_⟩
      have f1 := nw_of h1 (.tup [.int 0, .str "early"])
      have g1 := upd_at h1 (.tup [.int 0, .str "early"])
      walk_at "el"
      refine ⟨by show 2 ≤ sizeLine; decide, fun y2 h2 => ?_⟩
      have f2 := nw_of h2 (.tup [.str "clause", .int 0])
      have g2' := upd_at h2 (.tup [.str "clause", .int 0])
      walk_at "el"
      refine ⟨by show 2 ≤ sizeLine; decide, fun y3 h3 => ?_⟩
      have f3 := nw_of h3 (.tup [.int 0, .str "late"])
      walk_at "el"
      have sF : Same H3 _ := fun a o h => f3 a o (f2 _ _ (f1 _ _ h))
      exact tri (hb3.same sF) (k3.trans (same_kp sF)) ⟨0, _, f3 _ _ (f2 _ _ g1), by decide, by decide, .inl rfl⟩ (.inl ⟨0, f3 _ _ g2', by decide, by decide⟩) ⟨0, _, upd_same, by decide, by decide, .inr rfl⟩
    have wpos : 0 < ws.length := by
      have z : us ≠ [] := by simpa using g2
      have : 0 < us.length := List.length_pos_iff.mpr z
      omega
    walk_at "el"
    refine ⟨b, c, e, ws, rfl, hb3, ne, .inl he3, wpos, by omega, fun x1 H4 hx1 hb4 k4 => ?_⟩
    have L4 := L3.kp hb3 k4
    have S4 := hS3.kp hb3 k4
    have he4 := k4 _ _ ne he3
    have kk4 := k3.trans k4
    have hp4 := L4.hp
    clear L3 hS3 he3 hb3 k3 k4
    obtain ⟨q1, w1, i1, r1, rfl, hq1, hs1⟩ := S4 x1 hx1
    walk_at "el"
    refine ⟨b, p, l, xs, D, .ref q1, .tuple [.str w1, .int i1], rfl, L4, .tup hq1 (.cons (.str _) (.cons (.int _) .nil)), fun hn => absurd (hs1.symm.trans hn) (fun h => nomatch h), fun r' hr' q' H5 s5 hq' => ?_⟩
    have hb5 := hb4.same s5
    walk_at "el"
    refine ⟨b, c, 4, rfl, hb5, by decide, by decide, fun many H6 m0 m1 hb6 k6 => ?_⟩
    have L6 := (L4.same s5).kp hb5 k6
    have S6 := (S4.same s5).kp hb5 k6
    have he6 := k6 _ _ ne (s5 _ _ he4)
    have gl2 : (xs .gap).length ≤ 1000 := by rw [L6.r.g.len]; exact lG
    walk_at "el"
    refine ⟨b, c, l .gap, xs .gap, D.G, r'.ev, many, rfl, hb6, L6.nl .gap, L6.hl .gap, L6.r.g.gaps (.inl (L6.hl .gap)), gl2, m0, by omega, fun H7 r7 tr is h hb7 k7 hr7 htr hw hil hiz => ?_⟩
    have L7 := L6.kp hb6 k7
    have S7 := S6.kp hb6 k7
    have he7 := k7 _ _ ne he6
    have kk7 : Kp b H H7 := kk4.trans ((Kp.into k6 s5).trans k7)
    have lG' := L7.r.g.len
    clear L4 S4 he4 hp4 L6 S6 he6 hq' hr' kk4 hb4 hb5 hb6 s5 k6 k7 hq1
    walk_at "el"
    refine a_gtup (SqT.of hr7) rfl ?_
    walk_at "el"
    refine a_iSeq (.inl ?_)
    walk_at "el"
    refine ⟨e, rfl, ⟨_, SqL.of he7⟩, fun D0 hD0 => ?_⟩
    have e8 := nw_of hD0 (.lst [])
    refine lc_of (walk_list (xs := ws)) (fun i H8 => Same H7 H8 ∧ ∃ us, H8 D0 = some (.lst us) ∧ us.length ≤ i ∧ ∀ v ∈ us, v ∈ ws) ⟨e8, [], upd_same, Nat.le_refl _, fun _ h => nomatch h⟩ (fun i H8 hi h => SqL.of (h.1 _ _ he7)) ?_ ?_
    · rintro i x H8 H9 hi ⟨s8, us, hD8, hul, hus⟩ ⟨rfl, hxi⟩
      have L8 := L7.same s8
      have hxw := List.mem_of_getElem? hxi
      obtain ⟨q5, w5, i5, r5, rfl, hq5, hs5⟩ := (S7.same s8) x hxw
      walk_at "el"
      refine ⟨rfl, ?_⟩
      walk_at "el"
      refine ⟨b, p, l, xs, D, .ref q5, .tuple [.str w5, .int i5], rfl, L8, .tup hq5 (.cons (.str _) (.cons (.int _) .nil)), fun hn => absurd (hs5.symm.trans hn) (fun h => nomatch h), fun r' hr' q' H9' s9 hq' => ?_⟩
      walk_at "el"
      have hD9 := s9 _ _ hD8
      refine ite2 (fun g1 => ?_) (fun g1 => ?_)
      · walk_at "el"
        refine ⟨_, hD9, Nat.lt_of_le_of_lt (Nat.le_trans hul (Nat.le_of_lt hi)) (Nat.lt_of_le_of_lt (m := 2000) (by omega) (by decide)), (s8.trans s9).mu hD0, us ++ [.ref q5], upd_same, by rw [List.length_append]; show us.length + 1 ≤ i + 1; omega, all_app hus (all_cons hxw all_nil)⟩
      · walk_at "el"
        exact ⟨s8.trans s9, us, hD9, by omega, hus⟩
    · rintro H8 ⟨s8, us, hD8, hul, hus⟩
      have hb8 := hb7.same s8
      have L8 := L7.same s8
      have S8 := S7.same s8
      have he8 := s8 _ _ he7
      have nD := hb7.ne hD0
      have htr8 := s8 _ _ htr
      have ntr := hb8.neT htr8
      have kk8 : Kp b H H8 := kk7.trans (same_kp s8)
      clear L7 S7 he7 htr hr7 hb7 hD0 e8 s8
      obtain ⟨q1', w1', i1', r1', eq1, hq1, hs1'⟩ := S8 (.ref q1) hx1
      cases eq1
      walk_at "el"
      refine ⟨by decide, fun z0 hz0 => ?_⟩
      have e9 := nw_of hz0 (.lst [])
      have Su : SrcsAre (upd H8 z0 (.lst [])) D us := fun v hv => (S8.same e9) v (hus v hv)
      obtain ⟨ts, tA, tC, tD, tl⟩ := list_dp (K := K) (src_nice Su)
      refine n_neD (.lst (SqL.of (e9 _ _ hD8)) tA) (.lst (SqL.of upd_same) .nil) (shp_lst tC tD (by decide)) (shp_lst rfl (Nat.zero_le 1) (by decide)) ?_
      rw [eqv_nil]
      have hb9 := hb8.same e9
      have L9 := L8.same e9
      have S9 := S8.same e9
      have he9 := e9 _ _ he8
      have hD9 := e9 _ _ hD8
      have htr9 := e9 _ _ htr8
      have hq9 := e9 _ _ hq1
      have kk9 : Kp b H (upd H8 z0 (.lst [])) := kk8.trans (same_kp e9)
      generalize upd H8 z0 (.lst []) = H9 at hb9 L9 S9 he9 hD9 htr9 hq9 kk9 tA ⊢
      clear hb8 L8 S8 he8 hD8 htr8 kk8 e9 hz0 tA Su
      -- the end chosen: the rest
      have rest : ∀ (x3 : V) (H' : Hp), x3 ∈ ws → Bag H' b c → Kp b H9 H' → ∃ q3 w3 i3 r3, x3 = .ref q3 ∧ H' q3 = some (.tup [.str w3, .int i3]) ∧ srcD D w3 i3 = some r3 ∧ LP H' b p l xs D ∧ H' tr = some (.tup (is.map V.int)) ∧ H' q1 = some (.tup [.str w1', .int i1']) ∧ Kp b H H' := fun x3 H' hx3 hb' k' => by
        obtain ⟨q3, w3, i3, r3, e3, h3, hs3⟩ := (S9.kp hb9 k') x3 hx3
        exact ⟨q3, w3, i3, r3, e3, h3, hs3, L9.kp hb9 k', k' _ _ ntr htr9, k' _ _ (hb9.neT hq9) hq9, kk9.trans k'⟩
      walk_at "el"
      refine (show ∀ R : V → Hp → Prop, (∀ x3 H', x3 ∈ ws → Bag H' b c → Kp b H9 H' → R x3 H') → (if (!decide (ts = [])) = true then tVar 11 _ H9 (fun x H1 => spOne K [.ref b, x] H1 R E0) else tVar 4 _ H9 (fun x H1 => spOne K [.ref b, x] H1 R E0)) from fun R hR => ?_) _ ?_
      · refine ite2 (fun g3 => ?_) (fun g3 => ?_)
        · have upos : 0 < us.length := by
            have z : ts ≠ [] := by simpa using g3
            have : 0 < ts.length := List.length_pos_iff.mpr z
            omega
          refine ⟨_, rfl, ?_⟩
          exact ⟨b, c, D0, us, rfl, hb9, nD, .inl hD9, upos, by omega, fun x H' hx hb' k' => hR x H' (hus x hx) hb' k'⟩
        · refine ⟨_, rfl, ?_⟩
          exact ⟨b, c, e, ws, rfl, hb9, ne, .inl he9, wpos, by omega, fun x H' hx hb' k' => hR x H' hx hb' k'⟩
      rintro x3 H10 hx3 hb10 k10
      obtain ⟨q3, w3, i3, r3, rfl, hq3, hs3, L10, htr10, hq10, kk10⟩ := rest x3 H10 hx3 hb10 k10
      clear rest S9 he9 hD9 htr9 hq9 kk9 L9 hb9 k10
      walk_at "el"
      refine ⟨by show 3 ≤ sizeLine; decide, fun t3 ht3 => ?_⟩
      have e11 := nw_of ht3 (.tup [.ref q1, .ref tr, .ref q3])
      have n1 := ni_src hq10 (hb10.neT hq10) hs1' lT lS
      have n3 := ni_src hq3 (hb10.neT hq3) hs3 lT lS
      have nt : NiS 20 1 b H10 (.ref tr) := by
        refine (ni_tup htr10 ntr (n := 0) (k := 0) fun v hv => ?_).le (Nat.le_trans (Nat.mul_le_mul_right _ (m := 20) (by rw [List.length_map]; omega)) (by decide)) (by decide)
        obtain ⟨z, hz, rfl⟩ := List.mem_map.mp hv
        have := hiz z hz
        exact ni_int (Nat.lt_of_lt_of_le (m := 1001) (by omega) (by decide))
      have wy : ∀ {H' : Hp} {y2 : Addr}, Same (upd H10 t3 (.tup [.ref q1, .ref tr, .ref q3])) H' → H' y2 = some (.tup [.str "link", .ref t3]) → WhyAt b H' y2 := fun {H' y2} sH hy =>
        .inr ⟨t3, q1, tr, q3, hy, sH _ _ upd_same, ((n1.same e11).same sH).le (by decide) (by decide), (nt.same e11).same sH, ((n3.same e11).same sH).le (by decide) (by decide)⟩
      have hb11 := hb10.same e11
      have kk11 := kk10.trans (same_kp e11 (b := b))
      walk_at "el"
      refine ⟨b, p, l, xs, D, t3, q1, q3, .ref tr, w1', w3, i1', i3, r1', r3, rfl, L10.same e11, upd_same, e11 _ _ hq10, hs1', e11 _ _ hq3, hs3, fun H12 r s12 hr0 tk => ?_⟩
      have hb12 := hb11.same s12
      have nr := hb11.ne hr0
      have kk12 := kk11.trans (same_kp s12 (b := b))
      walk_at "el"
      refine ⟨by decide, fun z2 hz2 => ?_⟩
      have e13 := nw_of hz2 (.lst [])
      refine n_eqD (tk_dp _ _ (tk.same e13) nod_W) (.lst (SqL.of upd_same) .nil) shp_W (shp_lst rfl (Nat.zero_le 1) (by decide)) ?_
      rw [eqv_nil]
      have hb13 := hb12.same e13
      have kk13 := kk12.trans (same_kp e13 (b := b))
      have tk13 := tk.same e13
      have s13 : Same (upd H10 t3 (.tup [.ref q1, .ref tr, .ref q3])) (upd H12 z2 (.lst [])) := fun a o h => e13 a o (s12 a o h)
      generalize upd H12 z2 (.lst []) = H13 at hb13 kk13 tk13 s13 ⊢
      walk_at "el"
      refine ite2 (fun g4 => ?_) (fun g4 => ?_)
      · walk_at "el"
        refine ⟨by show 2 ≤ sizeLine; decide, fun y1 h1 => ?_⟩
        have f1 := nw_of h1 (.tup [.int 0, .str "late"])
        have g1 := upd_at h1 (.tup [.int 0, .str "late"])
        walk_at "el"
        refine ⟨by show 2 ≤ sizeLine; decide, fun y2 h2 => ?_⟩
        have f2 := nw_of h2 (.tup [.str "link", .ref t3])
        have g2' := upd_at h2 (.tup [.str "link", .ref t3])
        walk_at "el"
        refine ⟨by show 2 ≤ sizeLine; decide, fun y3 h3 => ?_⟩
        have f3 := nw_of h3 (.tup [.int 0, .str "early"])
        walk_at "el"
        have sF : Same H13 _ := fun a o h => f3 a o (f2 _ _ (f1 _ _ h))
        exact tri (hb13.same sF) (kk13.trans (same_kp sF)) ⟨0, _, f3 _ _ (f2 _ _ g1), by decide, by decide, .inr rfl⟩ (wy (fun a o h => sF a o (s13 a o h)) (f3 _ _ g2')) ⟨0, _, upd_same, by decide, by decide, .inl rfl⟩
      · obtain ⟨vs, hvs, tvs⟩ := tk13.lstD
        have vl := tk_len tvs
        have pne : pairsW r1'.wit r3.wit ≠ [] := by simpa using g4
        have ppos : 0 < (pairsW r1'.wit r3.wit).length := List.length_pos_iff.mpr pne
        have ple : (pairsW r1'.wit r3.wit).length ≤ 2 := by cases r1'.wit <;> cases r3.wit <;> simp [pairsW]
        have wb : ∀ {wd : Str} {i : Int} {r : Src} {u : Int}, srcD D wd i = some r → r.wit = some u → 0 ≤ u ∧ u ≤ 1000 := fun {wd i r u} hs hw => by
          rcases src_cases hs with ⟨_, n, x, _, hx, rfl⟩ | ⟨_, n, x, _, hx, rfl⟩
          · cases hw
            have := (ok.t _ (List.mem_of_getElem? hx)).1
            omega
          · cases hw
        have prs := pair_of tk13 hvs (by
          intro d hd
          cases h1 : r1'.wit with
          | none =>
            cases h3 : r3.wit with
            | none => rw [h1, h3] at hd; cases hd
            | some u3 =>
              rw [h1, h3] at hd
              have b3 := wb hs3 h3
              cases List.mem_singleton.mp hd
              exact ⟨_, _, _, _, rfl, b3.1, b3.2, b3.1, b3.2, .inr rfl, .inl rfl⟩
          | some u1 =>
            have b1 := wb hs1' h1
            cases h3 : r3.wit with
            | none =>
              rw [h1, h3] at hd
              cases List.mem_singleton.mp hd
              exact ⟨_, _, _, _, rfl, b1.1, b1.2, b1.1, b1.2, .inl rfl, .inr rfl⟩
            | some u3 =>
              have b3 := wb hs3 h3
              rw [h1, h3] at hd
              rcases List.mem_cons.mp hd with rfl | hd
              · exact ⟨_, _, _, _, rfl, b1.1, b1.2, b3.1, b3.2, .inl rfl, .inl rfl⟩
              · cases List.mem_singleton.mp hd
                exact ⟨_, _, _, _, rfl, b3.1, b3.2, b1.1, b1.2, .inr rfl, .inr rfl⟩)
        walk_at "el"
        refine ⟨b, c, r, vs, rfl, hb13, nr, .inl hvs, by omega, by omega, fun x H14 hx hb14 k14 => ?_⟩
        obtain ⟨q, y1, y3, rfl, hq, a1, a3⟩ := prs x hx
        have hq14 := k14 _ _ (hb13.neT hq) hq
        have A1 := a1.kp hb13 k14
        have A3 := a3.kp hb13 k14
        walk_at "el"
        refine a_gtup (SqT.of hq14) rfl ?_
        walk_at "el"
        refine ⟨by show 2 ≤ sizeLine; decide, fun y2 hy2 => ?_⟩
        have e15 := nw_of hy2 (.tup [.str "link", .ref t3])
        walk_at "el"
        have w13 : ∀ {H' : Hp} {y2 : Addr}, Kp b H13 H' → H' y2 = some (.tup [.str "link", .ref t3]) → WhyAt b H' y2 := fun {H' y2} kH hy =>
          .inr ⟨t3, q1, tr, q3, hy, kH _ _ (hb11.neT upd_same) (s13 _ _ upd_same), ((((n1.same e11).same s13).kp kH)).le (by decide) (by decide), ((nt.same e11).same s13).kp kH, (((n3.same e11).same s13).kp kH).le (by decide) (by decide)⟩
        exact tri (hb14.same e15) (kk13.trans (k14.trans (same_kp e15))) (A1.same e15) (w13 (k14.trans (same_kp e15)) upd_same) (A3.same e15)
end
end EL

/- part K25B -/
set_option maxHeartbeats 8000000
namespace EL
open PySem PySem.Spec PyProof.Rows L2
open PySem.W (Frag)
abbrev s_bent : Stmt := top 66
abbrev N_bent : List Str := ["_law_bag_here", "_law_thing", "_law_witnesses", "_law_mode", "_law_one_here", "_law_why", "_law_other", "_law_odd", "_law_drawn_here"]
theorem sc_bent : FnScope N_bent ["_law_bag_here", "_law_thing", "_law_witnesses"] (defScope s_bent) := ⟨rfl, rfl, rfl, by decide +kernel, rfl, by decide +kernel, by decide +kernel⟩
local macro_rules | `(tactic| walk_at "el1") => `(tactic| with_reducible first
  | refine a_sasg ?_ | refine a_sdrop ?_ | refine a_saugS ?_ | refine a_spar ?_ | refine a_seq ?_ | refine a_asg ?_ | refine a_drop ?_ | refine a_ret ?_ | refine a_if ?_ | refine a_next ?_
  | refine a_op ?_ | refine a_cons ?_ | refine a_nil ?_ | refine a_cb ?_ | refine a_call ?_ | refine a_c ?_ | refine a_gn ?_ | refine a_nx ?_ | refine a_rt ?_ | refine a_un ?_
  | refine a_test ?_ | refine a_B ?_ | refine a_bl ?_ | refine a_and ?_ | refine a_or ?_ | refine a_not ?_ | refine a_andV ?_ | refine a_orV ?_ | refine a_notV ?_ | refine a_ifx ?_ | refine a_chain ?_
  | refine a_nT ?_ | refine a_nF ?_ | refine a_fld ?_ | refine a_getF ?_ | refine a_T ?_ | refine a_F ?_ | refine a_tup ?_ | refine a_lst ?_ | refine a_sub ?_ | refine a_augS ?_ | refine a_two ?_ | refine a_I0 ?_ | refine a_U ?_ | refine n_add ?_ | refine n_int ?_ | refine n_ib ?_ | refine a_ip ?_ | refine a_rng1 ?_ | refine a_rng2 ?_ | refine a_bm ?_ | refine a_abs ?_ | refine a_pairs ?_ | refine a_pairs0 ?_ | refine a_bk ?_ | refine a_prp ?_ | refine a_lc ?_ | refine a_yes ?_ | refine a_sl ?_ | refine a_nop ?_ | refine a_prt ?_ | refine a_ex1 ?_ | refine a_for ?_ | refine a_sfor ?_ | refine a_iE1 ?_ | refine a_iEs ?_ | refine a_iEz ?_ | refine a_iEnum ?_ | refine a_iTup ?_ | refine a_iList ?_ | refine a_gcons ?_ | refine a_gnil ?_ | refine a_revT ?_ | refine a_spar3 ?_ | refine a_par3 ?_ | refine a_three ?_)
local macro_rules | `(tactic| walk_at "el2") => `(tactic| first
  | (refine a_var (by rfl) ?_)
  | (refine n_ixL (SqL.of (by assumption)) (by rfl) ?_) | (refine n_ixT (SqT.of (by assumption)) (by rfl) ?_) | (refine n_eq (by rfl) ?_) | (refine n_ne (by rfl) ?_)
  | (refine n_isN ?_) | (refine n_notN ?_) | (refine n_isB ?_) | (refine n_notB ?_) | (refine n_isBI ?_) | (refine n_notBI ?_) | (refine n_len (.inl (SqL.of (by assumption))) ?_) | (refine n_len (.inr (SqT.of (by assumption))) ?_)
  | (refine a_getL (SqL.of (by assumption)) (by rfl) ?_)
  | (refine n_isInt (by assumption) ?_) | (refine n_isBool (by assumption) ?_) | (refine n_isStr (by assumption) ?_) | (refine n_isTup (by assumption) ?_) | (refine n_isLst (by assumption) ?_))
local macro_rules | `(tactic| walk_at "el") => `(tactic| repeat (first | walk_at "el1" | walk_at "el2"))

theorem lit_ni {H : Hp} {b c y : Addr} (h : LitAt H y) (hb : Bag H b c) : NiS 12 1 b H (.ref y) := by
  obtain ⟨w, k, hy, w0, w1, hk⟩ := h
  have z : NiS 5 0 b H (.str k) := by rcases hk with rfl | rfl <;> exact NiS.le ni_str (by decide +kernel) (by decide)
  exact (ni_tup hy (hb.neT hy) (all_cons ((ni_int (Nat.lt_of_lt_of_le (m := 1001) (by omega) (by decide))).le (by decide) (by decide)) (all_cons z all_nil))).le (by show 2 * (5 + 1) ≤ 12; decide) (by decide)
theorem why_open {H : Hp} {b c y : Addr} (h : WhyAt b H y) (hb : Bag H b c) : ∃ hd z, H y = some (.tup [.str hd, z]) ∧ NiS 10 0 b H (.str hd) ∧ NiS 70 2 b H z ∧
    (hd = "link" → ∃ t a1 tr a3, z = .ref t ∧ H t = some (.tup [.ref a1, .ref tr, .ref a3]) ∧ NiS 20 1 b H (.ref a1) ∧ NiS 20 1 b H (.ref tr) ∧ NiS 20 1 b H (.ref a3)) := by
  rcases h with ⟨n, hy, n0, n1⟩ | ⟨t, a1, tr, a3, hy, ht, q1, q2, q3⟩
  · exact ⟨_, _, hy, NiS.le ni_str (by decide +kernel) (by decide), (ni_int (Nat.lt_of_lt_of_le (m := 1001) (by omega) (by decide))).le (by decide) (by decide), fun e => absurd e (by decide)⟩
  · exact ⟨_, _, hy, NiS.le ni_str (by decide +kernel) (by decide), (ni_tup ht (hb.neT ht) (all_cons q1 (all_cons q2 (all_cons q3 all_nil)))).le (by show 3 * (20 + 1) ≤ 70; decide) (by decide), fun _ => ⟨t, a1, tr, a3, rfl, ht, q1, q2, q3⟩⟩
def spBent5 (K : Frag) : Sp := fun vs H Q _ => ∃ (b c q y1 y2 y3 : Addr) (wi : Int), vs = [.ref b, .ref q, .int wi] ∧ Bag H b c ∧ 0 < wi ∧ wi ≤ 1000 ∧ H q = some (.tup [.ref y1, .ref y2, .ref y3]) ∧ LitAt H y1 ∧ WhyAt b H y2 ∧ LitAt H y3 ∧ ∀ x H', Nice b H' x → Bag H' b c → Kp b H H' → Q x H'
section
variable {P : Program} {w : World} {K : Frag} {mg : Str → Option Value} {base : Heap} {f : Addr} {fd : FuncData} {C : Addr}
theorem ok_bent (F : Fun K "_law_bent" "_law_bent" s_bent f fd) (T : Tb mg) (c_take : Cal P w K mg base CX0 1 "_law_take" ["_law_bag_here", "_law_many"] spTake) (c_one : Cal P w K mg base CX0 2 "_law_one" ["_law_bag_here", "_law_menu"] (spOne K)) (c_kind : Cal P w K mg base CX0 2 "_law_kind" ["_law_bag_here"] spKnd)
    (c_l_contrary : Cal P w K mg base CX0 1 "_law_contrary" ["_law_literal"] spTl) : FnOk P w K mg base CX0 3 f fd ["_law_bag_here", "_law_thing", "_law_witnesses"] (spBent5 K) := by
  refine F.ok sc_bent (fun vs H Q E h => ?_) (fun cdv A outer s H vs Q E hr h => ?_)
  · obtain ⟨_, _, _, _, _, _, _, rfl, _⟩ := h
    rfl
  · obtain ⟨b, c, q, y1, y2, y3, wi, rfl, hb, wi0, wi1, hq, l1, w2, l3, k⟩ := h
    refine ⟨_, (pss_cons (ps_asg (pe_tup (pa_cons (pe_cal c_take (hr.mono (by decide)) pass0 (pa_cons (pv 0) (pa_cons pe_int pa_nil))) (pa_cons (pe_ix ix_seq (pv 1) pe_int (fun _ _ => rfl)) (pa_cons (pe_ix ix_seq (pv 1) pe_int (fun _ _ => rfl)) (pa_cons (pe_ix ix_seq (pv 1) pe_int (fun _ _ => rfl)) pa_nil))))) (pg_tup rfl (pgs_cons (pg_name (i := 3) sc_bent.nd rfl (Or.inl rfl)) (pgs_cons (pg_name (i := 4) sc_bent.nd rfl (Or.inl rfl)) (pgs_cons (pg_name (i := 5) sc_bent.nd rfl (Or.inl rfl)) (pgs_cons (pg_name (i := 6) sc_bent.nd rfl (Or.inl rfl)) pgs_nil))))))
  (pss_cons (ps_if (pt_cmpR (u_eq hr.units) (pv 3) pe_int (nomark _))
    (pss_one (ps_ret (pe_cal c_one (hr.mono (by decide)) pass0 (pa_cons (pv 0) (pa_cons (pe_lst (pa_cons (pe_callTy u_list rfl T.b.list_ (by decide +kernel) (pa_cons (pv 1) pa_nil)) (pa_cons (pe_slice u_slice (pv 1) po_none (po_some pe_int)) (pa_cons (pe_op u_add (pv 1) (pe_tup (pa_cons (pv 4) pa_nil))) (pa_cons pe_non (pa_cons pe_int (pa_cons pe_str (pa_cons pe_dnewK (pa_cons (pe_tup pa_nil) pa_nil))))))))) pa_nil)))))
    pss_nil)
  (pss_cons (ps_if (pt_cmpR (u_eq hr.units) (pv 3) pe_int (nomark _))
    (pss_one (ps_ret (pe_tup (pa_cons (pv 6) (pa_cons (pv 5) (pa_cons (pv 4) pa_nil))))))
    pss_nil)
  (pss_cons (ps_if (pt_cmpR (u_eq hr.units) (pv 3) pe_int (nomark _))
    (pss_one (ps_ret (pe_tup (pa_cons (pe_cal c_l_contrary (hr.mono (by decide)) pass0 (pa_cons (pv 6) pa_nil)) (pa_cons (pv 5) (pa_cons (pe_cal c_l_contrary (hr.mono (by decide)) pass0 (pa_cons (pv 4) pa_nil)) pa_nil))))))
    pss_nil)
  (pss_cons (ps_if (pt_cmpR op_lt (pv 3) pe_int (nomark _))
    (pss_cons (ps_set (i := 7) sc_bent.nd rfl (Or.inl rfl) (pe_lst (pa_cons (pe_tup (pa_cons (pv 2) (pa_cons pe_str pa_nil))) (pa_cons (pe_tup (pa_cons (pe_un un_neg pe_int) (pa_cons pe_str pa_nil))) (pa_cons (pe_tup (pa_cons pe_bl (pa_cons pe_str pa_nil))) (pa_cons (pe_tup (pa_cons pe_int (pa_cons pe_str pa_nil))) (pa_cons (pe_lst (pa_cons pe_int (pa_cons pe_str pa_nil))) (pa_cons pe_str (pa_cons (pe_tup (pa_cons pe_int pa_nil)) pa_nil)))))))))
  (pss_cons (ps_set (i := 7) sc_bent.nd rfl (Or.inl rfl) (pe_op u_add (pv 7) (pe_lst (pa_cons (pe_tup (pa_cons pe_non (pa_cons pe_str pa_nil))) (pa_cons (pe_tup (pa_cons pe_str (pa_cons pe_str pa_nil))) (pa_cons (pe_tup (pa_cons (pe_tup (pa_cons pe_int pa_nil)) (pa_cons pe_str pa_nil))) (pa_cons (pe_tup (pa_cons pe_int (pa_cons pe_non pa_nil))) (pa_cons (pe_tup (pa_cons pe_int (pa_cons (pe_lst (pa_cons pe_str pa_nil)) pa_nil))) (pa_cons (pe_tup (pa_cons (pe_lst pa_nil) (pa_cons pe_str pa_nil))) pa_nil)))))))))
  (pss_cons (ps_set (i := 7) sc_bent.nd rfl (Or.inl rfl) (pe_cal c_one (hr.mono (by decide)) pass0 (pa_cons (pv 0) (pa_cons (pv 7) pa_nil))))
  (pss_one (ps_ret (pe_ifExp (pt_cmpR (u_eq hr.units) (pv 3) pe_int (nomark _)) (pe_tup (pa_cons (pv 7) (pa_cons (pv 5) (pa_cons (pv 6) pa_nil)))) (pe_tup (pa_cons (pv 4) (pa_cons (pv 5) (pa_cons (pv 7) pa_nil))))))))))
    pss_nil)
  (pss_cons (ps_if (pt_cmpR op_lt (pv 3) pe_int (nomark _))
    (pss_cons (ps_set (i := 8) sc_bent.nd rfl (Or.inl rfl) (pe_tup (pa_cons (pe_cal c_take (hr.mono (by decide)) pass0 (pa_cons (pv 0) (pa_cons (pv 2) pa_nil))) (pa_cons (pe_cal c_kind (hr.mono (by decide)) pass0 (pa_cons (pv 0) pa_nil)) pa_nil))))
  (pss_one (ps_ret (pe_ifExp (pt_cmpR (u_eq hr.units) (pv 3) pe_int (nomark _)) (pe_tup (pa_cons (pv 8) (pa_cons (pv 5) (pa_cons (pv 6) pa_nil)))) (pe_tup (pa_cons (pv 4) (pa_cons (pv 5) (pa_cons (pv 8) pa_nil))))))))
    pss_nil)
  (pss_cons (ps_if (pt_cmpR (u_eq hr.units) (pv 3) pe_int (nomark _))
    (pss_cons (ps_set (i := 7) sc_bent.nd rfl (Or.inl rfl) (pe_lst (pa_cons (pe_tup (pa_cons pe_str (pa_cons pe_int pa_nil))) (pa_cons (pe_tup (pa_cons pe_str (pa_cons (pe_un un_neg pe_int) pa_nil))) (pa_cons (pe_tup (pa_cons pe_str (pa_cons pe_bl pa_nil))) (pa_cons (pe_tup (pa_cons pe_str (pa_cons (pe_tup pa_nil) pa_nil))) (pa_cons (pe_tup (pa_cons pe_str (pa_cons (pe_ix ix_seq (pv 5) pe_int (fun _ _ => rfl)) pa_nil))) pa_nil)))))))
  (pss_cons (ps_set (i := 7) sc_bent.nd rfl (Or.inl rfl) (pe_op u_add (pv 7) (pe_lst (pa_cons (pe_callTy u_list rfl T.b.list_ (by decide +kernel) (pa_cons (pv 5) pa_nil)) (pa_cons (pe_tup (pa_cons pe_str pa_nil)) (pa_cons pe_non (pa_cons (pe_tup (pa_cons pe_str (pa_cons pe_non pa_nil))) (pa_cons (pe_tup (pa_cons pe_str (pa_cons pe_str pa_nil))) (pa_cons (pe_tup (pa_cons pe_str (pa_cons (pe_tup (pa_cons pe_int pa_nil)) pa_nil))) pa_nil)))))))))
  (pss_cons (ps_set (i := 7) sc_bent.nd rfl (Or.inl rfl) (pe_op u_add (pv 7) (pe_lst (pa_cons (pe_tup (pa_cons (pe_lst pa_nil) (pa_cons pe_int pa_nil))) (pa_cons (pe_tup (pa_cons pe_str (pa_cons pe_non pa_nil))) (pa_cons (pe_tup (pa_cons pe_str (pa_cons (pe_lst pa_nil) pa_nil))) pa_nil))))))
  (pss_one (ps_ret (pe_tup (pa_cons (pv 4) (pa_cons (pe_cal c_one (hr.mono (by decide)) pass0 (pa_cons (pv 0) (pa_cons (pv 7) pa_nil))) (pa_cons (pv 6) pa_nil)))))))))
    pss_nil)
  (pss_cons (ps_if (PW.pt (pw_and (pt_cmpR (u_eq hr.units) (pv 3) pe_int (nomark _)) (pw_and1 (pt_cmpR (u_eq hr.units) (pe_ix ix_seq (pv 5) pe_int (fun _ _ => rfl)) pe_str (nomark _)))))
    (pss_one (ps_ret (pe_tup (pa_cons (pv 4) (pa_cons (pe_tup (pa_cons pe_str (pa_cons (pe_tup (pa_cons (pe_ix ix_seq (pe_ix ix_seq (pv 5) pe_int (fun _ _ => rfl)) pe_int (fun _ _ => rfl)) (pa_cons (pe_ix ix_seq (pe_ix ix_seq (pv 5) pe_int (fun _ _ => rfl)) pe_int (fun _ _ => rfl)) (pa_cons (pe_ix ix_seq (pe_ix ix_seq (pv 5) pe_int (fun _ _ => rfl)) pe_int (fun _ _ => rfl)) pa_nil)))) pa_nil))) (pa_cons (pv 6) pa_nil))))))
    pss_nil)
  (pss_one (ps_ret (pv 1))))))))))), ?_⟩
    have nq := hb.neT hq
    walk_at "el"
    refine ⟨b, c, 12, rfl, hb, by decide, by decide, fun m H1 m0 m1 hb1 k1 => ?_⟩
    have hq1 := k1 _ _ nq hq
    walk_at "el"
    refine ⟨by show 4 ≤ sizeLine; decide, fun p0 hp0 => ?_⟩
    have e0 := nw_of hp0 (.tup [.int m, .ref y1, .ref y2, .ref y3])
    refine a_gtup (SqT.of upd_same) rfl ?_
    have hq2 := e0 _ _ hq1
    have hb2 := hb1.same e0
    have k2 : Kp b H (upd H1 p0 (.tup [.int m, .ref y1, .ref y2, .ref y3])) := k1.trans (same_kp e0)
    have L1 := (l1.kp hb k1).same e0
    have L3 := (l3.kp hb k1).same e0
    have W2 := w2.kp hb k2
    have M1 := lit_ni L1 hb2
    have M3 := lit_ni L3 hb2
    obtain ⟨hd, z, hy2', hdni2, zni2', hlink⟩ := why_open W2 hb2
    have My : NiS 200 3 b _ (.ref y2) := (ni_tup hy2' (hb2.neT hy2') (all_cons (hdni2.le (n' := 70) (k' := 2) (by decide) (by decide)) (all_cons zni2' all_nil))).le (by show 2 * (70 + 1) ≤ 200; decide) (by decide)
    have zni2 : NiS 200 3 b _ z := zni2'.le (by decide) (by decide)
    have N1 : NiS 5000 6 b H (.ref y1) := (lit_ni l1 hb).le (by decide) (by decide)
    have N3 : NiS 5000 6 b H (.ref y3) := (lit_ni l3 hb).le (by decide) (by decide)
    have Ny : NiS 5000 6 b H (.ref y2) := by
      obtain ⟨hd, z, hy, h1, h2, _⟩ := why_open w2 hb
      exact (ni_tup hy (hb.neT hy) (all_cons (h1.le (n' := 70) (k' := 2) (by decide) (by decide)) (all_cons h2 all_nil))).le (by show 2 * (70 + 1) ≤ 5000; decide) (by decide)
    have Nq : NiS 20000 7 b H (.ref q) := (ni_tup hq nq (all_cons N1 (all_cons Ny (all_cons N3 all_nil)))).le (by show 3 * (5000 + 1) ≤ 20000; decide) (by decide)
    -- a tuple of three
    have fin : ∀ {H' : Hp} {y1 y2 y3 : V}, Kp b H H' → Bag H' b c → NiS 5000 6 b H' y1 → NiS 5000 6 b H' y2 → NiS 5000 6 b H' y3 → [y1, y2, y3].length ≤ sizeLine ∧ ∀ r, H' r = none → Q (.ref r) (upd H' r (.tup [y1, y2, y3])) := fun {H' y1 y2 y3} kk hb' a1 a2 a3 => by
      refine ⟨by show 3 ≤ sizeLine; decide, fun r hr => ?_⟩
      have e := nw_of hr (.tup [y1, y2, y3])
      have z := ni_tup (b := b) (upd_same (H := H') (a := r) (o := .tup [y1, y2, y3])) (hb'.ne hr) (all_cons (a1.same e) (all_cons (a2.same e) (all_cons (a3.same e) all_nil)))
      exact k _ _ (z.nice (by show 3 * (5000 + 1) ≤ 300000; decide) (by decide)) (hb'.same e) (kk.trans (same_kp e))
    have sI : ∀ {i : Int} {H : Hp}, i.natAbs < 5000 → NiS 10 0 b H (.int i) := fun {i H} h => (ni_int (Nat.lt_of_lt_of_le h (by decide))).le (by decide) (by decide)
    have sS : ∀ {s : Str} {H : Hp}, gd (.str s) = true → s.cps.size ≤ 10 → NiS 10 0 b H (.str s) := fun {s H} h h2 => (ni_str h).le h2 (by decide)
    have sB : ∀ {x : Bool} {H : Hp}, NiS 10 0 b H (.bl x) := fun {x H} => ni_bl.le (by decide) (by decide)
    have sN : ∀ {H : Hp}, NiS 10 0 b H .non := fun {H} => ni_non.le (by decide) (by decide)
    have early : ∀ {H : Hp}, NiS 10 0 b H (.str "early") := sS (by decide +kernel) (by decide +kernel)
    have late : ∀ {H : Hp}, NiS 10 0 b H (.str "late") := sS (by decide +kernel) (by decide +kernel)
    have clau : ∀ {H : Hp}, NiS 10 0 b H (.str "clause") := sS (by decide +kernel) (by decide +kernel)
    have lnk : ∀ {H : Hp}, NiS 10 0 b H (.str "link") := sS (by decide +kernel) (by decide +kernel)
    have tp : ∀ {H : Hp} {r : Addr} {xs : List V}, H r = some (.tup xs) → r ≠ b → (∀ v ∈ xs, NiS 10 0 b H v) → xs.length ≤ 3 → NiS 3000 5 b H (.ref r) := fun {H r xs} h n a l => (ni_tup h n a).le (Nat.le_trans (Nat.mul_le_mul_right _ l) (by decide)) (by decide)
    have tl : ∀ {H : Hp} {r : Addr} {xs : List V}, H r = some (.lst xs) → r ≠ b → (∀ v ∈ xs, NiS 10 0 b H v) → xs.length ≤ 3 → NiS 3000 5 b H (.ref r) := fun {H r xs} h n a l => (ni_lst h n a).le (Nat.le_trans (Nat.mul_le_mul_right _ l) (by decide)) (by decide)
    have tq : ∀ {H : Hp} {r : Addr} {xs : List V}, H r = some (.tup xs) → r ≠ b → (∀ v ∈ xs, NiS 200 3 b H v) → xs.length ≤ 3 → NiS 3000 5 b H (.ref r) := fun {H r xs} h n a l => (ni_tup h n a).le (Nat.le_trans (Nat.mul_le_mul_right _ l) (by decide)) (by decide)
    have tlq : ∀ {H : Hp} {r : Addr} {xs : List V}, H r = some (.lst xs) → r ≠ b → (∀ v ∈ xs, NiS 200 3 b H v) → xs.length ≤ 3 → NiS 3000 5 b H (.ref r) := fun {H r xs} h n a l => (ni_lst h n a).le (Nat.le_trans (Nat.mul_le_mul_right _ l) (by decide)) (by decide)
    have hdni : ∀ {H' : Hp}, NiS 10 0 b H' (.str hd) := fun {H'} => by
      obtain ⟨d, t, s⟩ := hdni2
      cases t
      exact ⟨_, .str hd, s⟩
    generalize upd H1 p0 (.tup [.int m, .ref y1, .ref y2, .ref y3]) = H2 at hq2 hb2 k2 L1 L3 W2 M1 M3 hy2' zni2 My hlink ⊢
    have hA0 : ∀ v ∈ ([] : List V), NiS 3000 5 b H2 v := all_nil
    clear hb1 k1 hq1 e0 hp0 hdni2 zni2' H1 hb l1 w2 l3 hq
    have A1 := N1.kp k2
    have A3 := N3.kp k2
    have Ay := Ny.kp k2
    walk_at "el"
    refine ite2 (fun h0 => ?_) (fun h0 => ?_)
    · walk_at "el"
      refine ⟨q, _, rfl, .inr (SqT.of hq2), fun l0 hl0 => ?_⟩
      have f0 := nw_of hl0 (.lst [.ref y1, .ref y2, .ref y3])
      have hqA := f0 _ _ hq2
      walk_at "el"
      refine n_slT hqA fun p1 H3 s3 h3 => ?_
      have hqB := s3 _ _ hqA
      walk_at "el"
      refine ⟨by show 1 ≤ sizeLine; decide, fun z1 hz1 => ?_⟩
      have f1 := nw_of hz1 (.tup [.ref y1])
      have hqC := f1 _ _ hqB
      refine n_catT hqC upd_same (by show 3 + 1 ≤ sizeLine; decide) fun p2 H4 s4 h4 => ?_
      walk_at "el"
      intro d0 hd0
      have f2 := nw_of hd0 (.dK [])
      walk_at "el"
      refine ⟨by decide, fun z2 hz2 => ?_⟩
      have f3 := nw_of hz2 (.tup [])
      walk_at "el"
      refine ⟨by show 8 ≤ sizeLine; decide, fun mn hmn => ?_⟩
      have f4 := nw_of hmn (.lst [.ref l0, .ref p1, .ref p2, .non, .int 3, .str "abc", .ref d0, .ref z2])
      walk_at "el"
      have g5 := f4 _ _ (upd_same (a := z2) (o := .tup []))
      have g4 := f4 _ _ (f3 _ _ (upd_same (a := d0) (o := .dK [])))
      have s4F : Same H4 _ := fun a o h => f4 a o (f3 _ _ (f2 _ _ h))
      have g3 := s4F _ _ h4
      have s3F : Same H3 _ := fun a o h => s4F a o (s4 _ _ (f1 _ _ h))
      have g2 := s3F _ _ h3
      have g0 := s3F _ _ (s3 _ _ (upd_same (H := H2) (a := l0) (o := .lst [.ref y1, .ref y2, .ref y3])))
      have s2F : Same H2 _ := fun a o h => s3F a o (s3 _ _ (f0 _ _ h))
      have hbF := hb2.same s2F
      have kF := k2.trans (same_kp s2F)
      have nl0 := hb2.ne hl0
      have nd0 : d0 ≠ b := fun z => by
        obtain ⟨_, _, _, _, w, _⟩ := hbF
        subst z
        rw [w] at g4
        cases g4
      have nmn : mn ≠ b := fun z => by subst z; exact hbF.neL upd_same (by intro z; cases z)
      have A : ∀ v ∈ [V.ref y1, V.ref y2, V.ref y3], NiS 5000 6 b _ v := all_cons (N1.kp kF) (all_cons (Ny.kp kF) (all_cons (N3.kp kF) all_nil))
      refine ⟨b, c, mn, _, rfl, hbF, nmn, .inl upd_same, by show 0 < 8; decide, by show 8 ≤ 1000000000; decide, fun x H5 hx hb5 k5 => ?_⟩
      refine k x H5 (Nice.kp ?_ k5) hb5 (kF.trans k5)
      clear hb5 k5 H5
      revert x
      refine all_cons ?_ (all_cons ?_ (all_cons ?_ (all_cons ?_ (all_cons ?_ (all_cons ?_ (all_cons ?_ (all_cons ?_ all_nil)))))))
      · exact (ni_lst g0 nl0 A).nice (by show 3 * (5000 + 1) ≤ 300000; decide) (by decide)
      · exact (ni_tup g2 (hbF.neT g2) (fun v hv => A v (cut_mem hv))).nice (Nat.le_trans (Nat.mul_le_mul_right _ (cut_le _ _ _)) (by show 3 * (5000 + 1) ≤ 300000; decide)) (by decide)
      · exact (ni_tup g3 (hbF.neT g3) (all_app A (all_cons (N1.kp kF) all_nil))).nice (by show 4 * (5000 + 1) ≤ 300000; decide) (by decide)
      · exact ni_non.nice (by decide) (by decide)
      · exact (ni_int (by decide)).nice (by decide) (by decide)
      · exact NiS.nice ni_str (by decide +kernel) (by decide)
      · exact nice_dct g4 nd0
      · exact (ni_tup (n := 0) (k := 0) g5 (hbF.neT g5) all_nil).nice (by decide) (by decide)
    walk_at "el"
    refine ite2 (fun h1 => ?_) (fun h1 => ?_)
    · walk_at "el"
      exact fin k2 hb2 A3 Ay A1
    walk_at "el"
    refine ite2 (fun h2 => ?_) (fun h2 => ?_)
    · obtain ⟨u1, s1, g1, u10, u11, hs1⟩ := L1
      obtain ⟨u3, s3, g3, u30, u31, hs3⟩ := L3
      walk_at "el"
      refine ⟨y3, _, s3, rfl, g3, fun r1 hr1 => ?_⟩
      have f1 := nw_of hr1 (.tup [.int u3, .str (otherK s3)])
      have B1 : LitAt (upd H2 r1 (.tup [.int u3, .str (otherK s3)])) r1 := ⟨u3, _, upd_same, u30, u31, other_ok⟩
      walk_at "el"
      refine ⟨y1, _, s1, rfl, f1 _ _ g1, fun r2 hr2 => ?_⟩
      have f2 := nw_of hr2 (.tup [.int u1, .str (otherK s1)])
      have B2 : LitAt (upd (upd H2 r1 (.tup [.int u3, .str (otherK s3)])) r2 (.tup [.int u1, .str (otherK s1)])) r2 := ⟨u1, _, upd_same, u10, u11, other_ok⟩
      walk_at "el"
      have hbF := (hb2.same f1).same f2
      have kF := (k2.trans (same_kp f1)).trans (same_kp f2)
      exact fin kF hbF ((lit_ni (B1.same f2) hbF).le (by decide) (by decide)) (Ny.kp kF) ((lit_ni B2 hbF).le (by decide) (by decide))
    walk_at "el"
    refine ite2 (fun h3 => ?_) (fun h3 => ?_)
    · skip
      walk_at "el"
      refine ⟨by show 2 ≤ sizeLine; decide, fun o1 ho1 => ?_⟩
      have e1 := nw_of ho1 (.tup [.int wi, .str "early"])
      have no1 := hb2.ne ho1
      have hA1 := all_cons (tp (upd_same (a := o1) (o := .tup [.int wi, .str "early"])) no1 (all_cons (sI (by omega)) (all_cons early (all_nil))) (by show 2 ≤ 3; decide)) (fun v hv => (hA0 v hv).same e1)
      have hB1 := hb2.same e1
      walk_at "el"
      refine ⟨by show 2 ≤ sizeLine; decide, fun o2 ho2 => ?_⟩
      have e2 := nw_of ho2 (.tup [.int (-1), .str "late"])
      have no2 := hB1.ne ho2
      have hA2 := all_cons (tp (upd_same (a := o2) (o := .tup [.int (-1), .str "late"])) no2 (all_cons (sI (by decide)) (all_cons late (all_nil))) (by show 2 ≤ 3; decide)) (fun v hv => (hA1 v hv).same e2)
      have hB2 := hB1.same e2
      walk_at "el"
      refine ⟨by show 2 ≤ sizeLine; decide, fun o3 ho3 => ?_⟩
      have e3 := nw_of ho3 (.tup [.bl true, .str "late"])
      have no3 := hB2.ne ho3
      have hA3 := all_cons (tp (upd_same (a := o3) (o := .tup [.bl true, .str "late"])) no3 (all_cons sB (all_cons late (all_nil))) (by show 2 ≤ 3; decide)) (fun v hv => (hA2 v hv).same e3)
      have hB3 := hB2.same e3
      walk_at "el"
      refine ⟨by show 2 ≤ sizeLine; decide, fun o4 ho4 => ?_⟩
      have e4 := nw_of ho4 (.tup [.int 0, .str "Early"])
      have no4 := hB3.ne ho4
      have hA4 := all_cons (tp (upd_same (a := o4) (o := .tup [.int 0, .str "Early"])) no4 (all_cons (sI (by decide)) (all_cons (sS (by decide +kernel) (by decide +kernel)) (all_nil))) (by show 2 ≤ 3; decide)) (fun v hv => (hA3 v hv).same e4)
      have hB4 := hB3.same e4
      walk_at "el"
      refine ⟨by show 2 ≤ sizeLine; decide, fun o5 ho5 => ?_⟩
      have e5 := nw_of ho5 (.lst [.int 0, .str "early"])
      have no5 := hB4.ne ho5
      have hA5 := all_cons (tl (upd_same (a := o5) (o := .lst [.int 0, .str "early"])) no5 (all_cons (sI (by decide)) (all_cons early (all_nil))) (by show 2 ≤ 3; decide)) (fun v hv => (hA4 v hv).same e5)
      have hB5 := hB4.same e5
      walk_at "el"
      refine ⟨by show 1 ≤ sizeLine; decide, fun o6 ho6 => ?_⟩
      have e6 := nw_of ho6 (.tup [.int 0])
      have no6 := hB5.ne ho6
      have hA6 := all_cons (tp (upd_same (a := o6) (o := .tup [.int 0])) no6 (all_cons (sI (by decide)) (all_nil)) (by show 1 ≤ 3; decide)) (fun v hv => (hA5 v hv).same e6)
      have hB6 := hB5.same e6
      walk_at "el"
      refine ⟨by show 7 ≤ sizeLine; decide, fun m1 hm1 => ?_⟩
      have e7 := nw_of hm1 (.lst [.ref o1, .ref o2, .ref o3, .ref o4, .ref o5, .str "early", .ref o6])
      have nm1 := hB6.ne hm1
      have hA7 := fun v hv => (hA6 v hv).same e7
      have hB7 := hB6.same e7
      have hM1 : ∀ {Hx : Hp}, upd Hx m1 (.lst [.ref o1, .ref o2, .ref o3, .ref o4, .ref o5, .str "early", .ref o6]) m1 = some (.lst [.ref o1, .ref o2, .ref o3, .ref o4, .ref o5, .str "early", .ref o6]) := fun {Hx} => upd_same
      walk_at "el"
      refine ⟨by show 2 ≤ sizeLine; decide, fun r1 hr1 => ?_⟩
      have e8 := nw_of hr1 (.tup [.non, .str "late"])
      have nr1 := hB7.ne hr1
      have hA8 := all_cons (tp (upd_same (a := r1) (o := .tup [.non, .str "late"])) nr1 (all_cons sN (all_cons late (all_nil))) (by show 2 ≤ 3; decide)) (fun v hv => (hA7 v hv).same e8)
      have hB8 := hB7.same e8
      walk_at "el"
      refine ⟨by show 2 ≤ sizeLine; decide, fun r2 hr2 => ?_⟩
      have e9 := nw_of hr2 (.tup [.str "0", .str "late"])
      have nr2 := hB8.ne hr2
      have hA9 := all_cons (tp (upd_same (a := r2) (o := .tup [.str "0", .str "late"])) nr2 (all_cons (sS (by decide +kernel) (by decide +kernel)) (all_cons late (all_nil))) (by show 2 ≤ 3; decide)) (fun v hv => (hA8 v hv).same e9)
      have hB9 := hB8.same e9
      walk_at "el"
      refine ⟨by show 1 ≤ sizeLine; decide, fun r3 hr3 => ?_⟩
      have e10 := nw_of hr3 (.tup [.int 0])
      have nr3 := hB9.ne hr3
      have hA10 := all_cons (tp (upd_same (a := r3) (o := .tup [.int 0])) nr3 (all_cons (sI (by decide)) (all_nil)) (by show 1 ≤ 3; decide)) (fun v hv => (hA9 v hv).same e10)
      have hB10 := hB9.same e10
      have z3 : ∀ {Hx : Hp}, NiS 200 3 b (upd Hx r3 (.tup [.int 0])) (.ref r3) := fun {Hx} => (ni_tup (upd_same (a := r3) (o := .tup [.int 0])) nr3 (all_cons (ni_int (b := b) (by decide)) all_nil)).le (by decide) (by decide)
      walk_at "el"
      refine ⟨by show 2 ≤ sizeLine; decide, fun r4 hr4 => ?_⟩
      have e11 := nw_of hr4 (.tup [.ref r3, .str "late"])
      have nr4 := hB10.ne hr4
      have hA11 := all_cons (tq (upd_same (a := r4) (o := .tup [.ref r3, .str "late"])) nr4 (all_cons (z3.same e11) (all_cons (late.le (by decide) (by decide)) (all_nil))) (by show 2 ≤ 3; decide)) (fun v hv => (hA10 v hv).same e11)
      have hB11 := hB10.same e11
      walk_at "el"
      refine ⟨by show 2 ≤ sizeLine; decide, fun r5 hr5 => ?_⟩
      have e12 := nw_of hr5 (.tup [.int 0, .non])
      have nr5 := hB11.ne hr5
      have hA12 := all_cons (tp (upd_same (a := r5) (o := .tup [.int 0, .non])) nr5 (all_cons (sI (by decide)) (all_cons sN (all_nil))) (by show 2 ≤ 3; decide)) (fun v hv => (hA11 v hv).same e12)
      have hB12 := hB11.same e12
      walk_at "el"
      refine ⟨by show 1 ≤ sizeLine; decide, fun r6 hr6 => ?_⟩
      have e13 := nw_of hr6 (.lst [.str "late"])
      have nr6 := hB12.ne hr6
      have hA13 := fun v hv => (hA12 v hv).same e13
      have hB13 := hB12.same e13
      have z6 : ∀ {Hx : Hp}, NiS 200 3 b (upd Hx r6 (.lst [.str "late"])) (.ref r6) := fun {Hx} => (ni_lst (upd_same (a := r6) (o := .lst [.str "late"])) nr6 (all_cons late all_nil)).le (by show 1 * (10 + 1) ≤ 200; decide) (by decide)
      walk_at "el"
      refine ⟨by show 2 ≤ sizeLine; decide, fun r7 hr7 => ?_⟩
      have e14 := nw_of hr7 (.tup [.int 0, .ref r6])
      have nr7 := hB13.ne hr7
      have hA14 := all_cons (tq (upd_same (a := r7) (o := .tup [.int 0, .ref r6])) nr7 (all_cons ((sI (by decide)).le (by decide) (by decide)) (all_cons (z6.same e14) (all_nil))) (by show 2 ≤ 3; decide)) (fun v hv => (hA13 v hv).same e14)
      have hB14 := hB13.same e14
      walk_at "el"
      refine ⟨by show 0 ≤ sizeLine; decide, fun r8 hr8 => ?_⟩
      have e15 := nw_of hr8 (.lst [])
      have nr8 := hB14.ne hr8
      have hA15 := fun v hv => (hA14 v hv).same e15
      have hB15 := hB14.same e15
      have z8 : ∀ {Hx : Hp}, NiS 200 3 b (upd Hx r8 (.lst [])) (.ref r8) := fun {Hx} => (ni_lst (n := 0) (k := 0) (upd_same (a := r8) (o := .lst [])) nr8 all_nil).le (by decide) (by decide)
      walk_at "el"
      refine ⟨by show 2 ≤ sizeLine; decide, fun r9 hr9 => ?_⟩
      have e16 := nw_of hr9 (.tup [.ref r8, .str "early"])
      have nr9 := hB15.ne hr9
      have hA16 := all_cons (tq (upd_same (a := r9) (o := .tup [.ref r8, .str "early"])) nr9 (all_cons (z8.same e16) (all_cons (early.le (by decide) (by decide)) (all_nil))) (by show 2 ≤ 3; decide)) (fun v hv => (hA15 v hv).same e16)
      have hB16 := hB15.same e16
      walk_at "el"
      refine ⟨by show 6 ≤ sizeLine; decide, fun m2 hm2 => ?_⟩
      have e17 := nw_of hm2 (.lst [.ref r1, .ref r2, .ref r4, .ref r5, .ref r7, .ref r9])
      have nm2 := hB16.ne hm2
      have hA17 := fun v hv => (hA16 v hv).same e17
      have hB17 := hB16.same e17
      have sM : Same _ _ := fun a o h => e17 a o (e16 a o (e15 a o (e14 a o (e13 a o (e12 a o (e11 a o (e10 a o (e9 a o (e8 a o h)))))))))
      walk_at "el"
      refine n_cat (sM _ _ hM1) upd_same (by show 7 + 6 ≤ sizeLine; decide) fun m3 hm3 => ?_
      have e18 := nw_of hm3 (.lst ([.ref o1, .ref o2, .ref o3, .ref o4, .ref o5, .str "early", .ref o6] ++ [.ref r1, .ref r2, .ref r4, .ref r5, .ref r7, .ref r9]))
      have nm3 := hB17.ne hm3
      have hA18 := fun v hv => (hA17 v hv).same e18
      have hB18 := hB17.same e18
      have sF : Same H2 _ := fun a o h => e18 a o (e17 a o (e16 a o (e15 a o (e14 a o (e13 a o (e12 a o (e11 a o (e10 a o (e9 a o (e8 a o (e7 a o (e6 a o (e5 a o (e4 a o (e3 a o (e2 a o (e1 a o h)))))))))))))))))
      walk_at "el"
      refine ⟨b, c, m3, _, rfl, hB18, nm3, .inl upd_same, by show 0 < 13; decide, by show 13 ≤ 1000000000; decide, fun x H5 hx hb5 k5 => ?_⟩
      have kk := k2.trans (Kp.into k5 sF)
      have hx' : NiS 5000 6 b H5 x := by
        refine NiS.kp ?_ k5
        refine NiS.le (n := 3000) (k := 5) ?_ (by decide) (by decide)
        clear hb5 k5 kk H5
        revert x
        refine all_app ?_ ?_
        · exact all_cons (hA18 _ (by simp)) (all_cons (hA18 _ (by simp)) (all_cons (hA18 _ (by simp)) (all_cons (hA18 _ (by simp)) (all_cons (hA18 _ (by simp)) (all_cons (early.le (by decide) (by decide)) (all_cons (hA18 _ (by simp)) (all_nil)))))))
        · exact all_cons (hA18 _ (by simp)) (all_cons (hA18 _ (by simp)) (all_cons (hA18 _ (by simp)) (all_cons (hA18 _ (by simp)) (all_cons (hA18 _ (by simp)) (all_cons (hA18 _ (by simp)) (all_nil))))))
      walk_at "el"
      refine ite2 (fun g => ?_) (fun g => ?_)
      · walk_at "el"
        exact fin kk hb5 hx' (Ny.kp kk) (N3.kp kk)
      · walk_at "el"
        exact fin kk hb5 (N1.kp kk) (Ny.kp kk) hx'
    walk_at "el"
    refine ite2 (fun h4 => ?_) (fun h4 => ?_)
    · walk_at "el"
      refine ⟨b, c, wi, rfl, hb2, wi0, by omega, fun r H3 r0 r1 hb3 k3 => ?_⟩
      walk_at "el"
      refine ⟨b, c, rfl, hb3, fun sk H4 hsk hb4 k4 => ?_⟩
      walk_at "el"
      refine ⟨by show 2 ≤ sizeLine; decide, fun d0 hd0 => ?_⟩
      have f1 := nw_of hd0 (.tup [.int r, .str sk])
      have kF := k2.trans (k3.trans (k4.trans (same_kp f1)))
      have hbF := hb4.same f1
      have B : LitAt (upd H4 d0 (.tup [.int r, .str sk])) d0 := ⟨r, sk, upd_same, r0, by omega, hsk⟩
      have B' : NiS 5000 6 b _ (.ref d0) := (lit_ni B hbF).le (by decide) (by decide)
      walk_at "el"
      refine ite2 (fun g => ?_) (fun g => ?_)
      · walk_at "el"
        exact fin kF hbF B' (Ny.kp kF) (N3.kp kF)
      · walk_at "el"
        exact fin kF hbF (N1.kp kF) (Ny.kp kF) B'
    walk_at "el"
    refine ite2 (fun h5 => ?_) (fun h5 => ?_)
    · skip
      walk_at "el"
      refine ⟨by show 2 ≤ sizeLine; decide, fun o1 ho1 => ?_⟩
      have e1 := nw_of ho1 (.tup [.str "clause", .int 20])
      have no1 := hb2.ne ho1
      have hA1 := all_cons (tp (upd_same (a := o1) (o := .tup [.str "clause", .int 20])) no1 (all_cons clau (all_cons (sI (by decide)) (all_nil))) (by show 2 ≤ 3; decide)) (fun v hv => (hA0 v hv).same e1)
      have hB1 := hb2.same e1
      walk_at "el"
      refine ⟨by show 2 ≤ sizeLine; decide, fun o2 ho2 => ?_⟩
      have e2 := nw_of ho2 (.tup [.str "clause", .int (-1)])
      have no2 := hB1.ne ho2
      have hA2 := all_cons (tp (upd_same (a := o2) (o := .tup [.str "clause", .int (-1)])) no2 (all_cons clau (all_cons (sI (by decide)) (all_nil))) (by show 2 ≤ 3; decide)) (fun v hv => (hA1 v hv).same e2)
      have hB2 := hB1.same e2
      walk_at "el"
      refine ⟨by show 2 ≤ sizeLine; decide, fun o3 ho3 => ?_⟩
      have e3 := nw_of ho3 (.tup [.str "clause", .bl true])
      have no3 := hB2.ne ho3
      have hA3 := all_cons (tp (upd_same (a := o3) (o := .tup [.str "clause", .bl true])) no3 (all_cons clau (all_cons sB (all_nil))) (by show 2 ≤ 3; decide)) (fun v hv => (hA2 v hv).same e3)
      have hB3 := hB2.same e3
      walk_at "el"
      refine ⟨by show 0 ≤ sizeLine; decide, fun o4 ho4 => ?_⟩
      have e4 := nw_of ho4 (.tup [])
      have no4 := hB3.ne ho4
      have hA4 := fun v hv => (hA3 v hv).same e4
      have hB4 := hB3.same e4
      have z4 : ∀ {Hx : Hp}, NiS 200 3 b (upd Hx o4 (.tup [])) (.ref o4) := fun {Hx} => (ni_tup (n := 0) (k := 0) (upd_same (a := o4) (o := .tup [])) no4 all_nil).le (by decide) (by decide)
      walk_at "el"
      refine ⟨by show 2 ≤ sizeLine; decide, fun o5 ho5 => ?_⟩
      have e5 := nw_of ho5 (.tup [.str "link", .ref o4])
      have no5 := hB4.ne ho5
      have hA5 := all_cons (tq (upd_same (a := o5) (o := .tup [.str "link", .ref o4])) no5 (all_cons (lnk.le (by decide) (by decide)) (all_cons (z4.same e5) (all_nil))) (by show 2 ≤ 3; decide)) (fun v hv => (hA4 v hv).same e5)
      have hB5 := hB4.same e5
      have hyA := (fun a o h => e5 a o (e4 a o (e3 a o (e2 a o (e1 a o h)))) : Same H2 _) _ _ hy2'
      have zA := zni2.same (fun a o h => e5 a o (e4 a o (e3 a o (e2 a o (e1 a o h)))) : Same H2 _)
      walk_at "el"
      refine ⟨by show 2 ≤ sizeLine; decide, fun o6 ho6 => ?_⟩
      have e6 := nw_of ho6 (.tup [.str "Link", z])
      have no6 := hB5.ne ho6
      have hA6 := all_cons (tq (upd_same (a := o6) (o := .tup [.str "Link", z])) no6 (all_cons ((sS (by decide +kernel) (by decide +kernel)).le (by decide) (by decide)) (all_cons (zA.same e6) (all_nil))) (by show 2 ≤ 3; decide)) (fun v hv => (hA5 v hv).same e6)
      have hB6 := hB5.same e6
      walk_at "el"
      refine ⟨by show 5 ≤ sizeLine; decide, fun m1 hm1 => ?_⟩
      have e7 := nw_of hm1 (.lst [.ref o1, .ref o2, .ref o3, .ref o5, .ref o6])
      have nm1 := hB6.ne hm1
      have hA7 := fun v hv => (hA6 v hv).same e7
      have hB7 := hB6.same e7
      have hM1 : ∀ {Hx : Hp}, upd Hx m1 (.lst [.ref o1, .ref o2, .ref o3, .ref o5, .ref o6]) m1 = some (.lst [.ref o1, .ref o2, .ref o3, .ref o5, .ref o6]) := fun {Hx} => upd_same
      have hyB := (fun a o h => e7 a o (e6 a o (e5 a o (e4 a o (e3 a o (e2 a o (e1 a o h)))))) : Same H2 _) _ _ hy2'
      have zB := zni2.same (fun a o h => e7 a o (e6 a o (e5 a o (e4 a o (e3 a o (e2 a o (e1 a o h)))))) : Same H2 _)
      walk_at "el"
      refine ⟨y2, _, rfl, .inr (SqT.of hyB), fun l0 hl0 => ?_⟩
      have e8 := nw_of hl0 (.lst [.str hd, z])
      have nl0 := hB7.ne hl0
      have hA8 := all_cons (tlq (upd_same (a := l0) (o := .lst [.str hd, z])) nl0 (all_cons (hdni.le (by decide) (by decide)) (all_cons (zB.same e8) (all_nil))) (by show 2 ≤ 3; decide)) (fun v hv => (hA7 v hv).same e8)
      have hB8 := hB7.same e8
      walk_at "el"
      refine ⟨by show 1 ≤ sizeLine; decide, fun r1 hr1 => ?_⟩
      have e9 := nw_of hr1 (.tup [.str "clause"])
      have nr1 := hB8.ne hr1
      have hA9 := all_cons (tp (upd_same (a := r1) (o := .tup [.str "clause"])) nr1 (all_cons clau (all_nil)) (by show 1 ≤ 3; decide)) (fun v hv => (hA8 v hv).same e9)
      have hB9 := hB8.same e9
      walk_at "el"
      refine ⟨by show 2 ≤ sizeLine; decide, fun r2 hr2 => ?_⟩
      have e10 := nw_of hr2 (.tup [.str "clause", .non])
      have nr2 := hB9.ne hr2
      have hA10 := all_cons (tp (upd_same (a := r2) (o := .tup [.str "clause", .non])) nr2 (all_cons clau (all_cons sN (all_nil))) (by show 2 ≤ 3; decide)) (fun v hv => (hA9 v hv).same e10)
      have hB10 := hB9.same e10
      walk_at "el"
      refine ⟨by show 2 ≤ sizeLine; decide, fun r3 hr3 => ?_⟩
      have e11 := nw_of hr3 (.tup [.str "clause", .str "0"])
      have nr3 := hB10.ne hr3
      have hA11 := all_cons (tp (upd_same (a := r3) (o := .tup [.str "clause", .str "0"])) nr3 (all_cons clau (all_cons (sS (by decide +kernel) (by decide +kernel)) (all_nil))) (by show 2 ≤ 3; decide)) (fun v hv => (hA10 v hv).same e11)
      have hB11 := hB10.same e11
      walk_at "el"
      refine ⟨by show 1 ≤ sizeLine; decide, fun r4 hr4 => ?_⟩
      have e12 := nw_of hr4 (.tup [.int 0])
      have nr4 := hB11.ne hr4
      have hA12 := all_cons (tp (upd_same (a := r4) (o := .tup [.int 0])) nr4 (all_cons (sI (by decide)) (all_nil)) (by show 1 ≤ 3; decide)) (fun v hv => (hA11 v hv).same e12)
      have hB12 := hB11.same e12
      have z5 : ∀ {Hx : Hp}, NiS 200 3 b (upd Hx r4 (.tup [.int 0])) (.ref r4) := fun {Hx} => (ni_tup (upd_same (a := r4) (o := .tup [.int 0])) nr4 (all_cons (ni_int (b := b) (by decide)) all_nil)).le (by decide) (by decide)
      walk_at "el"
      refine ⟨by show 2 ≤ sizeLine; decide, fun r5 hr5 => ?_⟩
      have e13 := nw_of hr5 (.tup [.str "clause", .ref r4])
      have nr5 := hB12.ne hr5
      have hA13 := all_cons (tq (upd_same (a := r5) (o := .tup [.str "clause", .ref r4])) nr5 (all_cons (clau.le (by decide) (by decide)) (all_cons (z5.same e13) (all_nil))) (by show 2 ≤ 3; decide)) (fun v hv => (hA12 v hv).same e13)
      have hB13 := hB12.same e13
      walk_at "el"
      refine ⟨by show 6 ≤ sizeLine; decide, fun m2 hm2 => ?_⟩
      have e14 := nw_of hm2 (.lst [.ref l0, .ref r1, .non, .ref r2, .ref r3, .ref r5])
      have nm2 := hB13.ne hm2
      have hA14 := fun v hv => (hA13 v hv).same e14
      have hB14 := hB13.same e14
      have sM : Same _ _ := fun a o h => e14 a o (e13 a o (e12 a o (e11 a o (e10 a o (e9 a o (e8 a o h))))))
      walk_at "el"
      refine n_cat (sM _ _ hM1) upd_same (by show 5 + 6 ≤ sizeLine; decide) fun m3 hm3 => ?_
      have e15 := nw_of hm3 (.lst ([.ref o1, .ref o2, .ref o3, .ref o5, .ref o6] ++ [.ref l0, .ref r1, .non, .ref r2, .ref r3, .ref r5]))
      have nm3 := hB14.ne hm3
      have hA15 := fun v hv => (hA14 v hv).same e15
      have hB15 := hB14.same e15
      have hM3 : ∀ {Hx : Hp}, upd Hx m3 (.lst ([.ref o1, .ref o2, .ref o3, .ref o5, .ref o6] ++ [.ref l0, .ref r1, .non, .ref r2, .ref r3, .ref r5])) m3 = some (.lst ([.ref o1, .ref o2, .ref o3, .ref o5, .ref o6] ++ [.ref l0, .ref r1, .non, .ref r2, .ref r3, .ref r5])) := fun {Hx} => upd_same
      walk_at "el"
      refine ⟨by show 0 ≤ sizeLine; decide, fun s1 hs1 => ?_⟩
      have e16 := nw_of hs1 (.lst [])
      have ns1 := hB15.ne hs1
      have hA16 := fun v hv => (hA15 v hv).same e16
      have hB16 := hB15.same e16
      have y1' : ∀ {Hx : Hp}, NiS 200 3 b (upd Hx s1 (.lst [])) (.ref s1) := fun {Hx} => (ni_lst (n := 0) (k := 0) (upd_same (a := s1) (o := .lst [])) ns1 all_nil).le (by decide) (by decide)
      walk_at "el"
      refine ⟨by show 2 ≤ sizeLine; decide, fun s2 hs2 => ?_⟩
      have e17 := nw_of hs2 (.tup [.ref s1, .int 0])
      have ns2 := hB16.ne hs2
      have hA17 := all_cons (tq (upd_same (a := s2) (o := .tup [.ref s1, .int 0])) ns2 (all_cons (y1'.same e17) (all_cons ((sI (by decide)).le (by decide) (by decide)) (all_nil))) (by show 2 ≤ 3; decide)) (fun v hv => (hA16 v hv).same e17)
      have hB17 := hB16.same e17
      walk_at "el"
      refine ⟨by show 2 ≤ sizeLine; decide, fun s3 hs3 => ?_⟩
      have e18 := nw_of hs3 (.tup [.str "link", .non])
      have ns3 := hB17.ne hs3
      have hA18 := all_cons (tp (upd_same (a := s3) (o := .tup [.str "link", .non])) ns3 (all_cons lnk (all_cons sN (all_nil))) (by show 2 ≤ 3; decide)) (fun v hv => (hA17 v hv).same e18)
      have hB18 := hB17.same e18
      walk_at "el"
      refine ⟨by show 0 ≤ sizeLine; decide, fun s4 hs4 => ?_⟩
      have e19 := nw_of hs4 (.lst [])
      have ns4 := hB18.ne hs4
      have hA19 := fun v hv => (hA18 v hv).same e19
      have hB19 := hB18.same e19
      have y4' : ∀ {Hx : Hp}, NiS 200 3 b (upd Hx s4 (.lst [])) (.ref s4) := fun {Hx} => (ni_lst (n := 0) (k := 0) (upd_same (a := s4) (o := .lst [])) ns4 all_nil).le (by decide) (by decide)
      walk_at "el"
      refine ⟨by show 2 ≤ sizeLine; decide, fun s5 hs5 => ?_⟩
      have e20 := nw_of hs5 (.tup [.str "clause", .ref s4])
      have ns5 := hB19.ne hs5
      have hA20 := all_cons (tq (upd_same (a := s5) (o := .tup [.str "clause", .ref s4])) ns5 (all_cons (clau.le (by decide) (by decide)) (all_cons (y4'.same e20) (all_nil))) (by show 2 ≤ 3; decide)) (fun v hv => (hA19 v hv).same e20)
      have hB20 := hB19.same e20
      walk_at "el"
      refine ⟨by show 3 ≤ sizeLine; decide, fun m4 hm4 => ?_⟩
      have e21 := nw_of hm4 (.lst [.ref s2, .ref s3, .ref s5])
      have nm4 := hB20.ne hm4
      have hA21 := fun v hv => (hA20 v hv).same e21
      have hB21 := hB20.same e21
      have sN' : Same _ _ := fun a o h => e21 a o (e20 a o (e19 a o (e18 a o (e17 a o (e16 a o h)))))
      walk_at "el"
      refine n_cat (sN' _ _ hM3) upd_same (by show 11 + 3 ≤ sizeLine; decide) fun m5 hm5 => ?_
      have e22 := nw_of hm5 (.lst (([.ref o1, .ref o2, .ref o3, .ref o5, .ref o6] ++ [.ref l0, .ref r1, .non, .ref r2, .ref r3, .ref r5]) ++ [.ref s2, .ref s3, .ref s5]))
      have nm5 := hB21.ne hm5
      have hA22 := fun v hv => (hA21 v hv).same e22
      have hB22 := hB21.same e22
      have sF : Same H2 _ := fun a o h => e22 a o (e21 a o (e20 a o (e19 a o (e18 a o (e17 a o (e16 a o (e15 a o (e14 a o (e13 a o (e12 a o (e11 a o (e10 a o (e9 a o (e8 a o (e7 a o (e6 a o (e5 a o (e4 a o (e3 a o (e2 a o (e1 a o h)))))))))))))))))))))
      walk_at "el"
      refine ⟨b, c, m5, _, rfl, hB22, nm5, .inl upd_same, by show 0 < 14; decide, by show 14 ≤ 1000000000; decide, fun x H5 hx hb5 k5 => ?_⟩
      have kk := k2.trans (Kp.into k5 sF)
      have hx' : NiS 5000 6 b H5 x := by
        refine NiS.kp ?_ k5
        refine NiS.le (n := 3000) (k := 5) ?_ (by decide) (by decide)
        clear hb5 k5 kk H5
        revert x
        refine all_app (all_app ?_ ?_) ?_
        · exact all_cons (hA22 _ (by simp)) (all_cons (hA22 _ (by simp)) (all_cons (hA22 _ (by simp)) (all_cons (hA22 _ (by simp)) (all_cons (hA22 _ (by simp)) (all_nil)))))
        · exact all_cons (hA22 _ (by simp)) (all_cons (hA22 _ (by simp)) (all_cons (sN.le (by decide) (by decide)) (all_cons (hA22 _ (by simp)) (all_cons (hA22 _ (by simp)) (all_cons (hA22 _ (by simp)) (all_nil))))))
        · exact all_cons (hA22 _ (by simp)) (all_cons (hA22 _ (by simp)) (all_cons (hA22 _ (by simp)) (all_nil)))
      walk_at "el"
      exact fin kk hb5 (N1.kp kk) hx' (N3.kp kk)
    have last : Q (.ref q) H2 := k _ _ ((Nq.kp k2).nice (by decide) (by decide)) hb2 k2
    walk_at "el"
    refine ite2 (fun h6 => ?_) (fun h6 => ?_)
    · walk_at "el"
      refine ite2 (fun h7 => ?_) (fun h7 => ?_)
      · have eh : hd = "link" := V.str.inj (of_decide_eq_true h7)
        obtain ⟨t, a1, tr, a3, rfl, ht, q1, q2, q3⟩ := hlink eh
        walk_at "el"
        refine ⟨by show 3 ≤ sizeLine; decide, fun r1 hr1 => ?_⟩
        have f1 := nw_of hr1 (.tup [.ref a3, .ref tr, .ref a1])
        have nr1 := hb2.ne hr1
        have Z1 := ni_tup (upd_at hr1 (.tup [.ref a3, .ref tr, .ref a1])) nr1 (all_cons (q3.same f1) (all_cons (q2.same f1) (all_cons (q1.same f1) all_nil)))
        walk_at "el"
        refine ⟨by show 2 ≤ sizeLine; decide, fun r2 hr2 => ?_⟩
        have f2 := nw_of hr2 (.tup [.str "link", .ref r1])
        have nr2 := (hb2.same f1).ne hr2
        have Z2 := ni_tup (upd_at hr2 (.tup [.str "link", .ref r1])) nr2 (all_cons ((lnk).le (n' := 100) (k' := 2) (by decide) (by decide)) (all_cons ((Z1.same f2).le (n' := 100) (k' := 2) (by show 3 * (20 + 1) ≤ 100; decide) (by decide)) all_nil))
        walk_at "el"
        have hbF := (hb2.same f1).same f2
        have kF := (k2.trans (same_kp f1)).trans (same_kp f2)
        exact fin kF hbF (N1.kp kF) (Z2.le (by show 2 * (100 + 1) ≤ 5000; decide) (by decide)) (N3.kp kF)
      · walk_at "el"
        exact last
    walk_at "el"
    exact last
end
end EL

/- part K25L -/
namespace EL
open PySem PySem.Spec PyProof.Rows L2
open PySem.W (Frag)
abbrev s_law : Stmt := top 67
abbrev N_law : List Str := ["_law_script", "_law_bag_here", "_law_trip", "_law_events", "_law_witnesses", "_law_parts_here", "_law_book", "_law_k", "_law_thing", "_law_shown", "_law_due", "_law_again"]
theorem sc_law : FnScope N_law ["_law_script"] (defScope s_law) := ⟨rfl, rfl, rfl, by decide +kernel, rfl, by decide +kernel, by decide +kernel⟩
local macro_rules | `(tactic| walk_at "el1") => `(tactic| with_reducible first
  | refine a_sasg ?_ | refine a_sdrop ?_ | refine a_saugS ?_ | refine a_spar ?_ | refine a_seq ?_ | refine a_asg ?_ | refine a_drop ?_ | refine a_ret ?_ | refine a_if ?_ | refine a_next ?_
  | refine a_op ?_ | refine a_cons ?_ | refine a_nil ?_ | refine a_cb ?_ | refine a_call ?_ | refine a_c ?_ | refine a_gn ?_ | refine a_nx ?_ | refine a_rt ?_ | refine a_un ?_
  | refine a_test ?_ | refine a_B ?_ | refine a_bl ?_ | refine a_and ?_ | refine a_or ?_ | refine a_not ?_ | refine a_andV ?_ | refine a_orV ?_ | refine a_notV ?_ | refine a_ifx ?_ | refine a_chain ?_
  | refine a_nT ?_ | refine a_nF ?_ | refine a_fld ?_ | refine a_getF ?_ | refine a_T ?_ | refine a_F ?_ | refine a_tup ?_ | refine a_lst ?_ | refine a_sub ?_ | refine a_augS ?_ | refine a_two ?_ | refine a_I0 ?_ | refine a_U ?_ | refine n_add ?_ | refine n_int ?_ | refine n_ib ?_ | refine a_ip ?_ | refine a_rng1 ?_ | refine a_rng2 ?_ | refine a_bm ?_ | refine a_abs ?_ | refine a_pairs ?_ | refine a_pairs0 ?_ | refine a_bk ?_ | refine a_prp ?_ | refine a_lc ?_ | refine a_yes ?_ | refine a_sl ?_ | refine a_nop ?_ | refine a_prt ?_ | refine a_ex1 ?_ | refine a_for ?_ | refine a_sfor ?_ | refine a_iE1 ?_ | refine a_iEs ?_ | refine a_iEz ?_ | refine a_iEnum ?_ | refine a_iTup ?_ | refine a_iList ?_ | refine a_gcons ?_ | refine a_gnil ?_ | refine a_revT ?_ | refine a_spar3 ?_ | refine a_par3 ?_ | refine a_three ?_)
local macro_rules | `(tactic| walk_at "el2") => `(tactic| first
  | (refine a_var (by rfl) ?_)
  | (refine n_ixL (SqL.of (by assumption)) (by rfl) ?_) | (refine n_ixT (SqT.of (by assumption)) (by rfl) ?_) | (refine n_eq (by rfl) ?_) | (refine n_ne (by rfl) ?_)
  | (refine n_isN ?_) | (refine n_notN ?_) | (refine n_isB ?_) | (refine n_notB ?_) | (refine n_isBI ?_) | (refine n_notBI ?_) | (refine n_len (.inl (SqL.of (by assumption))) ?_) | (refine n_len (.inr (SqT.of (by assumption))) ?_)
  | (refine a_getL (SqL.of (by assumption)) (by rfl) ?_)
  | (refine n_isInt (by assumption) ?_) | (refine n_isBool (by assumption) ?_) | (refine n_isStr (by assumption) ?_) | (refine n_isTup (by assumption) ?_) | (refine n_isLst (by assumption) ?_))
local macro_rules | `(tactic| walk_at "el") => `(tactic| repeat (first | walk_at "el1" | walk_at "el2"))

section
variable {P : Program} {w : World} {K : Frag} {mg : Str → Option Value} {base : Heap} {f : Addr} {fd : FuncData} {C : Addr} {Dk : BookD}
theorem ok_law (F : Fun K "law" "law" s_law f fd) (T : Tb mg) (c_bag : Cal P w K mg base CX0 1 "_law_bag" ["_law_script"] (spBag K)) (c_take : Cal P w K mg base CX0 1 "_law_take" ["_law_bag_here", "_law_many"] spTake)
    (c_parts : Cal P w K mg base CX0 3 "_law_parts" ["_law_bag_here", "_law_events", "_law_witnesses", "_law_most"] spParts) (c_made : Cal P w K mg base CX0 9 "_law_made" ["_law_events", "_law_witnesses", "_law_parts_here"] (spMade K C))
    (c_drawn : Cal P w K mg base CX0 4 "_law_drawn" ["_law_bag_here", "_law_events", "_law_witnesses", "_law_parts_here"] (spDrawn5 K)) (c_bent : Cal P w K mg base CX0 3 "_law_bent" ["_law_bag_here", "_law_thing", "_law_witnesses"] (spBent5 K)) (c_l_is_step : Cal P w K mg base CX0 3 "_law_is_step" ["_law_witnesses", "_law_parts_here", "_law_thing"] (spLStep K))
    (c_yes : Cal P w K mg base CX0 1 "_law_yes" ["_law_told", "_law_due"] spYes) (c_is_step : Cal P w K mg base CX0 6 "is_step" ["book", "thing"] (spIsStep K C)) :
    FnG P w K mg base CX0 10 f fd ["_law_script"] (spLaw K) := by
  refine fnG_of F sc_law (fun vs H Q E h => ?_) (fun cdv A outer s H vs Q E hr hq h => ?_)
  · obtain ⟨_, _, rfl, _⟩ := h
    rfl
  · obtain ⟨a, ns, rfl, ha, k⟩ := h
    refine ⟨_, PSs.nox (pss_cons (ps_set (i := 1) sc_law.nd rfl (Or.inl rfl) (pe_cal c_bag (hr.mono (by decide)) pass0 (pa_cons (pv 0) pa_nil)))
  (pss_cons (ps_for PassesOwn.never rfl (pi_range1 rfl T.b.range_ (pa_cons pe_int pa_nil)) (pg_name (i := 2) sc_law.nd rfl (Or.inl rfl))
    (pss_cons (ps_par (i := 3) (j := 4) rfl sc_law.nd rfl rfl (by decide) rfl rfl (pa_cons (pe_op u_add pe_int (pe_cal c_take (hr.mono (by decide)) pass0 (pa_cons (pv 1) (pa_cons pe_int pa_nil)))) (pa_cons (pe_op u_add pe_int (pe_cal c_take (hr.mono (by decide)) pass0 (pa_cons (pv 1) (pa_cons pe_int pa_nil)))) pa_nil)) (by with_unfolding_all rfl))
  (pss_cons (ps_set (i := 5) sc_law.nd rfl (Or.inl rfl) (pe_cal c_parts (hr.mono (by decide)) pass0 (pa_cons (pv 1) (pa_cons (pv 3) (pa_cons (pv 4) (pa_cons pe_int pa_nil))))))
  (pss_cons (ps_set (i := 6) sc_law.nd rfl (Or.inl rfl) (pe_cal c_made (hr.mono (by decide)) pass0 (pa_cons (pv 3) (pa_cons (pv 4) (pa_cons (pv 5) pa_nil)))))
  (pss_cons (ps_for PassesOwn.never rfl (pi_range1 rfl T.b.range_ (pa_cons pe_int pa_nil)) (pg_name (i := 7) sc_law.nd rfl (Or.inl rfl))
    (pss_cons (ps_set (i := 8) sc_law.nd rfl (Or.inl rfl) (pe_cal c_bent (hr.mono (by decide)) pass0 (pa_cons (pv 1) (pa_cons (pe_cal c_drawn (hr.mono (by decide)) pass0 (pa_cons (pv 1) (pa_cons (pv 3) (pa_cons (pv 4) (pa_cons (pv 5) pa_nil))))) (pa_cons (pv 4) pa_nil)))))
  (pss_cons (ps_par (i := 9) (j := 10) rfl sc_law.nd rfl rfl (by decide) rfl rfl (pa_cons (pe_callB (u_showT hq hr.units) rfl T.b.repr_ (by decide +kernel) (pa_cons (pv 8) pa_nil)) (pa_cons (pe_cal c_l_is_step (hr.mono (by decide)) pass0 (pa_cons (pv 4) (pa_cons (pv 5) (pa_cons (pv 8) pa_nil)))) pa_nil)) (by with_unfolding_all rfl))
  (pss_one (ps_for PassesOwn.never rfl (pi_range1 rfl T.b.range_ (pa_cons pe_int pa_nil)) (pg_name (i := 11) sc_law.nd rfl (Or.inl rfl))
    (pss_one (ps_if (PW.pt (pw_or (pt_not (pt_val (pe_cal c_yes (hr.mono (by decide)) pass0 (pa_cons (pe_cal c_is_step (hr.mono (by decide)) pass0 (pa_cons (pv 6) (pa_cons (pv 8) pa_nil))) (pa_cons (pv 10) pa_nil))))) (pw_or1 (pt_cmpR (u_ne hr.units) (pe_callB (u_showT hq hr.units) rfl T.b.repr_ (by decide +kernel) (pa_cons (pv 8) pa_nil)) (pv 9) (nomark _)))))
    (pss_one (ps_ret pe_bl))
    pss_nil)))))))
  (pss_one (ps_for PassesOwn.never rfl (pi_tup (pe_tup (pa_cons pe_non (pa_cons (pe_tup pa_nil) (pa_cons (pe_lst pa_nil) (pa_cons (pe_tup (pa_cons (pe_tup pa_nil) (pa_cons (pe_tup pa_nil) (pa_cons (pe_tup pa_nil) pa_nil)))) (pa_cons (pe_tup (pa_cons (pe_tup (pa_cons pe_int (pa_cons pe_str pa_nil))) (pa_cons (pe_tup (pa_cons pe_str (pa_cons pe_int pa_nil))) (pa_cons (pe_tup (pa_cons pe_int (pa_cons pe_str pa_nil))) pa_nil)))) pa_nil))))))) (pg_name (i := 8) sc_law.nd rfl (Or.inl rfl))
    (pss_one (ps_if (pt_not (pt_val (pe_cal c_yes (hr.mono (by decide)) pass0 (pa_cons (pe_cal c_is_step (hr.mono (by decide)) pass0 (pa_cons (pv 6) (pa_cons (pv 8) pa_nil))) (pa_cons (pe_cal c_l_is_step (hr.mono (by decide)) pass0 (pa_cons (pv 4) (pa_cons (pv 5) (pa_cons (pv 8) pa_nil)))) pa_nil)))))
    (pss_one (ps_ret pe_bl))
    pss_nil)))))))))
  (pss_one (ps_ret pe_bl)))), ?_⟩
    walk_at "el"
    refine ⟨a, ns, rfl, ha, fun b c H1 hb0 hc0 hb1 s1 => ?_⟩
    walk_at "el"
    refine ⟨by decide, by decide, ?_⟩
    refine lp_range (fun i σ H2 => Bag H2 b c ∧ ∃ v2 v3 v4 v5 v6 v7 v8 v9 v10 v11, σ = [some (.ref a), some (.ref b), v2, v3, v4, v5, v6, v7, v8, v9, v10, v11]) ⟨hb1, _, _, _, _, _, _, _, _, _, _, rfl⟩ ?_ ?_
    · rintro i σ H2 hi ⟨hb2, v2, v3, v4, v5, v6, v7, v8, v9, v10, v11, rfl⟩
      walk_at "el"
      refine ⟨b, c, 5, rfl, hb2, by decide, by decide, fun ev0 H3 e0 e1 hb3 _ => ?_⟩
      walk_at "el"
      refine ⟨b, c, 5, rfl, hb3, by decide, by decide, fun wi0 H4 w0 w1 hb4 _ => ?_⟩
      walk_at "el"
      refine ⟨1 + ev0, 1 + wi0, 10, b, c, rfl, hb4, by omega, by omega, by omega, by omega, by decide, by decide, fun p l H6 xs S I6 lt lg ls lc => ?_⟩
      obtain ⟨D, R, ok⟩ := pr_of I6.it
      have sz : ∀ u, (xs u).length ≤ 24 := fun u => by cases u <;> omega
      walk_at "el"
      refine ⟨1 + ev0, 1 + wi0, p, l, xs, rfl, by omega, by omega, by omega, by omega, I6.hp, fun u => ⟨.inl (I6.hl u), sz u, I6.it u⟩, fun H7 o dx t g s q s7 ho t1 t2 t3 t4 => ?_⟩
      have W0 : WW K C b c H7 ⟨o, dx, t, g, s, q, 1 + ev0, 1 + wi0, xs⟩ p l D := ⟨I6.bag.same s7, ⟨ho, t1, t2, t3, t4, R.same s7⟩, ⟨s7 _ _ I6.hp, S.pb, fun u => s7 _ _ (I6.hl u), S.lb, R.same s7⟩⟩
      have lT : D.T.length ≤ 1000 := by have := R.t.len; have := sz .tel; omega
      have lS : D.S.length ≤ 1000 := by have := R.s.len; have := sz .sur; omega
      have lG : D.G.length ≤ 1000 := by have := R.g.len; have := sz .gap; omega
      have lL : D.L.length ≤ 1000 := by have := R.l.len; have := sz .cla; omega
      generalize hA : (⟨o, dx, t, g, s, q, 1 + ev0, 1 + wi0, xs⟩ : BA) = B at W0
      have hBo : B.o = o := by rw [← hA]
      have hBx : B.xs = xs := by rw [← hA]
      have okB : D.Ok B.ev B.wi := by rw [← hA]; exact ok
      have hBw : B.wi = 1 + wi0 := by rw [← hA]
      clear S I6 R hb2 hb3 hb4 ho t1 t2 t3 t4 s7 lt lg ls lc sz hA
      subst hBo hBx
      walk_at "el"
      refine ⟨by decide, by decide, ?_⟩
      refine lp_range (fun j σ H11 => WW K C b c H11 B p l D ∧ ∃ v7 v8 v9 v10 v11, σ = [some (.ref a), some (.ref b), some (.int (0 + i)), some (.int (1 + ev0)), some (.int (1 + wi0)), some (.ref p), some (.ref B.o), v7, v8, v9, v10, v11]) ⟨W0, _, _, _, _, _, rfl⟩ ?_ ?_
      · clear W0
        rintro j σ H11 hj ⟨W11, v7, v8, v9, v10, v11, rfl⟩
        walk_at "el"
        refine ⟨b, c, p, l, B.xs, D, 1 + ev0, 1 + wi0, 1 + ev0, rfl, W11.bag, W11.lp, ok, by omega, by omega, lT, lG, lS, lL, fun q H12 y1 y2 y3 hb12 k12 hq12 a1 a2 a3 => ?_⟩
        have W12 := W11.kp hb12 k12
        walk_at "el"
        refine ⟨b, c, q, y1, y2, y3, 1 + wi0, rfl, W12.bag, by omega, by omega, hq12, a1, a2, a3, fun x H13 nx hb13 k13 => ?_⟩
        have W13 := W12.kp hb13 k13
        clear W11 W12 hq12 a1 a2 a3
        obtain ⟨d, td, fd'⟩ := nx
        walk_at "el"
        refine ⟨x, d, rfl, td.tk, fd', ?_⟩
        walk_at "el"
        refine ⟨b, p, l, B.xs, D, 1 + ev0, 1 + wi0, x, d, rfl, W13.lp, ok, td.tk, fd'.bulk, fun H14 s14 => ?_⟩
        have W14 := W13.same s14
        have td14 := td.kp (same_kp s14)
        walk_at "el"
        refine ⟨by decide, by decide, ?_⟩
        refine lp_range (fun m σ H20 => WW K C b c H20 B p l D ∧ TkB b H20 x d ∧ ∃ v11, σ = [some (.ref a), some (.ref b), some (.int (0 + i)), some (.int (1 + ev0)), some (.int (1 + wi0)), some (.ref p), some (.ref B.o), some (.int (0 + j)), some x, some (.str d.shown), some (.bl (stepB D (1 + wi0) d)), v11]) ⟨W14, td14, _, rfl⟩ ?_ ?_
        · rintro m σ H20 hm ⟨W20, td20, v11, rfl⟩
          walk_at "el"
          refine ⟨B, D, x, d, rfl, W20.bb, okB, td20.tk, fd'.bulk, fun H21 s21 => ?_⟩
          rw [hBw]
          walk_at "el"
          refine ⟨stepB D (1 + wi0) d, stepB D (1 + wi0) d, rfl, ?_⟩
          rw [decide_eq_true rfl]
          have td21 := td20.kp (same_kp s21)
          walk_at "el"
          refine ⟨x, d, rfl, td21.tk, fd', ?_⟩
          walk_at "el"
          rw [decide_eq_true rfl]
          walk_at "el"
          exact ⟨W20.same s21, td21, _, rfl⟩
        · rintro σ H20 ⟨W20, td20, v11, rfl⟩
          walk_at "el"
          exact ⟨W20, _, _, _, _, _, rfl⟩
      · clear W0
        rintro σ H11 ⟨W11, v7, v8, v9, v10, v11, rfl⟩
        walk_at "el"
        refine ⟨by decide, fun z1 hz1 => ?_⟩
        have e1 := nw_of hz1 (.tup [])
        walk_at "el"
        refine ⟨by decide, fun z2 hz2 => ?_⟩
        have e2 := nw_of hz2 (.lst [])
        walk_at "el"
        refine ⟨by decide, fun z3 hz3 => ?_⟩
        have e3 := nw_of hz3 (.tup [])
        walk_at "el"
        refine ⟨by decide, fun z4 hz4 => ?_⟩
        have e4 := nw_of hz4 (.tup [])
        walk_at "el"
        refine ⟨by decide, fun z5 hz5 => ?_⟩
        have e5 := nw_of hz5 (.tup [])
        walk_at "el"
        refine ⟨by show 3 ≤ sizeLine; decide, fun z6 hz6 => ?_⟩
        have e6 := nw_of hz6 (.tup [.ref z3, .ref z4, .ref z5])
        walk_at "el"
        refine ⟨by show 2 ≤ sizeLine; decide, fun z7 hz7 => ?_⟩
        have e7 := nw_of hz7 (.tup [.int 0, .str "early"])
        walk_at "el"
        refine ⟨by show 2 ≤ sizeLine; decide, fun z8 hz8 => ?_⟩
        have e8 := nw_of hz8 (.tup [.str "clause", .int 0])
        walk_at "el"
        refine ⟨by show 2 ≤ sizeLine; decide, fun z9 hz9 => ?_⟩
        have e9 := nw_of hz9 (.tup [.int 0, .str "early"])
        walk_at "el"
        refine ⟨by show 3 ≤ sizeLine; decide, fun z10 hz10 => ?_⟩
        have e10 := nw_of hz10 (.tup [.ref z7, .ref z8, .ref z9])
        walk_at "el"
        refine ⟨by show 5 ≤ sizeLine; decide, fun z11 hz11 => ?_⟩
        have e11 := nw_of hz11 (.tup [.non, .ref z1, .ref z2, .ref z6, .ref z10])
        have g11 := upd_at hz11 (.tup [.non, .ref z1, .ref z2, .ref z6, .ref z10])
        have t11 : Same _ _ := e11
        have t10 : Same _ _ := fun a o h => t11 a o (e10 a o h)
        have t9 : Same _ _ := fun a o h => t10 a o (e9 a o h)
        have t8 : Same _ _ := fun a o h => t9 a o (e8 a o h)
        have t7 : Same _ _ := fun a o h => t8 a o (e7 a o h)
        have t6 : Same _ _ := fun a o h => t7 a o (e6 a o h)
        have t5 : Same _ _ := fun a o h => t6 a o (e5 a o h)
        have t4 : Same _ _ := fun a o h => t5 a o (e4 a o h)
        have t3 : Same _ _ := fun a o h => t4 a o (e3 a o h)
        have t2 : Same _ _ := fun a o h => t3 a o (e2 a o h)
        have t1 : Same H11 _ := fun a o h => t2 a o (e1 a o h)
        have g1 := t2 _ _ (upd_same (H := H11) (a := z1) (o := .tup []))
        have g2 := t3 _ _ (upd_same (a := z2) (o := .lst []))
        have g3 := t4 _ _ (upd_same (a := z3) (o := .tup []))
        have g4 := t5 _ _ (upd_same (a := z4) (o := .tup []))
        have g5 := t6 _ _ (upd_same (a := z5) (o := .tup []))
        have g6 := t7 _ _ (upd_same (a := z6) (o := .tup [.ref z3, .ref z4, .ref z5]))
        have g7 := t8 _ _ (upd_same (a := z7) (o := .tup [.int 0, .str "early"]))
        have g8 := t9 _ _ (upd_same (a := z8) (o := .tup [.str "clause", .int 0]))
        have g9 := t10 _ _ (upd_same (a := z9) (o := .tup [.int 0, .str "early"]))
        have g10 := t11 _ _ (upd_same (a := z10) (o := .tup [.ref z7, .ref z8, .ref z9]))
        have W12 := W11.same t1
        have fins : ∀ v ∈ [V.non, .ref z1, .ref z2, .ref z6, .ref z10], ∃ d, Tk _ v d ∧ d.bulk ≤ 300000 :=
          all_cons ⟨_, .non, by decide⟩ (all_cons ⟨_, .tup g1 .nil, by decide⟩ (all_cons ⟨_, .lst g2 .nil, by decide⟩ (all_cons ⟨_, .tup g6 (.cons (.tup g3 .nil) (.cons (.tup g4 .nil) (.cons (.tup g5 .nil) .nil))), by decide +kernel⟩ (all_cons ⟨_, .tup g10 (.cons (tk_lit g7) (.cons (.tup g8 (.cons (.str _) (.cons (.int _) .nil))) (.cons (tk_lit g9) .nil))), by decide +kernel⟩ all_nil))))
        refine ⟨z11, rfl, ⟨_, SqT.of upd_same⟩, ?_⟩
        generalize hZ : upd _ z11 (.tup [.non, .ref z1, .ref z2, .ref z6, .ref z10]) = H12 at W12 fins g11 ⊢
        refine lp_it walk_tup (fun i' σ H13 => Same H12 H13 ∧ ∃ v8, σ = [some (.ref a), some (.ref b), some (.int (0 + i)), some (.int (1 + ev0)), some (.int (1 + wi0)), some (.ref p), some (.ref B.o), v7, v8, v9, v10, v11]) ⟨Same.refl _, _, rfl⟩ (fun i' σ H13 hi' h => SqT.of (h.1 _ _ g11)) ?_ ?_
        · rintro i' x σ H13 H14 hi' ⟨s13, v8, rfl⟩ ⟨rfl, hx⟩
          obtain ⟨d, tk, hbu⟩ := fins x (List.mem_of_getElem? hx)
          walk_at "el"
          refine ⟨B, D, x, d, rfl, W12.bb.same s13, okB, tk.same s13, hbu, fun H15 s15 => ?_⟩
          rw [hBw]
          have s15' := s13.trans s15
          walk_at "el"
          refine ⟨b, p, l, B.xs, D, 1 + ev0, 1 + wi0, x, d, rfl, W12.lp.same s15', ok, tk.same s15', hbu, fun H16 s16 => ?_⟩
          walk_at "el"
          refine ⟨stepB D (1 + wi0) d, stepB D (1 + wi0) d, rfl, ?_⟩
          rw [decide_eq_true rfl]
          walk_at "el"
          exact ⟨s15'.trans s16, _, rfl⟩
        · rintro σ H13 ⟨s13, v8, rfl⟩
          walk_at "el"
          exact ⟨W12.bag.same s13, _, _, _, _, _, _, _, _, _, _, rfl⟩
    · rintro σ H2 ⟨hb2, v2, v3, v4, v5, v6, v7, v8, v9, v10, v11, rfl⟩
      walk_at "el"
      exact k _
end
end EL

/- part M25 -/
namespace EL
open PySem PySem.Spec PyProof.Rows L2
open PySem.W (Frag)
set_option maxHeartbeats 0 in
theorem all_mk {P : Program} {w : World} {K : Frag} {h : Heap} {mg : Str → Option Value} {fa : Addr} (X : K.In h) (G : h.Ns mainGlobals mg) (hfa : mg "law" = some (.ref fa))
    {f_is_integer : Addr} {od_is_integer an_is_integer : Option Addr} {sl_is_integer : Array (Option Value)} {oc_is_integer kV_is_integer dc_is_integer pm_is_integer cd_is_integer ct_is_integer : Value}
    {f_is_number : Addr} {od_is_number an_is_number : Option Addr} {sl_is_number : Array (Option Value)} {oc_is_number kV_is_number dc_is_number pm_is_number cd_is_number ct_is_number : Value}
    {f_is_kind : Addr} {od_is_kind an_is_kind : Option Addr} {sl_is_kind : Array (Option Value)} {oc_is_kind kV_is_kind dc_is_kind pm_is_kind cd_is_kind ct_is_kind : Value}
    {f_contrary : Addr} {od_contrary an_contrary : Option Addr} {sl_contrary : Array (Option Value)} {oc_contrary kV_contrary dc_contrary pm_contrary cd_contrary ct_contrary : Value}
    {f_is_tuple : Addr} {od_is_tuple an_is_tuple : Option Addr} {sl_is_tuple : Array (Option Value)} {oc_is_tuple kV_is_tuple dc_is_tuple pm_is_tuple cd_is_tuple ct_is_tuple : Value}
    {f_is_headed : Addr} {od_is_headed an_is_headed : Option Addr} {sl_is_headed : Array (Option Value)} {oc_is_headed kV_is_headed dc_is_headed pm_is_headed cd_is_headed ct_is_headed : Value}
    {f_is_below : Addr} {od_is_below an_is_below : Option Addr} {sl_is_below : Array (Option Value)} {oc_is_below kV_is_below dc_is_below pm_is_below cd_is_below ct_is_below : Value}
    {f_is_side : Addr} {od_is_side an_is_side : Option Addr} {sl_is_side : Array (Option Value)} {oc_is_side kV_is_side dc_is_side pm_is_side cd_is_side ct_is_side : Value}
    {f__can_stand : Addr} {od__can_stand an__can_stand : Option Addr} {sl__can_stand : Array (Option Value)} {oc__can_stand kV__can_stand dc__can_stand pm__can_stand cd__can_stand ct__can_stand : Value}
    {f_first_wrong : Addr} {od_first_wrong an_first_wrong : Option Addr} {sl_first_wrong : Array (Option Value)} {oc_first_wrong kV_first_wrong dc_first_wrong pm_first_wrong cd_first_wrong ct_first_wrong : Value}
    {f_is_item : Addr} {od_is_item an_is_item : Option Addr} {sl_is_item : Array (Option Value)} {oc_is_item kV_is_item dc_is_item pm_is_item cd_is_item ct_is_item : Value}
    {f__check_arguments : Addr} {od__check_arguments an__check_arguments : Option Addr} {sl__check_arguments : Array (Option Value)} {oc__check_arguments kV__check_arguments dc__check_arguments pm__check_arguments cd__check_arguments ct__check_arguments : Value}
    {f__check_items : Addr} {od__check_items an__check_items : Option Addr} {sl__check_items : Array (Option Value)} {oc__check_items kV__check_items dc__check_items pm__check_items cd__check_items ct__check_items : Value}
    {f_bag : Addr} {od_bag an_bag : Option Addr} {sl_bag : Array (Option Value)} {oc_bag kV_bag dc_bag pm_bag cd_bag ct_bag : Value}
    {f_take : Addr} {od_take an_take : Option Addr} {sl_take : Array (Option Value)} {oc_take kV_take dc_take pm_take cd_take ct_take : Value}
    {f_one : Addr} {od_one an_one : Option Addr} {sl_one : Array (Option Value)} {oc_one kV_one dc_one pm_one cd_one ct_one : Value}
    {f_number : Addr} {od_number an_number : Option Addr} {sl_number : Array (Option Value)} {oc_number kV_number dc_number pm_number cd_number ct_number : Value}
    {f_kind : Addr} {od_kind an_kind : Option Addr} {sl_kind : Array (Option Value)} {oc_kind kV_kind dc_kind pm_kind cd_kind ct_kind : Value}
    {f_parts : Addr} {od_parts an_parts : Option Addr} {sl_parts : Array (Option Value)} {oc_parts kV_parts dc_parts pm_parts cd_parts ct_parts : Value}
    {f_is_way : Addr} {od_is_way an_is_way : Option Addr} {sl_is_way : Array (Option Value)} {oc_is_way kV_is_way dc_is_way pm_is_way cd_is_way ct_is_way : Value}
    {f_yes : Addr} {od_yes an_yes : Option Addr} {sl_yes : Array (Option Value)} {oc_yes kV_yes dc_yes pm_yes cd_yes ct_yes : Value}
    {f_l_is_way : Addr} {od_l_is_way an_l_is_way : Option Addr} {sl_l_is_way : Array (Option Value)} {oc_l_is_way kV_l_is_way dc_l_is_way pm_l_is_way cd_l_is_way ct_l_is_way : Value}
    {f_walk : Addr} {od_walk an_walk : Option Addr} {sl_walk : Array (Option Value)} {oc_walk kV_walk dc_walk pm_walk cd_walk ct_walk : Value}
    {f_event_of : Addr} {od_event_of an_event_of : Option Addr} {sl_event_of : Array (Option Value)} {oc_event_of kV_event_of dc_event_of pm_event_of cd_event_of ct_event_of : Value}
    {f_number_of : Addr} {od_number_of an_number_of : Option Addr} {sl_number_of : Array (Option Value)} {oc_number_of kV_number_of dc_number_of pm_number_of cd_number_of ct_number_of : Value}
    {f_witness_of : Addr} {od_witness_of an_witness_of : Option Addr} {sl_witness_of : Array (Option Value)} {oc_witness_of kV_witness_of dc_witness_of pm_witness_of cd_witness_of ct_witness_of : Value}
    {f__is_source : Addr} {od__is_source an__is_source : Option Addr} {sl__is_source : Array (Option Value)} {oc__is_source kV__is_source dc__is_source pm__is_source cd__is_source ct__is_source : Value}
    {f_sum_of : Addr} {od_sum_of an_sum_of : Option Addr} {sl_sum_of : Array (Option Value)} {oc_sum_of kV_sum_of dc_sum_of pm_sum_of cd_sum_of ct_sum_of : Value}
    {f_excess_of : Addr} {od_excess_of an_excess_of : Option Addr} {sl_excess_of : Array (Option Value)} {oc_excess_of kV_excess_of dc_excess_of pm_excess_of cd_excess_of ct_excess_of : Value}
    {f_is_link : Addr} {od_is_link an_is_link : Option Addr} {sl_is_link : Array (Option Value)} {oc_is_link kV_is_link dc_is_link pm_is_link cd_is_link ct_is_link : Value}
    {f_item : Addr} {od_item an_item : Option Addr} {sl_item : Array (Option Value)} {oc_item kV_item dc_item pm_item cd_item ct_item : Value}
    {f_l_is_link : Addr} {od_l_is_link an_l_is_link : Option Addr} {sl_l_is_link : Array (Option Value)} {oc_l_is_link kV_l_is_link dc_l_is_link pm_l_is_link cd_l_is_link ct_l_is_link : Value}
    {f_sources : Addr} {od_sources an_sources : Option Addr} {sl_sources : Array (Option Value)} {oc_sources kV_sources dc_sources pm_sources cd_sources ct_sources : Value}
    {f_made : Addr} {od_made an_made : Option Addr} {sl_made : Array (Option Value)} {oc_made kV_made dc_made pm_made cd_made ct_made : Value}
    {f__is_literal : Addr} {od__is_literal an__is_literal : Option Addr} {sl__is_literal : Array (Option Value)} {oc__is_literal kV__is_literal dc__is_literal pm__is_literal cd__is_literal ct__is_literal : Value}
    {f__pairs_by_clause : Addr} {od__pairs_by_clause an__pairs_by_clause : Option Addr} {sl__pairs_by_clause : Array (Option Value)} {oc__pairs_by_clause kV__pairs_by_clause dc__pairs_by_clause pm__pairs_by_clause cd__pairs_by_clause ct__pairs_by_clause : Value}
    {f__pairs_by_link : Addr} {od__pairs_by_link an__pairs_by_link : Option Addr} {sl__pairs_by_link : Array (Option Value)} {oc__pairs_by_link kV__pairs_by_link dc__pairs_by_link pm__pairs_by_link cd__pairs_by_link ct__pairs_by_link : Value}
    {f_is_step : Addr} {od_is_step an_is_step : Option Addr} {sl_is_step : Array (Option Value)} {oc_is_step kV_is_step dc_is_step pm_is_step cd_is_step ct_is_step : Value}
    {f_l_contrary : Addr} {od_l_contrary an_l_contrary : Option Addr} {sl_l_contrary : Array (Option Value)} {oc_l_contrary kV_l_contrary dc_l_contrary pm_l_contrary cd_l_contrary ct_l_contrary : Value}
    {f_by_clause : Addr} {od_by_clause an_by_clause : Option Addr} {sl_by_clause : Array (Option Value)} {oc_by_clause kV_by_clause dc_by_clause pm_by_clause cd_by_clause ct_by_clause : Value}
    {f_is_literal : Addr} {od_is_literal an_is_literal : Option Addr} {sl_is_literal : Array (Option Value)} {oc_is_literal kV_is_literal dc_is_literal pm_is_literal cd_is_literal ct_is_literal : Value}
    {f_pairs : Addr} {od_pairs an_pairs : Option Addr} {sl_pairs : Array (Option Value)} {oc_pairs kV_pairs dc_pairs pm_pairs cd_pairs ct_pairs : Value}
    {f_l_is_step : Addr} {od_l_is_step an_l_is_step : Option Addr} {sl_l_is_step : Array (Option Value)} {oc_l_is_step kV_l_is_step dc_l_is_step pm_l_is_step cd_l_is_step ct_l_is_step : Value}
    {f_drawn : Addr} {od_drawn an_drawn : Option Addr} {sl_drawn : Array (Option Value)} {oc_drawn kV_drawn dc_drawn pm_drawn cd_drawn ct_drawn : Value}
    {f_bent : Addr} {od_bent an_bent : Option Addr} {sl_bent : Array (Option Value)} {oc_bent kV_bent dc_bent pm_bent cd_bent ct_bent : Value}
    {f_law : Addr} {od_law an_law : Option Addr} {sl_law : Array (Option Value)} {oc_law kV_law dc_law pm_law cd_law ct_law : Value}
    {tGN : Tok}
    {aForms aParts : Addr} {esF : Array DictEntry} {nF nP : Nat} {odP : Option Addr} {slP : Array (Option Value)} {p1 p2 p3 p4 : Tok}
    {a_tel : Addr} {n_tel : Nat} {od_tel : Option Addr} {sl_tel : Array (Option Value)} {t_tel0 t_tel1 t_tel2 : Tok}
    {a_gap : Addr} {n_gap : Nat} {od_gap : Option Addr} {sl_gap : Array (Option Value)} {t_gap0 t_gap1 t_gap2 : Tok}
    {a_sur : Addr} {n_sur : Nat} {od_sur : Option Addr} {sl_sur : Array (Option Value)} {t_sur0 t_sur1 t_sur2 : Tok}
    {a_cla : Addr} {n_cla : Nat} {od_cla : Option Addr} {sl_cla : Array (Option Value)} {t_cla0 t_cla1 t_cla2 t_cla3 : Tok}
    {tE tW tI : Tok}
    {C fI aT d1 d2 d3 d4 : Addr} {odI anI odT o1 o2 o3 o4 : Option Addr} {slI slT s1 s2 s3 s4 : Array (Option Value)} {ocI kVI dcI pmI cdI ctI ocT : Value} {nT n1 n2 n3 n4 : Nat}
    {q_events g_events : Addr} {odg_events ang_events : Option Addr} {slg_events : Array (Option Value)} {ocg_events kVg_events dcg_events pmg_events cdg_events ctg_events : Value} {rs_events : List Value}
    {q_witnesses g_witnesses : Addr} {odg_witnesses ang_witnesses : Option Addr} {slg_witnesses : Array (Option Value)} {ocg_witnesses kVg_witnesses dcg_witnesses pmg_witnesses cdg_witnesses ctg_witnesses : Value} {rs_witnesses : List Value}
    {q_tellings g_tellings : Addr} {odg_tellings ang_tellings : Option Addr} {slg_tellings : Array (Option Value)} {ocg_tellings kVg_tellings dcg_tellings pmg_tellings cdg_tellings ctg_tellings : Value} {rs_tellings : List Value}
    {q_gaps g_gaps : Addr} {odg_gaps ang_gaps : Option Addr} {slg_gaps : Array (Option Value)} {ocg_gaps kVg_gaps dcg_gaps pmg_gaps cdg_gaps ctg_gaps : Value} {rs_gaps : List Value}
    {q_sure g_sure : Addr} {odg_sure ang_sure : Option Addr} {slg_sure : Array (Option Value)} {ocg_sure kVg_sure dcg_sure pmg_sure cdg_sure ctg_sure : Value} {rs_sure : List Value}
    {q_clauses g_clauses : Addr} {odg_clauses ang_clauses : Option Addr} {slg_clauses : Array (Option Value)} {ocg_clauses kVg_clauses dcg_clauses pmg_clauses cdg_clauses ctg_clauses : Value} {rs_clauses : List Value}
    (a_is_integer : PySem.W.nsIn K mainGlobals "is_integer" = some (some (.ref f_is_integer)))
    (l_is_integer : K.lookup f_is_integer = some ⟨oc_is_integer, od_is_integer, .func (PySem.W.fnOf "is_integer" "is_integer" (defArgs s_is_integer) (defBody s_is_integer) (defScope s_is_integer) .none kV_is_integer dc_is_integer pm_is_integer an_is_integer cd_is_integer ct_is_integer), sl_is_integer⟩)
    (c_is_integer : PySem.W.codeIn K cd_is_integer "is_integer" = true)
    (k_is_integer : PySem.W.keepIn K (.ref f_is_integer) = true)
    (a_is_number : PySem.W.nsIn K mainGlobals "is_number" = some (some (.ref f_is_number)))
    (l_is_number : K.lookup f_is_number = some ⟨oc_is_number, od_is_number, .func (PySem.W.fnOf "is_number" "is_number" (defArgs s_is_number) (defBody s_is_number) (defScope s_is_number) .none kV_is_number dc_is_number pm_is_number an_is_number cd_is_number ct_is_number), sl_is_number⟩)
    (c_is_number : PySem.W.codeIn K cd_is_number "is_number" = true)
    (k_is_number : PySem.W.keepIn K (.ref f_is_number) = true)
    (a_is_kind : PySem.W.nsIn K mainGlobals "is_kind" = some (some (.ref f_is_kind)))
    (l_is_kind : K.lookup f_is_kind = some ⟨oc_is_kind, od_is_kind, .func (PySem.W.fnOf "is_kind" "is_kind" (defArgs s_is_kind) (defBody s_is_kind) (defScope s_is_kind) .none kV_is_kind dc_is_kind pm_is_kind an_is_kind cd_is_kind ct_is_kind), sl_is_kind⟩)
    (c_is_kind : PySem.W.codeIn K cd_is_kind "is_kind" = true)
    (k_is_kind : PySem.W.keepIn K (.ref f_is_kind) = true)
    (a_contrary : PySem.W.nsIn K mainGlobals "contrary" = some (some (.ref f_contrary)))
    (l_contrary : K.lookup f_contrary = some ⟨oc_contrary, od_contrary, .func (PySem.W.fnOf "contrary" "contrary" (defArgs s_contrary) (defBody s_contrary) (defScope s_contrary) .none kV_contrary dc_contrary pm_contrary an_contrary cd_contrary ct_contrary), sl_contrary⟩)
    (c_contrary : PySem.W.codeIn K cd_contrary "contrary" = true)
    (k_contrary : PySem.W.keepIn K (.ref f_contrary) = true)
    (a_is_tuple : PySem.W.nsIn K mainGlobals "is_tuple" = some (some (.ref f_is_tuple)))
    (l_is_tuple : K.lookup f_is_tuple = some ⟨oc_is_tuple, od_is_tuple, .func (PySem.W.fnOf "is_tuple" "is_tuple" (defArgs s_is_tuple) (defBody s_is_tuple) (defScope s_is_tuple) .none kV_is_tuple dc_is_tuple pm_is_tuple an_is_tuple cd_is_tuple ct_is_tuple), sl_is_tuple⟩)
    (c_is_tuple : PySem.W.codeIn K cd_is_tuple "is_tuple" = true)
    (k_is_tuple : PySem.W.keepIn K (.ref f_is_tuple) = true)
    (a_is_headed : PySem.W.nsIn K mainGlobals "is_headed" = some (some (.ref f_is_headed)))
    (l_is_headed : K.lookup f_is_headed = some ⟨oc_is_headed, od_is_headed, .func (PySem.W.fnOf "is_headed" "is_headed" (defArgs s_is_headed) (defBody s_is_headed) (defScope s_is_headed) .none kV_is_headed dc_is_headed pm_is_headed an_is_headed cd_is_headed ct_is_headed), sl_is_headed⟩)
    (c_is_headed : PySem.W.codeIn K cd_is_headed "is_headed" = true)
    (k_is_headed : PySem.W.keepIn K (.ref f_is_headed) = true)
    (a_is_below : PySem.W.nsIn K mainGlobals "is_below" = some (some (.ref f_is_below)))
    (l_is_below : K.lookup f_is_below = some ⟨oc_is_below, od_is_below, .func (PySem.W.fnOf "is_below" "is_below" (defArgs s_is_below) (defBody s_is_below) (defScope s_is_below) .none kV_is_below dc_is_below pm_is_below an_is_below cd_is_below ct_is_below), sl_is_below⟩)
    (c_is_below : PySem.W.codeIn K cd_is_below "is_below" = true)
    (k_is_below : PySem.W.keepIn K (.ref f_is_below) = true)
    (a_is_side : PySem.W.nsIn K mainGlobals "is_side" = some (some (.ref f_is_side)))
    (l_is_side : K.lookup f_is_side = some ⟨oc_is_side, od_is_side, .func (PySem.W.fnOf "is_side" "is_side" (defArgs s_is_side) (defBody s_is_side) (defScope s_is_side) .none kV_is_side dc_is_side pm_is_side an_is_side cd_is_side ct_is_side), sl_is_side⟩)
    (c_is_side : PySem.W.codeIn K cd_is_side "is_side" = true)
    (k_is_side : PySem.W.keepIn K (.ref f_is_side) = true)
    (a__can_stand : PySem.W.nsIn K mainGlobals "_can_stand" = some (some (.ref f__can_stand)))
    (l__can_stand : K.lookup f__can_stand = some ⟨oc__can_stand, od__can_stand, .func (PySem.W.fnOf "_can_stand" "_can_stand" (defArgs s__can_stand) (defBody s__can_stand) (defScope s__can_stand) .none kV__can_stand dc__can_stand pm__can_stand an__can_stand cd__can_stand ct__can_stand), sl__can_stand⟩)
    (c__can_stand : PySem.W.codeIn K cd__can_stand "_can_stand" = true)
    (k__can_stand : PySem.W.keepIn K (.ref f__can_stand) = true)
    (a_first_wrong : PySem.W.nsIn K mainGlobals "first_wrong" = some (some (.ref f_first_wrong)))
    (l_first_wrong : K.lookup f_first_wrong = some ⟨oc_first_wrong, od_first_wrong, .func (PySem.W.fnOf "first_wrong" "first_wrong" (defArgs s_first_wrong) (defBody s_first_wrong) (defScope s_first_wrong) .none kV_first_wrong dc_first_wrong pm_first_wrong an_first_wrong cd_first_wrong ct_first_wrong), sl_first_wrong⟩)
    (c_first_wrong : PySem.W.codeIn K cd_first_wrong "first_wrong" = true)
    (k_first_wrong : PySem.W.keepIn K (.ref f_first_wrong) = true)
    (a_is_item : PySem.W.nsIn K mainGlobals "is_item" = some (some (.ref f_is_item)))
    (l_is_item : K.lookup f_is_item = some ⟨oc_is_item, od_is_item, .func (PySem.W.fnOf "is_item" "is_item" (defArgs s_is_item) (defBody s_is_item) (defScope s_is_item) .none kV_is_item dc_is_item pm_is_item an_is_item cd_is_item ct_is_item), sl_is_item⟩)
    (c_is_item : PySem.W.codeIn K cd_is_item "is_item" = true)
    (k_is_item : PySem.W.keepIn K (.ref f_is_item) = true)
    (a__check_arguments : PySem.W.nsIn K mainGlobals "_check_arguments" = some (some (.ref f__check_arguments)))
    (l__check_arguments : K.lookup f__check_arguments = some ⟨oc__check_arguments, od__check_arguments, .func (PySem.W.fnOf "_check_arguments" "_check_arguments" (defArgs s__check_arguments) (defBody s__check_arguments) (defScope s__check_arguments) .none kV__check_arguments dc__check_arguments pm__check_arguments an__check_arguments cd__check_arguments ct__check_arguments), sl__check_arguments⟩)
    (c__check_arguments : PySem.W.codeIn K cd__check_arguments "_check_arguments" = true)
    (k__check_arguments : PySem.W.keepIn K (.ref f__check_arguments) = true)
    (a__check_items : PySem.W.nsIn K mainGlobals "_check_items" = some (some (.ref f__check_items)))
    (l__check_items : K.lookup f__check_items = some ⟨oc__check_items, od__check_items, .func (PySem.W.fnOf "_check_items" "_check_items" (defArgs s__check_items) (defBody s__check_items) (defScope s__check_items) .none kV__check_items dc__check_items pm__check_items an__check_items cd__check_items ct__check_items), sl__check_items⟩)
    (c__check_items : PySem.W.codeIn K cd__check_items "_check_items" = true)
    (k__check_items : PySem.W.keepIn K (.ref f__check_items) = true)
    (a_bag : PySem.W.nsIn K mainGlobals "_law_bag" = some (some (.ref f_bag)))
    (l_bag : K.lookup f_bag = some ⟨oc_bag, od_bag, .func (PySem.W.fnOf "_law_bag" "_law_bag" (defArgs s_bag) (defBody s_bag) (defScope s_bag) .none kV_bag dc_bag pm_bag an_bag cd_bag ct_bag), sl_bag⟩)
    (c_bag : PySem.W.codeIn K cd_bag "_law_bag" = true)
    (k_bag : PySem.W.keepIn K (.ref f_bag) = true)
    (a_take : PySem.W.nsIn K mainGlobals "_law_take" = some (some (.ref f_take)))
    (l_take : K.lookup f_take = some ⟨oc_take, od_take, .func (PySem.W.fnOf "_law_take" "_law_take" (defArgs s_take) (defBody s_take) (defScope s_take) .none kV_take dc_take pm_take an_take cd_take ct_take), sl_take⟩)
    (c_take : PySem.W.codeIn K cd_take "_law_take" = true)
    (k_take : PySem.W.keepIn K (.ref f_take) = true)
    (a_one : PySem.W.nsIn K mainGlobals "_law_one" = some (some (.ref f_one)))
    (l_one : K.lookup f_one = some ⟨oc_one, od_one, .func (PySem.W.fnOf "_law_one" "_law_one" (defArgs s_one) (defBody s_one) (defScope s_one) .none kV_one dc_one pm_one an_one cd_one ct_one), sl_one⟩)
    (c_one : PySem.W.codeIn K cd_one "_law_one" = true)
    (k_one : PySem.W.keepIn K (.ref f_one) = true)
    (a_number : PySem.W.nsIn K mainGlobals "_law_number" = some (some (.ref f_number)))
    (l_number : K.lookup f_number = some ⟨oc_number, od_number, .func (PySem.W.fnOf "_law_number" "_law_number" (defArgs s_number) (defBody s_number) (defScope s_number) .none kV_number dc_number pm_number an_number cd_number ct_number), sl_number⟩)
    (c_number : PySem.W.codeIn K cd_number "_law_number" = true)
    (k_number : PySem.W.keepIn K (.ref f_number) = true)
    (a_kind : PySem.W.nsIn K mainGlobals "_law_kind" = some (some (.ref f_kind)))
    (l_kind : K.lookup f_kind = some ⟨oc_kind, od_kind, .func (PySem.W.fnOf "_law_kind" "_law_kind" (defArgs s_kind) (defBody s_kind) (defScope s_kind) .none kV_kind dc_kind pm_kind an_kind cd_kind ct_kind), sl_kind⟩)
    (c_kind : PySem.W.codeIn K cd_kind "_law_kind" = true)
    (k_kind : PySem.W.keepIn K (.ref f_kind) = true)
    (a_parts : PySem.W.nsIn K mainGlobals "_law_parts" = some (some (.ref f_parts)))
    (l_parts : K.lookup f_parts = some ⟨oc_parts, od_parts, .func (PySem.W.fnOf "_law_parts" "_law_parts" (defArgs s_parts) (defBody s_parts) (defScope s_parts) .none kV_parts dc_parts pm_parts an_parts cd_parts ct_parts), sl_parts⟩)
    (c_parts : PySem.W.codeIn K cd_parts "_law_parts" = true)
    (k_parts : PySem.W.keepIn K (.ref f_parts) = true)
    (a_is_way : PySem.W.nsIn K mainGlobals "is_way" = some (some (.ref f_is_way)))
    (l_is_way : K.lookup f_is_way = some ⟨oc_is_way, od_is_way, .func (PySem.W.fnOf "is_way" "is_way" (defArgs s_is_way) (defBody s_is_way) (defScope s_is_way) .none kV_is_way dc_is_way pm_is_way an_is_way cd_is_way ct_is_way), sl_is_way⟩)
    (c_is_way : PySem.W.codeIn K cd_is_way "is_way" = true)
    (k_is_way : PySem.W.keepIn K (.ref f_is_way) = true)
    (a_yes : PySem.W.nsIn K mainGlobals "_law_yes" = some (some (.ref f_yes)))
    (l_yes : K.lookup f_yes = some ⟨oc_yes, od_yes, .func (PySem.W.fnOf "_law_yes" "_law_yes" (defArgs s_yes) (defBody s_yes) (defScope s_yes) .none kV_yes dc_yes pm_yes an_yes cd_yes ct_yes), sl_yes⟩)
    (c_yes : PySem.W.codeIn K cd_yes "_law_yes" = true)
    (k_yes : PySem.W.keepIn K (.ref f_yes) = true)
    (a_l_is_way : PySem.W.nsIn K mainGlobals "_law_is_way" = some (some (.ref f_l_is_way)))
    (l_l_is_way : K.lookup f_l_is_way = some ⟨oc_l_is_way, od_l_is_way, .func (PySem.W.fnOf "_law_is_way" "_law_is_way" (defArgs s_l_is_way) (defBody s_l_is_way) (defScope s_l_is_way) .none kV_l_is_way dc_l_is_way pm_l_is_way an_l_is_way cd_l_is_way ct_l_is_way), sl_l_is_way⟩)
    (c_l_is_way : PySem.W.codeIn K cd_l_is_way "_law_is_way" = true)
    (k_l_is_way : PySem.W.keepIn K (.ref f_l_is_way) = true)
    (a_walk : PySem.W.nsIn K mainGlobals "_law_walk" = some (some (.ref f_walk)))
    (l_walk : K.lookup f_walk = some ⟨oc_walk, od_walk, .func (PySem.W.fnOf "_law_walk" "_law_walk" (defArgs s_walk) (defBody s_walk) (defScope s_walk) .none kV_walk dc_walk pm_walk an_walk cd_walk ct_walk), sl_walk⟩)
    (c_walk : PySem.W.codeIn K cd_walk "_law_walk" = true)
    (k_walk : PySem.W.keepIn K (.ref f_walk) = true)
    (a_event_of : PySem.W.nsIn K mainGlobals "event_of" = some (some (.ref f_event_of)))
    (l_event_of : K.lookup f_event_of = some ⟨oc_event_of, od_event_of, .func (PySem.W.fnOf "event_of" "event_of" (defArgs s_event_of) (defBody s_event_of) (defScope s_event_of) .none kV_event_of dc_event_of pm_event_of an_event_of cd_event_of ct_event_of), sl_event_of⟩)
    (c_event_of : PySem.W.codeIn K cd_event_of "event_of" = true)
    (k_event_of : PySem.W.keepIn K (.ref f_event_of) = true)
    (a_number_of : PySem.W.nsIn K mainGlobals "number_of" = some (some (.ref f_number_of)))
    (l_number_of : K.lookup f_number_of = some ⟨oc_number_of, od_number_of, .func (PySem.W.fnOf "number_of" "number_of" (defArgs s_number_of) (defBody s_number_of) (defScope s_number_of) .none kV_number_of dc_number_of pm_number_of an_number_of cd_number_of ct_number_of), sl_number_of⟩)
    (c_number_of : PySem.W.codeIn K cd_number_of "number_of" = true)
    (k_number_of : PySem.W.keepIn K (.ref f_number_of) = true)
    (a_witness_of : PySem.W.nsIn K mainGlobals "witness_of" = some (some (.ref f_witness_of)))
    (l_witness_of : K.lookup f_witness_of = some ⟨oc_witness_of, od_witness_of, .func (PySem.W.fnOf "witness_of" "witness_of" (defArgs s_witness_of) (defBody s_witness_of) (defScope s_witness_of) .none kV_witness_of dc_witness_of pm_witness_of an_witness_of cd_witness_of ct_witness_of), sl_witness_of⟩)
    (c_witness_of : PySem.W.codeIn K cd_witness_of "witness_of" = true)
    (k_witness_of : PySem.W.keepIn K (.ref f_witness_of) = true)
    (a__is_source : PySem.W.nsIn K mainGlobals "_is_source" = some (some (.ref f__is_source)))
    (l__is_source : K.lookup f__is_source = some ⟨oc__is_source, od__is_source, .func (PySem.W.fnOf "_is_source" "_is_source" (defArgs s__is_source) (defBody s__is_source) (defScope s__is_source) .none kV__is_source dc__is_source pm__is_source an__is_source cd__is_source ct__is_source), sl__is_source⟩)
    (c__is_source : PySem.W.codeIn K cd__is_source "_is_source" = true)
    (k__is_source : PySem.W.keepIn K (.ref f__is_source) = true)
    (a_sum_of : PySem.W.nsIn K mainGlobals "sum_of" = some (some (.ref f_sum_of)))
    (l_sum_of : K.lookup f_sum_of = some ⟨oc_sum_of, od_sum_of, .func (PySem.W.fnOf "sum_of" "sum_of" (defArgs s_sum_of) (defBody s_sum_of) (defScope s_sum_of) .none kV_sum_of dc_sum_of pm_sum_of an_sum_of cd_sum_of ct_sum_of), sl_sum_of⟩)
    (c_sum_of : PySem.W.codeIn K cd_sum_of "sum_of" = true)
    (k_sum_of : PySem.W.keepIn K (.ref f_sum_of) = true)
    (a_excess_of : PySem.W.nsIn K mainGlobals "excess_of" = some (some (.ref f_excess_of)))
    (l_excess_of : K.lookup f_excess_of = some ⟨oc_excess_of, od_excess_of, .func (PySem.W.fnOf "excess_of" "excess_of" (defArgs s_excess_of) (defBody s_excess_of) (defScope s_excess_of) .none kV_excess_of dc_excess_of pm_excess_of an_excess_of cd_excess_of ct_excess_of), sl_excess_of⟩)
    (c_excess_of : PySem.W.codeIn K cd_excess_of "excess_of" = true)
    (k_excess_of : PySem.W.keepIn K (.ref f_excess_of) = true)
    (a_is_link : PySem.W.nsIn K mainGlobals "is_link" = some (some (.ref f_is_link)))
    (l_is_link : K.lookup f_is_link = some ⟨oc_is_link, od_is_link, .func (PySem.W.fnOf "is_link" "is_link" (defArgs s_is_link) (defBody s_is_link) (defScope s_is_link) .none kV_is_link dc_is_link pm_is_link an_is_link cd_is_link ct_is_link), sl_is_link⟩)
    (c_is_link : PySem.W.codeIn K cd_is_link "is_link" = true)
    (k_is_link : PySem.W.keepIn K (.ref f_is_link) = true)
    (a_item : PySem.W.nsIn K mainGlobals "_law_item" = some (some (.ref f_item)))
    (l_item : K.lookup f_item = some ⟨oc_item, od_item, .func (PySem.W.fnOf "_law_item" "_law_item" (defArgs s_item) (defBody s_item) (defScope s_item) .none kV_item dc_item pm_item an_item cd_item ct_item), sl_item⟩)
    (c_item : PySem.W.codeIn K cd_item "_law_item" = true)
    (k_item : PySem.W.keepIn K (.ref f_item) = true)
    (a_l_is_link : PySem.W.nsIn K mainGlobals "_law_is_link" = some (some (.ref f_l_is_link)))
    (l_l_is_link : K.lookup f_l_is_link = some ⟨oc_l_is_link, od_l_is_link, .func (PySem.W.fnOf "_law_is_link" "_law_is_link" (defArgs s_l_is_link) (defBody s_l_is_link) (defScope s_l_is_link) .none kV_l_is_link dc_l_is_link pm_l_is_link an_l_is_link cd_l_is_link ct_l_is_link), sl_l_is_link⟩)
    (c_l_is_link : PySem.W.codeIn K cd_l_is_link "_law_is_link" = true)
    (k_l_is_link : PySem.W.keepIn K (.ref f_l_is_link) = true)
    (a_sources : PySem.W.nsIn K mainGlobals "_law_sources" = some (some (.ref f_sources)))
    (l_sources : K.lookup f_sources = some ⟨oc_sources, od_sources, .func (PySem.W.fnOf "_law_sources" "_law_sources" (defArgs s_sources) (defBody s_sources) (defScope s_sources) .none kV_sources dc_sources pm_sources an_sources cd_sources ct_sources), sl_sources⟩)
    (c_sources : PySem.W.codeIn K cd_sources "_law_sources" = true)
    (k_sources : PySem.W.keepIn K (.ref f_sources) = true)
    (a_made : PySem.W.nsIn K mainGlobals "_law_made" = some (some (.ref f_made)))
    (l_made : K.lookup f_made = some ⟨oc_made, od_made, .func (PySem.W.fnOf "_law_made" "_law_made" (defArgs s_made) (defBody s_made) (defScope s_made) .none kV_made dc_made pm_made an_made cd_made ct_made), sl_made⟩)
    (c_made : PySem.W.codeIn K cd_made "_law_made" = true)
    (k_made : PySem.W.keepIn K (.ref f_made) = true)
    (a__is_literal : PySem.W.nsIn K mainGlobals "_is_literal" = some (some (.ref f__is_literal)))
    (l__is_literal : K.lookup f__is_literal = some ⟨oc__is_literal, od__is_literal, .func (PySem.W.fnOf "_is_literal" "_is_literal" (defArgs s__is_literal) (defBody s__is_literal) (defScope s__is_literal) .none kV__is_literal dc__is_literal pm__is_literal an__is_literal cd__is_literal ct__is_literal), sl__is_literal⟩)
    (c__is_literal : PySem.W.codeIn K cd__is_literal "_is_literal" = true)
    (k__is_literal : PySem.W.keepIn K (.ref f__is_literal) = true)
    (a__pairs_by_clause : PySem.W.nsIn K mainGlobals "_pairs_by_clause" = some (some (.ref f__pairs_by_clause)))
    (l__pairs_by_clause : K.lookup f__pairs_by_clause = some ⟨oc__pairs_by_clause, od__pairs_by_clause, .func (PySem.W.fnOf "_pairs_by_clause" "_pairs_by_clause" (defArgs s__pairs_by_clause) (defBody s__pairs_by_clause) (defScope s__pairs_by_clause) .none kV__pairs_by_clause dc__pairs_by_clause pm__pairs_by_clause an__pairs_by_clause cd__pairs_by_clause ct__pairs_by_clause), sl__pairs_by_clause⟩)
    (c__pairs_by_clause : PySem.W.codeIn K cd__pairs_by_clause "_pairs_by_clause" = true)
    (k__pairs_by_clause : PySem.W.keepIn K (.ref f__pairs_by_clause) = true)
    (a__pairs_by_link : PySem.W.nsIn K mainGlobals "_pairs_by_link" = some (some (.ref f__pairs_by_link)))
    (l__pairs_by_link : K.lookup f__pairs_by_link = some ⟨oc__pairs_by_link, od__pairs_by_link, .func (PySem.W.fnOf "_pairs_by_link" "_pairs_by_link" (defArgs s__pairs_by_link) (defBody s__pairs_by_link) (defScope s__pairs_by_link) .none kV__pairs_by_link dc__pairs_by_link pm__pairs_by_link an__pairs_by_link cd__pairs_by_link ct__pairs_by_link), sl__pairs_by_link⟩)
    (c__pairs_by_link : PySem.W.codeIn K cd__pairs_by_link "_pairs_by_link" = true)
    (k__pairs_by_link : PySem.W.keepIn K (.ref f__pairs_by_link) = true)
    (a_is_step : PySem.W.nsIn K mainGlobals "is_step" = some (some (.ref f_is_step)))
    (l_is_step : K.lookup f_is_step = some ⟨oc_is_step, od_is_step, .func (PySem.W.fnOf "is_step" "is_step" (defArgs s_is_step) (defBody s_is_step) (defScope s_is_step) .none kV_is_step dc_is_step pm_is_step an_is_step cd_is_step ct_is_step), sl_is_step⟩)
    (c_is_step : PySem.W.codeIn K cd_is_step "is_step" = true)
    (k_is_step : PySem.W.keepIn K (.ref f_is_step) = true)
    (a_l_contrary : PySem.W.nsIn K mainGlobals "_law_contrary" = some (some (.ref f_l_contrary)))
    (l_l_contrary : K.lookup f_l_contrary = some ⟨oc_l_contrary, od_l_contrary, .func (PySem.W.fnOf "_law_contrary" "_law_contrary" (defArgs s_l_contrary) (defBody s_l_contrary) (defScope s_l_contrary) .none kV_l_contrary dc_l_contrary pm_l_contrary an_l_contrary cd_l_contrary ct_l_contrary), sl_l_contrary⟩)
    (c_l_contrary : PySem.W.codeIn K cd_l_contrary "_law_contrary" = true)
    (k_l_contrary : PySem.W.keepIn K (.ref f_l_contrary) = true)
    (a_by_clause : PySem.W.nsIn K mainGlobals "_law_by_clause" = some (some (.ref f_by_clause)))
    (l_by_clause : K.lookup f_by_clause = some ⟨oc_by_clause, od_by_clause, .func (PySem.W.fnOf "_law_by_clause" "_law_by_clause" (defArgs s_by_clause) (defBody s_by_clause) (defScope s_by_clause) .none kV_by_clause dc_by_clause pm_by_clause an_by_clause cd_by_clause ct_by_clause), sl_by_clause⟩)
    (c_by_clause : PySem.W.codeIn K cd_by_clause "_law_by_clause" = true)
    (k_by_clause : PySem.W.keepIn K (.ref f_by_clause) = true)
    (a_is_literal : PySem.W.nsIn K mainGlobals "_law_is_literal" = some (some (.ref f_is_literal)))
    (l_is_literal : K.lookup f_is_literal = some ⟨oc_is_literal, od_is_literal, .func (PySem.W.fnOf "_law_is_literal" "_law_is_literal" (defArgs s_is_literal) (defBody s_is_literal) (defScope s_is_literal) .none kV_is_literal dc_is_literal pm_is_literal an_is_literal cd_is_literal ct_is_literal), sl_is_literal⟩)
    (c_is_literal : PySem.W.codeIn K cd_is_literal "_law_is_literal" = true)
    (k_is_literal : PySem.W.keepIn K (.ref f_is_literal) = true)
    (a_pairs : PySem.W.nsIn K mainGlobals "_law_pairs" = some (some (.ref f_pairs)))
    (l_pairs : K.lookup f_pairs = some ⟨oc_pairs, od_pairs, .func (PySem.W.fnOf "_law_pairs" "_law_pairs" (defArgs s_pairs) (defBody s_pairs) (defScope s_pairs) .none kV_pairs dc_pairs pm_pairs an_pairs cd_pairs ct_pairs), sl_pairs⟩)
    (c_pairs : PySem.W.codeIn K cd_pairs "_law_pairs" = true)
    (k_pairs : PySem.W.keepIn K (.ref f_pairs) = true)
    (a_l_is_step : PySem.W.nsIn K mainGlobals "_law_is_step" = some (some (.ref f_l_is_step)))
    (l_l_is_step : K.lookup f_l_is_step = some ⟨oc_l_is_step, od_l_is_step, .func (PySem.W.fnOf "_law_is_step" "_law_is_step" (defArgs s_l_is_step) (defBody s_l_is_step) (defScope s_l_is_step) .none kV_l_is_step dc_l_is_step pm_l_is_step an_l_is_step cd_l_is_step ct_l_is_step), sl_l_is_step⟩)
    (c_l_is_step : PySem.W.codeIn K cd_l_is_step "_law_is_step" = true)
    (k_l_is_step : PySem.W.keepIn K (.ref f_l_is_step) = true)
    (a_drawn : PySem.W.nsIn K mainGlobals "_law_drawn" = some (some (.ref f_drawn)))
    (l_drawn : K.lookup f_drawn = some ⟨oc_drawn, od_drawn, .func (PySem.W.fnOf "_law_drawn" "_law_drawn" (defArgs s_drawn) (defBody s_drawn) (defScope s_drawn) .none kV_drawn dc_drawn pm_drawn an_drawn cd_drawn ct_drawn), sl_drawn⟩)
    (c_drawn : PySem.W.codeIn K cd_drawn "_law_drawn" = true)
    (k_drawn : PySem.W.keepIn K (.ref f_drawn) = true)
    (a_bent : PySem.W.nsIn K mainGlobals "_law_bent" = some (some (.ref f_bent)))
    (l_bent : K.lookup f_bent = some ⟨oc_bent, od_bent, .func (PySem.W.fnOf "_law_bent" "_law_bent" (defArgs s_bent) (defBody s_bent) (defScope s_bent) .none kV_bent dc_bent pm_bent an_bent cd_bent ct_bent), sl_bent⟩)
    (c_bent : PySem.W.codeIn K cd_bent "_law_bent" = true)
    (k_bent : PySem.W.keepIn K (.ref f_bent) = true)
    (a_law : PySem.W.nsIn K mainGlobals "law" = some (some (.ref f_law)))
    (l_law : K.lookup f_law = some ⟨oc_law, od_law, .func (PySem.W.fnOf "law" "law" (defArgs s_law) (defBody s_law) (defScope s_law) .none kV_law dc_law pm_law an_law cd_law ct_law), sl_law⟩)
    (c_law : PySem.W.codeIn K cd_law "law" = true)
    (k_law : PySem.W.keepIn K (.ref f_law) = true)
    (z_len : PySem.W.nsIn K mainGlobals "len" = some none)
    (z_isinstance : PySem.W.nsIn K mainGlobals "isinstance" = some none)
    (z_int : PySem.W.nsIn K mainGlobals "int" = some none)
    (z_bool : PySem.W.nsIn K mainGlobals "bool" = some none)
    (z_str : PySem.W.nsIn K mainGlobals "str" = some none)
    (z_list : PySem.W.nsIn K mainGlobals "list" = some none)
    (z_tuple : PySem.W.nsIn K mainGlobals "tuple" = some none)
    (z_range : PySem.W.nsIn K mainGlobals "range" = some none)
    (z_enumerate : PySem.W.nsIn K mainGlobals "enumerate" = some none)
    (z_zip : PySem.W.nsIn K mainGlobals "zip" = some none)
    (z_abs : PySem.W.nsIn K mainGlobals "abs" = some none)
    (z_repr : PySem.W.nsIn K mainGlobals "repr" = some none)
    (z_min : PySem.W.nsIn K mainGlobals "min" = some none)
    (z_max : PySem.W.nsIn K mainGlobals "max" = some none)
    (z_sum : PySem.W.nsIn K mainGlobals "sum" = some none)
    (z_all : PySem.W.nsIn K mainGlobals "all" = some none)
    (gGN : PySem.W.nsIn K mainGlobals "GREATEST_NUMBER" = some (some (.int 1000000000000000 tGN)))
    (gForms : PySem.W.nsIn K mainGlobals "FORMS" = some (some (.ref aForms)))
    (lForms : K.lookup aForms = some { cls := .type "dict", data := .dict esF nF })
    (kForms : PySem.W.KeysLit w.params esF.toList)
    (ntel : PySem.W.nsIn K aForms "tellings" = some (some (.ref a_tel)))
    (ltel : K.lookup a_tel = some ⟨.type "tuple", od_tel, .seq #[.str "witness" t_tel0, .str "event" t_tel1, .str "number" t_tel2] n_tel, sl_tel⟩)
    (ngap : PySem.W.nsIn K aForms "gaps" = some (some (.ref a_gap)))
    (lgap : K.lookup a_gap = some ⟨.type "tuple", od_gap, .seq #[.str "event" t_gap0, .str "another event" t_gap1, .str "number" t_gap2] n_gap, sl_gap⟩)
    (nsur : PySem.W.nsIn K aForms "sure" = some (some (.ref a_sur)))
    (lsur : K.lookup a_sur = some ⟨.type "tuple", od_sur, .seq #[.str "event" t_sur0, .str "side" t_sur1, .str "number" t_sur2] n_sur, sl_sur⟩)
    (ncla : PySem.W.nsIn K aForms "clauses" = some (some (.ref a_cla)))
    (lcla : K.lookup a_cla = some ⟨.type "tuple", od_cla, .seq #[.str "witness" t_cla0, .str "kind" t_cla1, .str "witness" t_cla2, .str "kind" t_cla3] n_cla, sl_cla⟩)
    (gParts : PySem.W.nsIn K mainGlobals "PARTS" = some (some (.ref aParts)))
    (lParts : K.lookup aParts = some ⟨.type "tuple", odP, .seq #[.str "tellings" p1, .str "gaps" p2, .str "sure" p3, .str "clauses" p4] nP, slP⟩)
    (gtE : PySem.W.nsIn K mainGlobals "MOST_EVENTS" = some (some (.int 8 tE)))
    (gtW : PySem.W.nsIn K mainGlobals "MOST_WITNESSES" = some (some (.int 8 tW)))
    (gtI : PySem.W.nsIn K mainGlobals "MOST_ITEMS" = some (some (.int 24 tI)))
    (aC : PySem.W.nsIn K mainGlobals "Book" = some (some (.ref C)))
    (iC : PySem.W.findIn K (.ref C) "__init__" = some (some (.ref fI)))
    (fI_ : PySem.W.isFn K (.ref fI) = true)
    (lI : K.lookup fI = some ⟨ocI, odI, .func (PySem.W.fnOf "__init__" "Book.__init__" (defArgs s_Book_init) (defBody s_Book_init) (defScope s_Book_init) (.ref aT) kVI dcI pmI anI cdI ctI), slI⟩)
    (cI : PySem.W.codeIn K cdI "Book.__init__" = true)
    (kI : PySem.W.keepIn K (.ref fI) = true)
    (lT : K.lookup aT = some ⟨ocT, odT, .seq [.ref d1, .ref d2, .ref d3, .ref d4].toArray nT, slT⟩)
    (ld1 : K.lookup d1 = some ⟨.type "tuple", o1, .seq #[] n1, s1⟩)
    (ld2 : K.lookup d2 = some ⟨.type "tuple", o2, .seq #[] n2, s2⟩)
    (ld3 : K.lookup d3 = some ⟨.type "tuple", o3, .seq #[] n3, s3⟩)
    (ld4 : K.lookup d4 = some ⟨.type "tuple", o4, .seq #[] n4, s4⟩)
    (pg : PySem.W.plainGet K C Str.empty = true)
    (hd : PySem.W.hasDictIn K C = true)
    (po : PySem.W.plainOver K C = true)
    (sa : PySem.W.findIn K (.ref C) "__setattr__" = some (some (.builtin "object.__setattr__")))
    (mkC : PySem.W.makesIn K C = true)
    (kC : PySem.W.keepIn K (.ref C) = true)
    (nf0 : PySem.W.findIn K (.ref C) "_events" = some none)
    (nf1 : PySem.W.findIn K (.ref C) "_witnesses" = some none)
    (nf2 : PySem.W.findIn K (.ref C) "_tellings" = some none)
    (nf3 : PySem.W.findIn K (.ref C) "_gaps" = some none)
    (nf4 : PySem.W.findIn K (.ref C) "_sure" = some none)
    (nf5 : PySem.W.findIn K (.ref C) "_clauses" = some none)
    (oc1 : PySem.W.findIn K (.ref C) "__class__" = some (some (.builtin "object.__class__")))
    (oc2 : PySem.W.specialIn K (.builtin "object.__class__") "__get__" = some (some (.builtin "getset_descriptor.__get__")))
    (oc3 : PySem.W.takesIn K (.builtin "object.__class__") = some true)
    (oc4 : PySem.W.mroIn K C (.type "object") = some true)
    (kt0 : PySem.W.mroIn K C (.type "int") = some false)
    (kt1 : PySem.W.mroIn K C (.type "bool") = some false)
    (kt2 : PySem.W.mroIn K C (.type "str") = some false)
    (kt3 : PySem.W.mroIn K C (.type "tuple") = some false)
    (kt4 : PySem.W.mroIn K C (.type "list") = some false)
    (u1_events : PySem.W.findIn K (.ref C) "events" = some (some (.ref q_events)))
    (u2_events : PySem.W.specialIn K (.ref q_events) "__get__" = some (some (.builtin "property.__get__")))
    (u3_events : PySem.W.takesIn K (.ref q_events) = some true)
    (u4_events : PySem.W.recIn K q_events "property" = some (.ref g_events :: rs_events))
    (u5_events : K.lookup g_events = some ⟨ocg_events, odg_events, .func (PySem.W.fnOf "events" "Book.events" (defArgs s_Book_events) (defBody s_Book_events) (defScope s_Book_events) .none kVg_events dcg_events pmg_events ang_events cdg_events ctg_events), slg_events⟩)
    (u6_events : PySem.W.codeIn K cdg_events "Book.events" = true)
    (u7_events : PySem.W.keepIn K (.ref g_events) = true)
    (u1_witnesses : PySem.W.findIn K (.ref C) "witnesses" = some (some (.ref q_witnesses)))
    (u2_witnesses : PySem.W.specialIn K (.ref q_witnesses) "__get__" = some (some (.builtin "property.__get__")))
    (u3_witnesses : PySem.W.takesIn K (.ref q_witnesses) = some true)
    (u4_witnesses : PySem.W.recIn K q_witnesses "property" = some (.ref g_witnesses :: rs_witnesses))
    (u5_witnesses : K.lookup g_witnesses = some ⟨ocg_witnesses, odg_witnesses, .func (PySem.W.fnOf "witnesses" "Book.witnesses" (defArgs s_Book_witnesses) (defBody s_Book_witnesses) (defScope s_Book_witnesses) .none kVg_witnesses dcg_witnesses pmg_witnesses ang_witnesses cdg_witnesses ctg_witnesses), slg_witnesses⟩)
    (u6_witnesses : PySem.W.codeIn K cdg_witnesses "Book.witnesses" = true)
    (u7_witnesses : PySem.W.keepIn K (.ref g_witnesses) = true)
    (u1_tellings : PySem.W.findIn K (.ref C) "tellings" = some (some (.ref q_tellings)))
    (u2_tellings : PySem.W.specialIn K (.ref q_tellings) "__get__" = some (some (.builtin "property.__get__")))
    (u3_tellings : PySem.W.takesIn K (.ref q_tellings) = some true)
    (u4_tellings : PySem.W.recIn K q_tellings "property" = some (.ref g_tellings :: rs_tellings))
    (u5_tellings : K.lookup g_tellings = some ⟨ocg_tellings, odg_tellings, .func (PySem.W.fnOf "tellings" "Book.tellings" (defArgs s_Book_tellings) (defBody s_Book_tellings) (defScope s_Book_tellings) .none kVg_tellings dcg_tellings pmg_tellings ang_tellings cdg_tellings ctg_tellings), slg_tellings⟩)
    (u6_tellings : PySem.W.codeIn K cdg_tellings "Book.tellings" = true)
    (u7_tellings : PySem.W.keepIn K (.ref g_tellings) = true)
    (u1_gaps : PySem.W.findIn K (.ref C) "gaps" = some (some (.ref q_gaps)))
    (u2_gaps : PySem.W.specialIn K (.ref q_gaps) "__get__" = some (some (.builtin "property.__get__")))
    (u3_gaps : PySem.W.takesIn K (.ref q_gaps) = some true)
    (u4_gaps : PySem.W.recIn K q_gaps "property" = some (.ref g_gaps :: rs_gaps))
    (u5_gaps : K.lookup g_gaps = some ⟨ocg_gaps, odg_gaps, .func (PySem.W.fnOf "gaps" "Book.gaps" (defArgs s_Book_gaps) (defBody s_Book_gaps) (defScope s_Book_gaps) .none kVg_gaps dcg_gaps pmg_gaps ang_gaps cdg_gaps ctg_gaps), slg_gaps⟩)
    (u6_gaps : PySem.W.codeIn K cdg_gaps "Book.gaps" = true)
    (u7_gaps : PySem.W.keepIn K (.ref g_gaps) = true)
    (u1_sure : PySem.W.findIn K (.ref C) "sure" = some (some (.ref q_sure)))
    (u2_sure : PySem.W.specialIn K (.ref q_sure) "__get__" = some (some (.builtin "property.__get__")))
    (u3_sure : PySem.W.takesIn K (.ref q_sure) = some true)
    (u4_sure : PySem.W.recIn K q_sure "property" = some (.ref g_sure :: rs_sure))
    (u5_sure : K.lookup g_sure = some ⟨ocg_sure, odg_sure, .func (PySem.W.fnOf "sure" "Book.sure" (defArgs s_Book_sure) (defBody s_Book_sure) (defScope s_Book_sure) .none kVg_sure dcg_sure pmg_sure ang_sure cdg_sure ctg_sure), slg_sure⟩)
    (u6_sure : PySem.W.codeIn K cdg_sure "Book.sure" = true)
    (u7_sure : PySem.W.keepIn K (.ref g_sure) = true)
    (u1_clauses : PySem.W.findIn K (.ref C) "clauses" = some (some (.ref q_clauses)))
    (u2_clauses : PySem.W.specialIn K (.ref q_clauses) "__get__" = some (some (.builtin "property.__get__")))
    (u3_clauses : PySem.W.takesIn K (.ref q_clauses) = some true)
    (u4_clauses : PySem.W.recIn K q_clauses "property" = some (.ref g_clauses :: rs_clauses))
    (u5_clauses : K.lookup g_clauses = some ⟨ocg_clauses, odg_clauses, .func (PySem.W.fnOf "clauses" "Book.clauses" (defArgs s_Book_clauses) (defBody s_Book_clauses) (defScope s_Book_clauses) .none kVg_clauses dcg_clauses pmg_clauses ang_clauses cdg_clauses ctg_clauses), slg_clauses⟩)
    (u6_clauses : PySem.W.codeIn K cdg_clauses "Book.clauses" = true)
    (u7_clauses : PySem.W.keepIn K (.ref g_clauses) = true) :
    ∃ fd : FuncData, (∀ (s : Shared) (v : Value), BindsTo s fd ⟨[v], []⟩ [("_law_script", v)]) ∧ ∀ base : Heap, K.In base → base.Ns mainGlobals mg → FnG P w K mg base CX0 10 fa fd ["_law_script"] (spLaw K) := by
  have e := hfa.symm.trans (PySem.W.mg_of X G a_law)
  cases e
  have F_is_integer := fun_mk (st := s_is_integer) l_is_integer c_is_integer k_is_integer
  have b_is_integer := F_is_integer.binds (ps := ["thing"]) fun _ _ _ _ _ _ us hl => match us, hl with | [_], _ => rfl
  have F_is_number := fun_mk (st := s_is_number) l_is_number c_is_number k_is_number
  have b_is_number := F_is_number.binds (ps := ["thing"]) fun _ _ _ _ _ _ us hl => match us, hl with | [_], _ => rfl
  have F_is_kind := fun_mk (st := s_is_kind) l_is_kind c_is_kind k_is_kind
  have b_is_kind := F_is_kind.binds (ps := ["thing"]) fun _ _ _ _ _ _ us hl => match us, hl with | [_], _ => rfl
  have F_contrary := fun_mk (st := s_contrary) l_contrary c_contrary k_contrary
  have b_contrary := F_contrary.binds (ps := ["kind"]) fun _ _ _ _ _ _ us hl => match us, hl with | [_], _ => rfl
  have F_is_tuple := fun_mk (st := s_is_tuple) l_is_tuple c_is_tuple k_is_tuple
  have b_is_tuple := F_is_tuple.binds (ps := ["thing", "many"]) fun _ _ _ _ _ _ us hl => match us, hl with | [_, _], _ => rfl
  have F_is_headed := fun_mk (st := s_is_headed) l_is_headed c_is_headed k_is_headed
  have b_is_headed := F_is_headed.binds (ps := ["thing", "word"]) fun _ _ _ _ _ _ us hl => match us, hl with | [_, _], _ => rfl
  have F_is_below := fun_mk (st := s_is_below) l_is_below c_is_below k_is_below
  have b_is_below := F_is_below.binds (ps := ["thing", "many"]) fun _ _ _ _ _ _ us hl => match us, hl with | [_, _], _ => rfl
  have F_is_side := fun_mk (st := s_is_side) l_is_side c_is_side k_is_side
  have b_is_side := F_is_side.binds (ps := ["thing"]) fun _ _ _ _ _ _ us hl => match us, hl with | [_], _ => rfl
  have F__can_stand := fun_mk (st := s__can_stand) l__can_stand c__can_stand k__can_stand
  have b__can_stand := F__can_stand.binds (ps := ["word", "values", "place", "events", "witnesses"]) fun _ _ _ _ _ _ us hl => match us, hl with | [_, _, _, _, _], _ => rfl
  have F_first_wrong := fun_mk (st := s_first_wrong) l_first_wrong c_first_wrong k_first_wrong
  have b_first_wrong := F_first_wrong.binds (ps := ["part", "values", "events", "witnesses"]) fun _ _ _ _ _ _ us hl => match us, hl with | [_, _, _, _], _ => rfl
  have F_is_item := fun_mk (st := s_is_item) l_is_item c_is_item k_is_item
  have b_is_item := F_is_item.binds (ps := ["part", "thing", "events", "witnesses"]) fun _ _ _ _ _ _ us hl => match us, hl with | [_, _, _, _], _ => rfl
  have F__check_arguments := fun_mk (st := s__check_arguments) l__check_arguments c__check_arguments k__check_arguments
  have b__check_arguments := F__check_arguments.binds (ps := ["events", "witnesses", "parts"]) fun _ _ _ _ _ _ us hl => match us, hl with | [_, _, _], _ => rfl
  have F__check_items := fun_mk (st := s__check_items) l__check_items c__check_items k__check_items
  have b__check_items := F__check_items.binds (ps := ["place", "part", "items", "events", "witnesses"]) fun _ _ _ _ _ _ us hl => match us, hl with | [_, _, _, _, _], _ => rfl
  have F_bag := fun_mk (st := s_bag) l_bag c_bag k_bag
  have b_bag := F_bag.binds (ps := ["_law_script"]) fun _ _ _ _ _ _ us hl => match us, hl with | [_], _ => rfl
  have F_take := fun_mk (st := s_take) l_take c_take k_take
  have b_take := F_take.binds (ps := ["_law_bag_here", "_law_many"]) fun _ _ _ _ _ _ us hl => match us, hl with | [_, _], _ => rfl
  have F_one := fun_mk (st := s_one) l_one c_one k_one
  have b_one := F_one.binds (ps := ["_law_bag_here", "_law_menu"]) fun _ _ _ _ _ _ us hl => match us, hl with | [_, _], _ => rfl
  have F_number := fun_mk (st := s_number) l_number c_number k_number
  have b_number := F_number.binds (ps := ["_law_bag_here"]) fun _ _ _ _ _ _ us hl => match us, hl with | [_], _ => rfl
  have F_kind := fun_mk (st := s_kind) l_kind c_kind k_kind
  have b_kind := F_kind.binds (ps := ["_law_bag_here"]) fun _ _ _ _ _ _ us hl => match us, hl with | [_], _ => rfl
  have F_parts := fun_mk (st := s_parts) l_parts c_parts k_parts
  have b_parts := F_parts.binds (ps := ["_law_bag_here", "_law_events", "_law_witnesses", "_law_most"]) fun _ _ _ _ _ _ us hl => match us, hl with | [_, _, _, _], _ => rfl
  have F_is_way := fun_mk (st := s_is_way) l_is_way c_is_way k_is_way
  have b_is_way := F_is_way.binds (ps := ["book", "a", "b", "thing"]) fun _ _ _ _ _ _ us hl => match us, hl with | [_, _, _, _], _ => rfl
  have F_yes := fun_mk (st := s_yes) l_yes c_yes k_yes
  have b_yes := F_yes.binds (ps := ["_law_told", "_law_due"]) fun _ _ _ _ _ _ us hl => match us, hl with | [_, _], _ => rfl
  have F_l_is_way := fun_mk (st := s_l_is_way) l_l_is_way c_l_is_way k_l_is_way
  have b_l_is_way := F_l_is_way.binds (ps := ["_law_gaps", "_law_a", "_law_b", "_law_thing"]) fun _ _ _ _ _ _ us hl => match us, hl with | [_, _, _, _], _ => rfl
  have F_walk := fun_mk (st := s_walk) l_walk c_walk k_walk
  have b_walk := F_walk.binds (ps := ["_law_bag_here", "_law_gaps", "_law_a", "_law_many"]) fun _ _ _ _ _ _ us hl => match us, hl with | [_, _, _, _], _ => rfl
  have F_event_of := fun_mk (st := s_event_of) l_event_of c_event_of k_event_of
  have b_event_of := F_event_of.binds (ps := ["book", "source"]) fun _ _ _ _ _ _ us hl => match us, hl with | [_, _], _ => rfl
  have F_number_of := fun_mk (st := s_number_of) l_number_of c_number_of k_number_of
  have b_number_of := F_number_of.binds (ps := ["book", "source"]) fun _ _ _ _ _ _ us hl => match us, hl with | [_, _], _ => rfl
  have F_witness_of := fun_mk (st := s_witness_of) l_witness_of c_witness_of k_witness_of
  have b_witness_of := F_witness_of.binds (ps := ["book", "source"]) fun _ _ _ _ _ _ us hl => match us, hl with | [_, _], _ => rfl
  have F__is_source := fun_mk (st := s__is_source) l__is_source c__is_source k__is_source
  have b__is_source := F__is_source.binds (ps := ["book", "side", "thing"]) fun _ _ _ _ _ _ us hl => match us, hl with | [_, _, _], _ => rfl
  have F_sum_of := fun_mk (st := s_sum_of) l_sum_of c_sum_of k_sum_of
  have b_sum_of := F_sum_of.binds (ps := ["book", "indexes"]) fun _ _ _ _ _ _ us hl => match us, hl with | [_, _], _ => rfl
  have F_excess_of := fun_mk (st := s_excess_of) l_excess_of c_excess_of k_excess_of
  have b_excess_of := F_excess_of.binds (ps := ["book", "path"]) fun _ _ _ _ _ _ us hl => match us, hl with | [_, _], _ => rfl
  have F_is_link := fun_mk (st := s_is_link) l_is_link c_is_link k_is_link
  have b_is_link := F_is_link.binds (ps := ["book", "thing"]) fun _ _ _ _ _ _ us hl => match us, hl with | [_, _], _ => rfl
  have F_item := fun_mk (st := s_item) l_item c_item k_item
  have b_item := F_item.binds (ps := ["_law_parts_here", "_law_thing"]) fun _ _ _ _ _ _ us hl => match us, hl with | [_, _], _ => rfl
  have F_l_is_link := fun_mk (st := s_l_is_link) l_l_is_link c_l_is_link k_l_is_link
  have b_l_is_link := F_l_is_link.binds (ps := ["_law_parts_here", "_law_thing"]) fun _ _ _ _ _ _ us hl => match us, hl with | [_, _], _ => rfl
  have F_sources := fun_mk (st := s_sources) l_sources c_sources k_sources
  have b_sources := F_sources.binds (ps := ["_law_parts_here"]) fun _ _ _ _ _ _ us hl => match us, hl with | [_], _ => rfl
  have F_made := fun_mk (st := s_made) l_made c_made k_made
  have b_made := F_made.binds (ps := ["_law_events", "_law_witnesses", "_law_parts_here"]) fun _ _ _ _ _ _ us hl => match us, hl with | [_, _, _], _ => rfl
  have F__is_literal := fun_mk (st := s__is_literal) l__is_literal c__is_literal k__is_literal
  have b__is_literal := F__is_literal.binds (ps := ["book", "thing"]) fun _ _ _ _ _ _ us hl => match us, hl with | [_, _], _ => rfl
  have F__pairs_by_clause := fun_mk (st := s__pairs_by_clause) l__pairs_by_clause c__pairs_by_clause k__pairs_by_clause
  have b__pairs_by_clause := F__pairs_by_clause.binds (ps := ["clause"]) fun _ _ _ _ _ _ us hl => match us, hl with | [_], _ => rfl
  have F__pairs_by_link := fun_mk (st := s__pairs_by_link) l__pairs_by_link c__pairs_by_link k__pairs_by_link
  have b__pairs_by_link := F__pairs_by_link.binds (ps := ["book", "link"]) fun _ _ _ _ _ _ us hl => match us, hl with | [_, _], _ => rfl
  have F_is_step := fun_mk (st := s_is_step) l_is_step c_is_step k_is_step
  have b_is_step := F_is_step.binds (ps := ["book", "thing"]) fun _ _ _ _ _ _ us hl => match us, hl with | [_, _], _ => rfl
  have F_l_contrary := fun_mk (st := s_l_contrary) l_l_contrary c_l_contrary k_l_contrary
  have b_l_contrary := F_l_contrary.binds (ps := ["_law_literal"]) fun _ _ _ _ _ _ us hl => match us, hl with | [_], _ => rfl
  have F_by_clause := fun_mk (st := s_by_clause) l_by_clause c_by_clause k_by_clause
  have b_by_clause := F_by_clause.binds (ps := ["_law_item_here"]) fun _ _ _ _ _ _ us hl => match us, hl with | [_], _ => rfl
  have F_is_literal := fun_mk (st := s_is_literal) l_is_literal c_is_literal k_is_literal
  have b_is_literal := F_is_literal.binds (ps := ["_law_witnesses", "_law_thing"]) fun _ _ _ _ _ _ us hl => match us, hl with | [_, _], _ => rfl
  have F_pairs := fun_mk (st := s_pairs) l_pairs c_pairs k_pairs
  have b_pairs := F_pairs.binds (ps := ["_law_parts_here", "_law_thing"]) fun _ _ _ _ _ _ us hl => match us, hl with | [_, _], _ => rfl
  have F_l_is_step := fun_mk (st := s_l_is_step) l_l_is_step c_l_is_step k_l_is_step
  have b_l_is_step := F_l_is_step.binds (ps := ["_law_witnesses", "_law_parts_here", "_law_thing"]) fun _ _ _ _ _ _ us hl => match us, hl with | [_, _, _], _ => rfl
  have F_drawn := fun_mk (st := s_drawn) l_drawn c_drawn k_drawn
  have b_drawn := F_drawn.binds (ps := ["_law_bag_here", "_law_events", "_law_witnesses", "_law_parts_here"]) fun _ _ _ _ _ _ us hl => match us, hl with | [_, _, _, _], _ => rfl
  have F_bent := fun_mk (st := s_bent) l_bent c_bent k_bent
  have b_bent := F_bent.binds (ps := ["_law_bag_here", "_law_thing", "_law_witnesses"]) fun _ _ _ _ _ _ us hl => match us, hl with | [_, _, _], _ => rfl
  have F_law := fun_mk (st := s_law) l_law c_law k_law
  have b_law := F_law.binds (ps := ["_law_script"]) fun _ _ _ _ _ _ us hl => match us, hl with | [_], _ => rfl
  have B : Bi mg := ⟨PySem.W.mg_none_of X G z_len, PySem.W.mg_none_of X G z_isinstance, PySem.W.mg_none_of X G z_int, PySem.W.mg_none_of X G z_bool, PySem.W.mg_none_of X G z_str, PySem.W.mg_none_of X G z_list, PySem.W.mg_none_of X G z_tuple, PySem.W.mg_none_of X G z_range, PySem.W.mg_none_of X G z_enumerate, PySem.W.mg_none_of X G z_zip, PySem.W.mg_none_of X G z_abs, PySem.W.mg_none_of X G z_repr, PySem.W.mg_none_of X G z_min, PySem.W.mg_none_of X G z_max, PySem.W.mg_none_of X G z_sum, PySem.W.mg_none_of X G z_all⟩
  have Tl : Tb mg := ⟨B⟩
  have Tw : Wo K mg := ⟨B, ⟨_, PySem.W.mg_of X G gGN, ⟨_, rfl⟩⟩⟩
  have Ti : It4 K w mg aForms aParts := ⟨B, PySem.W.mg_of X G gForms, PySem.W.mg_of X G gParts, fun p => match p with
    | .tel => ⟨a_tel, ⟨_, _, _, lForms, kForms, ntel, rfl⟩, fun H => .inr ⟨_, _, _, ltel, rfl, rfl, by show 3 ≤ sizeLine; decide, .cons ⟨_, rfl⟩ (.cons ⟨_, rfl⟩ (.cons ⟨_, rfl⟩ (.nil)))⟩⟩
    | .gap => ⟨a_gap, ⟨_, _, _, lForms, kForms, ngap, rfl⟩, fun H => .inr ⟨_, _, _, lgap, rfl, rfl, by show 3 ≤ sizeLine; decide, .cons ⟨_, rfl⟩ (.cons ⟨_, rfl⟩ (.cons ⟨_, rfl⟩ (.nil)))⟩⟩
    | .sur => ⟨a_sur, ⟨_, _, _, lForms, kForms, nsur, rfl⟩, fun H => .inr ⟨_, _, _, lsur, rfl, rfl, by show 3 ≤ sizeLine; decide, .cons ⟨_, rfl⟩ (.cons ⟨_, rfl⟩ (.cons ⟨_, rfl⟩ (.nil)))⟩⟩
    | .cla => ⟨a_cla, ⟨_, _, _, lForms, kForms, ncla, rfl⟩, fun H => .inr ⟨_, _, _, lcla, rfl, rfl, by show 4 ≤ sizeLine; decide, .cons ⟨_, rfl⟩ (.cons ⟨_, rfl⟩ (.cons ⟨_, rfl⟩ (.cons ⟨_, rfl⟩ (.nil))))⟩⟩,
    fun H => .inr ⟨_, _, _, lParts, rfl, rfl, by show 4 ≤ sizeLine; decide, .cons ⟨_, rfl⟩ (.cons ⟨_, rfl⟩ (.cons ⟨_, rfl⟩ (.cons ⟨_, rfl⟩ .nil)))⟩⟩
  have Tbo : BoT K w mg aForms aParts := { toIt4 := Ti, toBo := ⟨⟨_, PySem.W.mg_of X G gtE, ⟨_, rfl⟩⟩, ⟨_, PySem.W.mg_of X G gtW, ⟨_, rfl⟩⟩, ⟨_, PySem.W.mg_of X G gtI, ⟨_, rfl⟩⟩⟩ }
  have Bk : BkC K C := ⟨⟨⟨pg, hd, po, sa⟩, oc1, oc2, oc3, oc4, own_kit rfl kt0, own_kit rfl kt1, own_kit rfl kt2, own_kit rfl kt3, own_kit rfl kt4⟩, nf0, nf1, nf2, nf3, nf4, nf5⟩
  have F_init : FunD K "__init__" "Book.__init__" (defArgs s_Book_init) (defBody s_Book_init) (defScope s_Book_init) [.ref d1, .ref d2, .ref d3, .ref d4] [] fI _ := ⟨⟨_, _, _, _, _, _, _, _, _, _, rfl, lI, cI, .inr ⟨(fun z => nomatch z), _, _, _, _, rfl, lT, rfl, .cons rfl (.cons rfl (.cons rfl (.cons rfl .nil)))⟩, .inl rfl⟩, kI⟩
  obtain ⟨ds, v2, b2⟩ := F_init.binds1 (ps := psBook) 3 0 (fun z => nomatch z) rfl fun T kV doc pm an cdv ct us its h1 h2 => match us, its, h1, h2 with | [_, _, _], [_, _, _, _], _, _ => ⟨_, rfl, rfl⟩
  obtain ⟨ds4, v4, b4⟩ := F_init.binds1 (ps := psBook) 5 2 (fun z => nomatch z) rfl fun T kV doc pm an cdv ct us its h1 h2 => match us, its, h1, h2 with | [_, _, _, _, _], [_, _, _, _], _, _ => ⟨_, rfl, rfl⟩
  obtain ⟨ds3, v3, b3⟩ := F_init.binds1 (ps := psBook) 4 1 (fun z => nomatch z) rfl fun T kV doc pm an cdv ct us its h1 h2 => match us, its, h1, h2 with | [_, _, _, _], [_, _, _, _], _, _ => ⟨_, rfl, rfl⟩
  obtain ⟨ds0, v0, b0⟩ := F_init.binds1 (ps := psBook) 7 4 (fun z => nomatch z) rfl fun T kV doc pm an cdv ct us its h1 h2 => match us, its, h1, h2 with | [_, _, _, _, _, _, _], [_, _, _, _], _, _ => ⟨_, rfl, rfl⟩
  have e0 : ds0 = [] := by cases v0; rfl
  subst e0
  have F_g_events := fun_mk (st := s_Book_events) u5_events u6_events u7_events
  have b_g_events := F_g_events.binds (ps := ["self"]) fun _ _ _ _ _ _ us hl => match us, hl with | [_], _ => rfl
  have F_g_witnesses := fun_mk (st := s_Book_witnesses) u5_witnesses u6_witnesses u7_witnesses
  have b_g_witnesses := F_g_witnesses.binds (ps := ["self"]) fun _ _ _ _ _ _ us hl => match us, hl with | [_], _ => rfl
  have F_g_tellings := fun_mk (st := s_Book_tellings) u5_tellings u6_tellings u7_tellings
  have b_g_tellings := F_g_tellings.binds (ps := ["self"]) fun _ _ _ _ _ _ us hl => match us, hl with | [_], _ => rfl
  have F_g_gaps := fun_mk (st := s_Book_gaps) u5_gaps u6_gaps u7_gaps
  have b_g_gaps := F_g_gaps.binds (ps := ["self"]) fun _ _ _ _ _ _ us hl => match us, hl with | [_], _ => rfl
  have F_g_sure := fun_mk (st := s_Book_sure) u5_sure u6_sure u7_sure
  have b_g_sure := F_g_sure.binds (ps := ["self"]) fun _ _ _ _ _ _ us hl => match us, hl with | [_], _ => rfl
  have F_g_clauses := fun_mk (st := s_Book_clauses) u5_clauses u6_clauses u7_clauses
  have b_g_clauses := F_g_clauses.binds (ps := ["self"]) fun _ _ _ _ _ _ us hl => match us, hl with | [_], _ => rfl
  refine ⟨PySem.W.fnOf "law" "law" (defArgs s_law) (defBody s_law) (defScope s_law) .none kV_law dc_law pm_law an_law cd_law ct_law, fun s v => .of_eq rfl, fun base _ _ => ?_⟩
  have p_events : PrpG P w K mg base C "events" "_events" := ⟨⟨_, _, _, ⟨u1_events, u2_events, u3_events, ⟨_, u4_events⟩⟩, ok_get_events F_g_events Bk, b_g_events⟩, Bk.own.cl⟩
  have p_witnesses : PrpG P w K mg base C "witnesses" "_witnesses" := ⟨⟨_, _, _, ⟨u1_witnesses, u2_witnesses, u3_witnesses, ⟨_, u4_witnesses⟩⟩, ok_get_witnesses F_g_witnesses Bk, b_g_witnesses⟩, Bk.own.cl⟩
  have p_tellings : PrpG P w K mg base C "tellings" "_tellings" := ⟨⟨_, _, _, ⟨u1_tellings, u2_tellings, u3_tellings, ⟨_, u4_tellings⟩⟩, ok_get_tellings F_g_tellings Bk, b_g_tellings⟩, Bk.own.cl⟩
  have p_gaps : PrpG P w K mg base C "gaps" "_gaps" := ⟨⟨_, _, _, ⟨u1_gaps, u2_gaps, u3_gaps, ⟨_, u4_gaps⟩⟩, ok_get_gaps F_g_gaps Bk, b_g_gaps⟩, Bk.own.cl⟩
  have p_sure : PrpG P w K mg base C "sure" "_sure" := ⟨⟨_, _, _, ⟨u1_sure, u2_sure, u3_sure, ⟨_, u4_sure⟩⟩, ok_get_sure F_g_sure Bk, b_g_sure⟩, Bk.own.cl⟩
  have p_clauses : PrpG P w K mg base C "clauses" "_clauses" := ⟨⟨_, _, _, ⟨u1_clauses, u2_clauses, u3_clauses, ⟨_, u4_clauses⟩⟩, ok_get_clauses F_g_clauses Bk, b_g_clauses⟩, Bk.own.cl⟩
  have h_is_integer : Cal P w K mg base CX0 1 "is_integer" ["thing"] (spB intB K) := ⟨_, _, PySem.W.mg_of X G a_is_integer, k_is_integer, b_is_integer, ok_is_integer F_is_integer Tw⟩
  have h_is_number : Cal P w K mg base CX0 2 "is_number" ["thing"] (spB numB K) := ⟨_, _, PySem.W.mg_of X G a_is_number, k_is_number, b_is_number, ok_is_number F_is_number Tw h_is_integer⟩
  have h_is_kind : Cal P w K mg base CX0 1 "is_kind" ["thing"] (spB kindB K) := ⟨_, _, PySem.W.mg_of X G a_is_kind, k_is_kind, b_is_kind, ok_is_kind F_is_kind Tw⟩
  have h_contrary : Cal P w K mg base CX0 1 "contrary" ["kind"] (fun vs H Q _ => ∃ s, vs = [.str s] ∧ Q (.str (otherK s)) H) := ⟨_, _, PySem.W.mg_of X G a_contrary, k_contrary, b_contrary, ok_contrary F_contrary⟩
  have h_is_tuple : Cal P w K mg base CX0 1 "is_tuple" ["thing", "many"] (spTu K) := ⟨_, _, PySem.W.mg_of X G a_is_tuple, k_is_tuple, b_is_tuple, ok_is_tuple F_is_tuple Tw⟩
  have h_is_headed : Cal P w K mg base CX0 2 "is_headed" ["thing", "word"] (spHd K) := ⟨_, _, PySem.W.mg_of X G a_is_headed, k_is_headed, b_is_headed, ok_is_headed F_is_headed Tw h_is_tuple⟩
  have h_is_below : Cal P w K mg base CX0 2 "is_below" ["thing", "many"] (spBelow K) := ⟨_, _, PySem.W.mg_of X G a_is_below, k_is_below, b_is_below, ok_is_below F_is_below h_is_integer⟩
  have h_is_side : Cal P w K mg base CX0 1 "is_side" ["thing"] (spB sideB K) := ⟨_, _, PySem.W.mg_of X G a_is_side, k_is_side, b_is_side, ok_is_side F_is_side Tbo.toIt4⟩
  have h__can_stand : Cal P w K mg base CX0 3 "_can_stand" ["word", "values", "place", "events", "witnesses"] (spCan K) := ⟨_, _, PySem.W.mg_of X G a__can_stand, k__can_stand, b__can_stand, ok_can_stand F__can_stand h_is_below h_is_side h_is_kind h_is_number⟩
  have h_first_wrong : Cal P w K mg base CX0 4 "first_wrong" ["part", "values", "events", "witnesses"] (spFw K) := ⟨_, _, PySem.W.mg_of X G a_first_wrong, k_first_wrong, b_first_wrong, ok_first_wrong F_first_wrong Tbo.toIt4 h__can_stand⟩
  have h_is_item : Cal P w K mg base CX0 5 "is_item" ["part", "thing", "events", "witnesses"] (spItem K) := ⟨_, _, PySem.W.mg_of X G a_is_item, k_is_item, b_is_item, ok_is_item F_is_item Tbo.toIt4 h_is_tuple h_first_wrong⟩
  have h__check_arguments : Cal P w K mg base CX0 3 "_check_arguments" ["events", "witnesses", "parts"] (spCa K) := ⟨_, _, PySem.W.mg_of X G a__check_arguments, k__check_arguments, b__check_arguments, ok_check_arguments F__check_arguments Tbo h_is_below⟩
  have h__check_items : Cal P w K mg base CX0 6 "_check_items" ["place", "part", "items", "events", "witnesses"] (spCi K) := ⟨_, _, PySem.W.mg_of X G a__check_items, k__check_items, b__check_items, ok_check_items F__check_items Tbo h_is_item⟩
  have c_Book : BookG P w K mg base C ⟨fI, _, d1, d2, d3, d4, ds, ds4, ds3⟩ := ⟨⟨mkC, iC, fI_, kC⟩, ok_init F_init Tbo Bk h__check_arguments h__check_items, b0, v2, b2, v4, b4, v3, b3, fun H => ⟨.inr ⟨_, _, _, ld1, rfl, rfl, by show 0 ≤ sizeLine; decide, .nil⟩, .inr ⟨_, _, _, ld2, rfl, rfl, by show 0 ≤ sizeLine; decide, .nil⟩, .inr ⟨_, _, _, ld3, rfl, rfl, by show 0 ≤ sizeLine; decide, .nil⟩, .inr ⟨_, _, _, ld4, rfl, rfl, by show 0 ≤ sizeLine; decide, .nil⟩⟩, PySem.W.mg_of X G aC, Bk⟩
  have h_bag : Cal P w K mg base CX0 1 "_law_bag" ["_law_script"] (spBag K) := ⟨_, _, PySem.W.mg_of X G a_bag, k_bag, b_bag, ok_bag F_bag Tl⟩
  have h_take : Cal P w K mg base CX0 1 "_law_take" ["_law_bag_here", "_law_many"] spTake := ⟨_, _, PySem.W.mg_of X G a_take, k_take, b_take, ok_take F_take Tl⟩
  have h_one : Cal P w K mg base CX0 2 "_law_one" ["_law_bag_here", "_law_menu"] (spOne K) := ⟨_, _, PySem.W.mg_of X G a_one, k_one, b_one, ok_one F_one Tl h_take⟩
  have h_number : Cal P w K mg base CX0 2 "_law_number" ["_law_bag_here"] spNum := ⟨_, _, PySem.W.mg_of X G a_number, k_number, b_number, ok_number F_number Tl h_take⟩
  have h_kind : Cal P w K mg base CX0 2 "_law_kind" ["_law_bag_here"] spKnd := ⟨_, _, PySem.W.mg_of X G a_kind, k_kind, b_kind, ok_kind F_kind Tl h_take⟩
  have h_parts : Cal P w K mg base CX0 3 "_law_parts" ["_law_bag_here", "_law_events", "_law_witnesses", "_law_most"] spParts := ⟨_, _, PySem.W.mg_of X G a_parts, k_parts, b_parts, ok_parts F_parts Tl h_take h_number h_kind⟩
  have h_is_way : Cal P w K mg base CX0 3 "is_way" ["book", "a", "b", "thing"] (spWay K C) := ⟨_, _, PySem.W.mg_of X G a_is_way, k_is_way, b_is_way, ok_is_way F_is_way Tl p_gaps h_is_below⟩
  have h_yes : Cal P w K mg base CX0 1 "_law_yes" ["_law_told", "_law_due"] spYes := ⟨_, _, PySem.W.mg_of X G a_yes, k_yes, b_yes, ok_yes F_yes Tl⟩
  have h_l_is_way : Cal P w K mg base CX0 1 "_law_is_way" ["_law_gaps", "_law_a", "_law_b", "_law_thing"] (spWayL K) := ⟨_, _, PySem.W.mg_of X G a_l_is_way, k_l_is_way, b_l_is_way, ok_l_is_way F_l_is_way Tl⟩
  have h_walk : Cal P w K mg base CX0 3 "_law_walk" ["_law_bag_here", "_law_gaps", "_law_a", "_law_many"] (spWalk K) := ⟨_, _, PySem.W.mg_of X G a_walk, k_walk, b_walk, ok_walk F_walk Tl h_one⟩
  have h_event_of : Cal P w K mg base CX0 3 "event_of" ["book", "source"] (spSrc K C fun r => .int r.ev) := ⟨_, _, PySem.W.mg_of X G a_event_of, k_event_of, b_event_of, ok_event_of F_event_of Tl p_tellings p_sure⟩
  have h_number_of : Cal P w K mg base CX0 3 "number_of" ["book", "source"] (spSrc K C fun r => .int r.num) := ⟨_, _, PySem.W.mg_of X G a_number_of, k_number_of, b_number_of, ok_number_of F_number_of Tl p_tellings p_sure⟩
  have h_witness_of : Cal P w K mg base CX0 3 "witness_of" ["book", "source"] (spSrc K C fun r => witV r.wit) := ⟨_, _, PySem.W.mg_of X G a_witness_of, k_witness_of, b_witness_of, ok_witness_of F_witness_of Tl p_tellings⟩
  have h__is_source : Cal P w K mg base CX0 3 "_is_source" ["book", "side", "thing"] (spIsSrc K C) := ⟨_, _, PySem.W.mg_of X G a__is_source, k__is_source, b__is_source, ok_is_source F__is_source Tl p_tellings p_sure h_is_below h_is_headed⟩
  have h_sum_of : Cal P w K mg base CX0 3 "sum_of" ["book", "indexes"] (spSumOf K C) := ⟨_, _, PySem.W.mg_of X G a_sum_of, k_sum_of, b_sum_of, ok_sum_of F_sum_of Tl p_gaps⟩
  have h_excess_of : Cal P w K mg base CX0 4 "excess_of" ["book", "path"] (spExc K C) := ⟨_, _, PySem.W.mg_of X G a_excess_of, k_excess_of, b_excess_of, ok_excess_of F_excess_of Tl h_number_of h_sum_of⟩
  have h_is_link : Cal P w K mg base CX0 5 "is_link" ["book", "thing"] (spIsLink K C) := ⟨_, _, PySem.W.mg_of X G a_is_link, k_is_link, b_is_link, ok_is_link F_is_link Tl h_is_tuple h__is_source h_event_of h_number_of h_is_way h_excess_of⟩
  have h_item : Cal P w K mg base CX0 1 "_law_item" ["_law_parts_here", "_law_thing"] (spLItem K) := ⟨_, _, PySem.W.mg_of X G a_item, k_item, b_item, ok_item F_item Tl⟩
  have h_l_is_link : Cal P w K mg base CX0 2 "_law_is_link" ["_law_parts_here", "_law_thing"] (spLLink K) := ⟨_, _, PySem.W.mg_of X G a_l_is_link, k_l_is_link, b_l_is_link, ok_l_is_link F_l_is_link Tl h_item h_l_is_way⟩
  have h_sources : Cal P w K mg base CX0 1 "_law_sources" ["_law_parts_here"] (spSrcs K) := ⟨_, _, PySem.W.mg_of X G a_sources, k_sources, b_sources, ok_sources F_sources Tl⟩
  have h_made : Cal P w K mg base CX0 9 "_law_made" ["_law_events", "_law_witnesses", "_law_parts_here"] (spMade K C) := ⟨_, _, PySem.W.mg_of X G a_made, k_made, b_made, ok_made F_made Tl c_Book⟩
  have h__is_literal : Cal P w K mg base CX0 3 "_is_literal" ["book", "thing"] (spLit K C) := ⟨_, _, PySem.W.mg_of X G a__is_literal, k__is_literal, b__is_literal, ok_is_literal F__is_literal Tl p_witnesses h_is_tuple h_is_below h_is_kind⟩
  have h__pairs_by_clause : Cal P w K mg base CX0 2 "_pairs_by_clause" ["clause"] spPC := ⟨_, _, PySem.W.mg_of X G a__pairs_by_clause, k__pairs_by_clause, b__pairs_by_clause, ok_pairs_by_clause F__pairs_by_clause Tl h_contrary⟩
  have h__pairs_by_link : Cal P w K mg base CX0 4 "_pairs_by_link" ["book", "link"] (spPL K C) := ⟨_, _, PySem.W.mg_of X G a__pairs_by_link, k__pairs_by_link, b__pairs_by_link, ok_pairs_by_link F__pairs_by_link Tl h_witness_of⟩
  have h_is_step : Cal P w K mg base CX0 6 "is_step" ["book", "thing"] (spIsStep K C) := ⟨_, _, PySem.W.mg_of X G a_is_step, k_is_step, b_is_step, ok_is_step F_is_step Tl p_clauses h_is_tuple h__is_literal h_is_headed h_is_below h__pairs_by_clause h_is_link h__pairs_by_link⟩
  have h_l_contrary : Cal P w K mg base CX0 1 "_law_contrary" ["_law_literal"] spTl := ⟨_, _, PySem.W.mg_of X G a_l_contrary, k_l_contrary, b_l_contrary, ok_l_contrary F_l_contrary Tl⟩
  have h_by_clause : Cal P w K mg base CX0 2 "_law_by_clause" ["_law_item_here"] spPC := ⟨_, _, PySem.W.mg_of X G a_by_clause, k_by_clause, b_by_clause, ok_by_clause F_by_clause Tl h_l_contrary⟩
  have h_is_literal : Cal P w K mg base CX0 1 "_law_is_literal" ["_law_witnesses", "_law_thing"] (spLLit K) := ⟨_, _, PySem.W.mg_of X G a_is_literal, k_is_literal, b_is_literal, ok_l_literal F_is_literal Tl⟩
  have h_pairs : Cal P w K mg base CX0 2 "_law_pairs" ["_law_parts_here", "_law_thing"] (spLPairs K) := ⟨_, _, PySem.W.mg_of X G a_pairs, k_pairs, b_pairs, ok_l_pairs F_pairs Tl h_item⟩
  have h_l_is_step : Cal P w K mg base CX0 3 "_law_is_step" ["_law_witnesses", "_law_parts_here", "_law_thing"] (spLStep K) := ⟨_, _, PySem.W.mg_of X G a_l_is_step, k_l_is_step, b_l_is_step, ok_l_is_step F_l_is_step Tl h_is_literal h_l_is_link h_pairs h_by_clause⟩
  have h_drawn : Cal P w K mg base CX0 4 "_law_drawn" ["_law_bag_here", "_law_events", "_law_witnesses", "_law_parts_here"] (spDrawn5 K) := ⟨_, _, PySem.W.mg_of X G a_drawn, k_drawn, b_drawn, ok_drawn F_drawn Tl h_take h_one h_item h_walk h_sources h_by_clause h_pairs⟩
  have h_bent : Cal P w K mg base CX0 3 "_law_bent" ["_law_bag_here", "_law_thing", "_law_witnesses"] (spBent5 K) := ⟨_, _, PySem.W.mg_of X G a_bent, k_bent, b_bent, ok_bent F_bent Tl h_take h_one h_kind h_l_contrary⟩
  exact ok_law F_law Tl h_bag h_take h_parts h_made h_drawn h_bent h_l_is_step h_yes h_is_step
end EL

open PySem PySem.W PyProof.Rows
set_option maxRecDepth 100000 in
set_option maxHeartbeats 0 in
theorem PySem.Challenge.cw_earlyorlate_k25_steps_judged_holds : PySem.Challenge.rw_earlyorlate_k25_steps_judged.Holds := by
  w_on; o_law; k_head; (case hw => w_witness2)
  k_fill
  refine EL.walk_all (l := PySem.Challenge.rw_earlyorlate_k25_steps_judged) (k := 10) rfl rfl ⟨rfl, by decide, by decide⟩ (fun w h Y => PySem.W.kIn_of Y) ?F
  case F =>
    intro w mg fa h KX G hmg
    refine' EL.all_mk KX G hmg ?a_is_integer ?l_is_integer ?c_is_integer ?k_is_integer ?a_is_number ?l_is_number ?c_is_number ?k_is_number ?a_is_kind ?l_is_kind ?c_is_kind ?k_is_kind ?a_contrary ?l_contrary ?c_contrary ?k_contrary ?a_is_tuple ?l_is_tuple ?c_is_tuple ?k_is_tuple ?a_is_headed ?l_is_headed ?c_is_headed ?k_is_headed ?a_is_below ?l_is_below ?c_is_below ?k_is_below ?a_is_side ?l_is_side ?c_is_side ?k_is_side ?a__can_stand ?l__can_stand ?c__can_stand ?k__can_stand ?a_first_wrong ?l_first_wrong ?c_first_wrong ?k_first_wrong ?a_is_item ?l_is_item ?c_is_item ?k_is_item ?a__check_arguments ?l__check_arguments ?c__check_arguments ?k__check_arguments ?a__check_items ?l__check_items ?c__check_items ?k__check_items ?a_bag ?l_bag ?c_bag ?k_bag ?a_take ?l_take ?c_take ?k_take ?a_one ?l_one ?c_one ?k_one ?a_number ?l_number ?c_number ?k_number ?a_kind ?l_kind ?c_kind ?k_kind ?a_parts ?l_parts ?c_parts ?k_parts ?a_is_way ?l_is_way ?c_is_way ?k_is_way ?a_yes ?l_yes ?c_yes ?k_yes ?a_l_is_way ?l_l_is_way ?c_l_is_way ?k_l_is_way ?a_walk ?l_walk ?c_walk ?k_walk ?a_event_of ?l_event_of ?c_event_of ?k_event_of ?a_number_of ?l_number_of ?c_number_of ?k_number_of ?a_witness_of ?l_witness_of ?c_witness_of ?k_witness_of ?a__is_source ?l__is_source ?c__is_source ?k__is_source ?a_sum_of ?l_sum_of ?c_sum_of ?k_sum_of ?a_excess_of ?l_excess_of ?c_excess_of ?k_excess_of ?a_is_link ?l_is_link ?c_is_link ?k_is_link ?a_item ?l_item ?c_item ?k_item ?a_l_is_link ?l_l_is_link ?c_l_is_link ?k_l_is_link ?a_sources ?l_sources ?c_sources ?k_sources ?a_made ?l_made ?c_made ?k_made ?a__is_literal ?l__is_literal ?c__is_literal ?k__is_literal ?a__pairs_by_clause ?l__pairs_by_clause ?c__pairs_by_clause ?k__pairs_by_clause ?a__pairs_by_link ?l__pairs_by_link ?c__pairs_by_link ?k__pairs_by_link ?a_is_step ?l_is_step ?c_is_step ?k_is_step ?a_l_contrary ?l_l_contrary ?c_l_contrary ?k_l_contrary ?a_by_clause ?l_by_clause ?c_by_clause ?k_by_clause ?a_is_literal ?l_is_literal ?c_is_literal ?k_is_literal ?a_pairs ?l_pairs ?c_pairs ?k_pairs ?a_l_is_step ?l_l_is_step ?c_l_is_step ?k_l_is_step ?a_drawn ?l_drawn ?c_drawn ?k_drawn ?a_bent ?l_bent ?c_bent ?k_bent ?a_law ?l_law ?c_law ?k_law ?z_len ?z_isinstance ?z_int ?z_bool ?z_str ?z_list ?z_tuple ?z_range ?z_enumerate ?z_zip ?z_abs ?z_repr ?z_min ?z_max ?z_sum ?z_all ?gGN ?gForms ?lForms ?kForms ?ntel ?ltel ?ngap ?lgap ?nsur ?lsur ?ncla ?lcla ?gParts ?lParts ?gtE ?gtW ?gtI ?aC ?iC ?fI_ ?lI ?cI ?kI ?lT ?ld1 ?ld2 ?ld3 ?ld4 ?pg ?hd ?po ?sa ?mkC ?kC ?nf0 ?nf1 ?nf2 ?nf3 ?nf4 ?nf5 ?oc1 ?oc2 ?oc3 ?oc4 ?kt0 ?kt1 ?kt2 ?kt3 ?kt4 ?u1_events ?u2_events ?u3_events ?u4_events ?u5_events ?u6_events ?u7_events ?u1_witnesses ?u2_witnesses ?u3_witnesses ?u4_witnesses ?u5_witnesses ?u6_witnesses ?u7_witnesses ?u1_tellings ?u2_tellings ?u3_tellings ?u4_tellings ?u5_tellings ?u6_tellings ?u7_tellings ?u1_gaps ?u2_gaps ?u3_gaps ?u4_gaps ?u5_gaps ?u6_gaps ?u7_gaps ?u1_sure ?u2_sure ?u3_sure ?u4_sure ?u5_sure ?u6_sure ?u7_sure ?u1_clauses ?u2_clauses ?u3_clauses ?u4_clauses ?u5_clauses ?u6_clauses ?u7_clauses
    (case a_is_integer => k_is)
    (case l_is_integer => k_is)
    (case c_is_integer => k_is)
    (case k_is_integer => k_is)
    (case a_is_number => k_is)
    (case l_is_number => k_is)
    (case c_is_number => k_is)
    (case k_is_number => k_is)
    (case a_is_kind => k_is)
    (case l_is_kind => k_is)
    (case c_is_kind => k_is)
    (case k_is_kind => k_is)
    (case a_contrary => k_is)
    (case l_contrary => k_is)
    (case c_contrary => k_is)
    (case k_contrary => k_is)
    (case a_is_tuple => k_is)
    (case l_is_tuple => k_is)
    (case c_is_tuple => k_is)
    (case k_is_tuple => k_is)
    (case a_is_headed => k_is)
    (case l_is_headed => k_is)
    (case c_is_headed => k_is)
    (case k_is_headed => k_is)
    (case a_is_below => k_is)
    (case l_is_below => k_is)
    (case c_is_below => k_is)
    (case k_is_below => k_is)
    (case a_is_side => k_is)
    (case l_is_side => k_is)
    (case c_is_side => k_is)
    (case k_is_side => k_is)
    (case a__can_stand => k_is)
    (case l__can_stand => k_is)
    (case c__can_stand => k_is)
    (case k__can_stand => k_is)
    (case a_first_wrong => k_is)
    (case l_first_wrong => k_is)
    (case c_first_wrong => k_is)
    (case k_first_wrong => k_is)
    (case a_is_item => k_is)
    (case l_is_item => k_is)
    (case c_is_item => k_is)
    (case k_is_item => k_is)
    (case a__check_arguments => k_is)
    (case l__check_arguments => k_is)
    (case c__check_arguments => k_is)
    (case k__check_arguments => k_is)
    (case a__check_items => k_is)
    (case l__check_items => k_is)
    (case c__check_items => k_is)
    (case k__check_items => k_is)
    (case a_bag => k_is)
    (case l_bag => k_is)
    (case c_bag => k_is)
    (case k_bag => k_is)
    (case a_take => k_is)
    (case l_take => k_is)
    (case c_take => k_is)
    (case k_take => k_is)
    (case a_one => k_is)
    (case l_one => k_is)
    (case c_one => k_is)
    (case k_one => k_is)
    (case a_number => k_is)
    (case l_number => k_is)
    (case c_number => k_is)
    (case k_number => k_is)
    (case a_kind => k_is)
    (case l_kind => k_is)
    (case c_kind => k_is)
    (case k_kind => k_is)
    (case a_parts => k_is)
    (case l_parts => k_is)
    (case c_parts => k_is)
    (case k_parts => k_is)
    (case a_is_way => k_is)
    (case l_is_way => k_is)
    (case c_is_way => k_is)
    (case k_is_way => k_is)
    (case a_yes => k_is)
    (case l_yes => k_is)
    (case c_yes => k_is)
    (case k_yes => k_is)
    (case a_l_is_way => k_is)
    (case l_l_is_way => k_is)
    (case c_l_is_way => k_is)
    (case k_l_is_way => k_is)
    (case a_walk => k_is)
    (case l_walk => k_is)
    (case c_walk => k_is)
    (case k_walk => k_is)
    (case a_event_of => k_is)
    (case l_event_of => k_is)
    (case c_event_of => k_is)
    (case k_event_of => k_is)
    (case a_number_of => k_is)
    (case l_number_of => k_is)
    (case c_number_of => k_is)
    (case k_number_of => k_is)
    (case a_witness_of => k_is)
    (case l_witness_of => k_is)
    (case c_witness_of => k_is)
    (case k_witness_of => k_is)
    (case a__is_source => k_is)
    (case l__is_source => k_is)
    (case c__is_source => k_is)
    (case k__is_source => k_is)
    (case a_sum_of => k_is)
    (case l_sum_of => k_is)
    (case c_sum_of => k_is)
    (case k_sum_of => k_is)
    (case a_excess_of => k_is)
    (case l_excess_of => k_is)
    (case c_excess_of => k_is)
    (case k_excess_of => k_is)
    (case a_is_link => k_is)
    (case l_is_link => k_is)
    (case c_is_link => k_is)
    (case k_is_link => k_is)
    (case a_item => k_is)
    (case l_item => k_is)
    (case c_item => k_is)
    (case k_item => k_is)
    (case a_l_is_link => k_is)
    (case l_l_is_link => k_is)
    (case c_l_is_link => k_is)
    (case k_l_is_link => k_is)
    (case a_sources => k_is)
    (case l_sources => k_is)
    (case c_sources => k_is)
    (case k_sources => k_is)
    (case a_made => k_is)
    (case l_made => k_is)
    (case c_made => k_is)
    (case k_made => k_is)
    (case a__is_literal => k_is)
    (case l__is_literal => k_is)
    (case c__is_literal => k_is)
    (case k__is_literal => k_is)
    (case a__pairs_by_clause => k_is)
    (case l__pairs_by_clause => k_is)
    (case c__pairs_by_clause => k_is)
    (case k__pairs_by_clause => k_is)
    (case a__pairs_by_link => k_is)
    (case l__pairs_by_link => k_is)
    (case c__pairs_by_link => k_is)
    (case k__pairs_by_link => k_is)
    (case a_is_step => k_is)
    (case l_is_step => k_is)
    (case c_is_step => k_is)
    (case k_is_step => k_is)
    (case a_l_contrary => k_is)
    (case l_l_contrary => k_is)
    (case c_l_contrary => k_is)
    (case k_l_contrary => k_is)
    (case a_by_clause => k_is)
    (case l_by_clause => k_is)
    (case c_by_clause => k_is)
    (case k_by_clause => k_is)
    (case a_is_literal => k_is)
    (case l_is_literal => k_is)
    (case c_is_literal => k_is)
    (case k_is_literal => k_is)
    (case a_pairs => k_is)
    (case l_pairs => k_is)
    (case c_pairs => k_is)
    (case k_pairs => k_is)
    (case a_l_is_step => k_is)
    (case l_l_is_step => k_is)
    (case c_l_is_step => k_is)
    (case k_l_is_step => k_is)
    (case a_drawn => k_is)
    (case l_drawn => k_is)
    (case c_drawn => k_is)
    (case k_drawn => k_is)
    (case a_bent => k_is)
    (case l_bent => k_is)
    (case c_bent => k_is)
    (case k_bent => k_is)
    (case a_law => k_is)
    (case l_law => k_is)
    (case c_law => k_is)
    (case k_law => k_is)
    (case z_len => k_is)
    (case z_isinstance => k_is)
    (case z_int => k_is)
    (case z_bool => k_is)
    (case z_str => k_is)
    (case z_list => k_is)
    (case z_tuple => k_is)
    (case z_range => k_is)
    (case z_enumerate => k_is)
    (case z_zip => k_is)
    (case z_abs => k_is)
    (case z_repr => k_is)
    (case z_min => k_is)
    (case z_max => k_is)
    (case z_sum => k_is)
    (case z_all => k_is)
    (case gGN => k_is)
    (case gForms => k_is)
    (case lForms => k_is)
    (case kForms => exact ⟨⟨_, _, rfl, rfl⟩, ⟨_, _, rfl, rfl⟩, ⟨_, _, rfl, rfl⟩, ⟨_, _, rfl, rfl⟩, trivial⟩)
    (case ntel => k_is)
    (case ltel => k_is)
    (case ngap => k_is)
    (case lgap => k_is)
    (case nsur => k_is)
    (case lsur => k_is)
    (case ncla => k_is)
    (case lcla => k_is)
    (case gParts => k_is)
    (case lParts => k_is)
    (case gtE => k_is)
    (case gtW => k_is)
    (case gtI => k_is)
    (case aC => k_is)
    (case iC => k_is)
    (case fI_ => k_is)
    (case lI => k_is)
    (case cI => k_is)
    (case kI => k_is)
    (case lT => k_is)
    (case ld1 => k_is)
    (case ld2 => k_is)
    (case ld3 => k_is)
    (case ld4 => k_is)
    (case pg => k_is)
    (case hd => k_is)
    (case po => k_is)
    (case sa => k_is)
    (case mkC => k_is)
    (case kC => k_is)
    (case nf0 => k_is)
    (case nf1 => k_is)
    (case nf2 => k_is)
    (case nf3 => k_is)
    (case nf4 => k_is)
    (case nf5 => k_is)
    (case oc1 => k_is)
    (case oc2 => k_is)
    (case oc3 => k_is)
    (case oc4 => k_is)
    (case kt0 => k_is)
    (case kt1 => k_is)
    (case kt2 => k_is)
    (case kt3 => k_is)
    (case kt4 => k_is)
    (case u1_events => k_is)
    (case u2_events => k_is)
    (case u3_events => k_is)
    (case u4_events => k_is)
    (case u5_events => k_is)
    (case u6_events => k_is)
    (case u7_events => k_is)
    (case u1_witnesses => k_is)
    (case u2_witnesses => k_is)
    (case u3_witnesses => k_is)
    (case u4_witnesses => k_is)
    (case u5_witnesses => k_is)
    (case u6_witnesses => k_is)
    (case u7_witnesses => k_is)
    (case u1_tellings => k_is)
    (case u2_tellings => k_is)
    (case u3_tellings => k_is)
    (case u4_tellings => k_is)
    (case u5_tellings => k_is)
    (case u6_tellings => k_is)
    (case u7_tellings => k_is)
    (case u1_gaps => k_is)
    (case u2_gaps => k_is)
    (case u3_gaps => k_is)
    (case u4_gaps => k_is)
    (case u5_gaps => k_is)
    (case u6_gaps => k_is)
    (case u7_gaps => k_is)
    (case u1_sure => k_is)
    (case u2_sure => k_is)
    (case u3_sure => k_is)
    (case u4_sure => k_is)
    (case u5_sure => k_is)
    (case u6_sure => k_is)
    (case u7_sure => k_is)
    (case u1_clauses => k_is)
    (case u2_clauses => k_is)
    (case u3_clauses => k_is)
    (case u4_clauses => k_is)
    (case u5_clauses => k_is)
    (case u6_clauses => k_is)
    (case u7_clauses => k_is)
