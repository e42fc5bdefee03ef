import PyProof.Rows.All
import Wide.All
import OpenK.AllK
import Wide.FinOn
import HandS.ForMost
import HandS.ForExc
import HandS.More
import HandS.Flow
import HandS.Style
import HandS.IsInst
import HandS.Property
import HandS.OwnEq
import HandS.Evl
import KE.GoesEnum
import HandS.SortKw
import KE.GoesEnumKw
import HandS.Walk
import HandS.TupAny
import PySem.Challenge.RW_earlyorlate_k50_middles_reckoned
import HandS.Defaults
import HandS.ExcInit
import HandS.ExcField
import HandS.ExcIs
import KE.KExcIs
import KE.DataFind
import HandS.List
import HandS.Lambda
set_option Elab.async false
set_option linter.all false
set_option maxRecDepth 100000
set_option maxHeartbeats 4000000
/- part P0 -/
/-! Early or late: own words over the hand layer. Part 0: defs that know that no repr is under way. -/
namespace EL
open PySem PySem.Spec PyProof.Rows L2
open PySem.W (Frag)

/-- no repr is under way around -/
abbrev Quiet (A : Around) : Prop := A.guards = some []

/-- a def's promise, for callers around which no repr is under way -/
structure FnG (P : Program) (w : World) (K : Frag) (mg : Str → Option Value) (base : Heap) (X : CXT) (k : Nat) (f : Addr) (fd : FuncData) (ps : List Str) (sp : Sp) : Prop where
  len : ∀ vs H Q E, sp vs H Q E → vs.length = ps.length
  run : ∀ (A : Around) (out : List Env) (s : Shared) (H : Hp) (args : Args) (us : List Value) (vs : List V) (Q : VK) (E : XK),
    Room k A → Quiet A → Env0 P w K mg base A out s H → BindsTo s fd args (ps.zip us) → Vals vs us → sp vs H Q E →
    codeAny (model P w) A (.call (.ref f) args) (CR X out P w H s Q E) s

theorem FnG.of {P : Program} {w : World} {K : Frag} {mg : Str → Option Value} {base : Heap} {X : CXT} {k : Nat} {f : Addr} {fd : FuncData} {ps : List Str} {sp : Sp}
    (F : FnOk P w K mg base X k f fd ps sp) : FnG P w K mg base X k f fd ps sp :=
  ⟨F.len, fun A out s H args us vs Q E hr _ he hb hv hs => F.run A out s H args us vs Q E hr he hb hv hs⟩

theorem FnG.up {P : Program} {w : World} {K : Frag} {mg : Str → Option Value} {base : Heap} {X : CXT} {j k : Nat} {f : Addr} {fd : FuncData} {ps : List Str} {sp : Sp}
    (F : FnG P w K mg base X j f fd ps sp) (h : j ≤ k) : FnG P w K mg base X k f fd ps sp :=
  ⟨F.len, fun A out s H args us vs Q E hr => F.run A out s H args us vs Q E (hr.mono h)⟩

/-- the end of a body, told to the caller -/
theorem ended {X : CXT} {P : Program} {w : World} {K : Frag} {mg : Str → Option Value} {base : Heap} {N : List Str} {qual : Str} {sc : Scope} {f : Addr} {cd : Value} {A : Around} {out : List Env}
    {s s' : Shared} {H H' : Hp} {E : XK} {Q : VK} {σ : L2.St} {v : V} {u : Value}
    (J : Inv (cxOf X P w K mg base N qual sc f cd A out s H E) [] σ H' s') (rv : RelV v u) (q : Q v H') : CE out P w H s Q u s' :=
  ⟨v, H', J.os, J.bare, J.base, J.hok, rv, q⟩

theorem fnG_of {X : CXT} {P : Program} {w : World} {K : Frag} {mg : Str → Option Value} {base : Heap} {k : Nat} {x qual : Str} {st : Stmt} {f : Addr} {fd : FuncData} {N ps : List Str} {sp : Sp}
    (F : Fun K x qual st f fd) (S : FnScope N ps (defScope st)) (len : ∀ vs H Q E, sp vs H Q E → vs.length = ps.length)
    (hbody : ∀ (cd : Value) (A : Around) (out : List Env) (s : Shared) (H : Hp) (vs : List V) (Q : VK) (E : XK), Room k (A.deeper (envOfC qual (defScope st) s.heap.objs.size f cd)) →
      Quiet (A.deeper (envOfC qual (defScope st) s.heap.objs.size f cd)) → sp vs H Q E →
      ∃ t, PSs (cxOf X P w K mg base N qual (defScope st) f cd A out s H E) (defBody st) t ∧ t { nx := fun _ H' => Q .non H', rt := Q } (start N vs) H) :
    FnG P w K mg base X (k + 1) f fd ps sp := by
  obtain ⟨oc, od, kV, doc, pm, an, cd, ct, osl, rfl, lk, hcd⟩ := F.ex
  constructor
  · exact len
  intro A out s H args us vs Q E hr hg e0 hb r hsp
  have old : ∀ b o, base.get? b = some o → s.heap.get? b = some o := fun b o e => (e0.bs b o e).1
  have KX := e0.mod.kin.keeps old
  have kinds : ∀ y ∈ ps.zip us, (defScope st).names.lookup y.1 = some .local ∨ ((defScope st).names.lookup y.1 = some .cell ∧ ((cellsFrom (s.heap.objs.size + 1) (defScope st).names []).lookup y.1).isSome = true) := by
    rintro ⟨n, v⟩ hy
    cases S.par n (List.of_mem_zip hy).1 with
    | inl q => exact .inl q
    | inr q => exact .inr ⟨q, PySem.W.cellsFrom_some _ _ _ (.inl q)⟩
  apply codeAny_call_function hr.depth (KX _ _ lk) rfl S.co S.gen rfl (PySem.W.codeRec_of KX hcd)
  apply hb
  apply wpAny_newFunctionEnv_cells S.kind kinds
  rintro env rfl s1 x
  refine ⟨(e0.mod.nolimit.keeps old).keeps x.toInCall.keep, codeAny_func ?_⟩
  obtain ⟨t, ht, hq⟩ := hbody cd A out s H vs Q E (hr.deeper _) hg hsp
  have I := inv_start (CX := X) (E := E) S hr.hd e0 (len _ _ _ _ hsp) r x
  refine wpAny_mono (ht.run [] s1 _ H _ I hq) ?_ (fun _ _ z => z)
  intro fl s' hs
  cases fl with
  | next =>
    obtain ⟨σ', H', J, q⟩ := hs
    exact ended (v := V.non) (u := Value.none) J rfl q
  | ret u =>
    obtain ⟨v, σ', H', J, rv, q⟩ := hs
    exact ended J rv q
  | brk => exact (let ⟨_, _, _, z⟩ := hs; False.elim z)
  | cont => exact (let ⟨_, _, _, z⟩ := hs; False.elim z)

/-- a def of the module by its name: where it stands, how its arguments bind, its promise -/
structure Cal (P : Program) (w : World) (K : Frag) (mg : Str → Option Value) (base : Heap) (CX : CXT) (k : Nat) (x : Str) (ps : List Str) (sp : Sp) : Prop where
  ex : ∃ f fd, mg x = some (.ref f) ∧ PySem.W.keepIn K (.ref f) = true ∧ Binds K fd ps [] ∧ FnOk P w K mg base CX k f fd ps sp
structure CalG (P : Program) (w : World) (K : Frag) (mg : Str → Option Value) (base : Heap) (CX : CXT) (k : Nat) (x : Str) (ps : List Str) (sp : Sp) : Prop where
  ex : ∃ f fd, mg x = some (.ref f) ∧ PySem.W.keepIn K (.ref f) = true ∧ Binds K fd ps [] ∧ FnG P w K mg base CX k f fd ps sp
theorem Cal.g {P : Program} {w : World} {K : Frag} {mg : Str → Option Value} {base : Heap} {CX : CXT} {k : Nat} {x : Str} {ps : List Str} {sp : Sp} (C : Cal P w K mg base CX k x ps sp) : CalG P w K mg base CX k x ps sp := by
  obtain ⟨f, fd, h1, h2, h3, h4⟩ := C.ex
  exact ⟨f, fd, h1, h2, h3, .of h4⟩
section
variable {X : Cx} {CX : CXT} {k : Nat} {x : Str} {ps : List Str} {sp : Sp} {E : XK} {p pos : Pos} {e : Expr} {es : List Expr} {t : TA}
theorem pe_cal (C : Cal X.prog X.w X.K X.mg X.base CX k x ps sp) (hr : Room k X.A) (hx : Passes CX X E) (ha : PA X (e :: es) t) (hg : Gl X x := by rfl) (hdb : (x == ("__debug__" : Str)) = false := by decide)
    (he : starEach (e :: es) X.env = (false, eval e X.env) :: starEach es X.env := by rfl) (hpl : (backTo pos (starEach es X.env)).any (·.1) = false := by rfl) :
    PE X (.Call (.Name x p) (e :: es) [] pos) (tCall sp [] E t) := by
  obtain ⟨f, fd, h1, h2, h3, h4⟩ := C.ex
  exact pe_call h4 hr hg h1 h2 h3 .nil hx ha hdb he hpl
theorem pe_cal0 (C : Cal X.prog X.w X.K X.mg X.base CX k x ps sp) (hr : Room k X.A) (hx : Passes CX X E) (hg : Gl X x := by rfl) (hdb : (x == ("__debug__" : Str)) = false := by decide) :
    PE X (.Call (.Name x p) [] [] pos) (tCall sp [] E tNil) := by
  obtain ⟨f, fd, h1, h2, h3, h4⟩ := C.ex
  exact pe_call0 h4 hr hg h1 h2 h3 .nil hx hdb
theorem run_calG {f : Addr} {fd : FuncData} {pins : List (Addr × Obj)} {σ : L2.St} {H : Hp} {s : Shared} {Q : VK} {us : List Value} {vs : List V} (F : FnG X.prog X.w X.K X.mg X.base CX k f fd ps sp) (hr : Room k X.A) (hq : Quiet X.A) (hb : Binds X.K fd ps [])
    (hx : Passes CX X E) (I : Inv X pins σ H s) (r : Vals vs us) (h : sp vs H Q E) : wpAny (model X.prog X.w) X.A (call (.ref f) us) (EP X pins σ Q) X.xe s := by
  have hl : us.length = ps.length := r.length.symm.trans (F.len _ _ _ _ h)
  have hb1 := hb s us I.kIn (by rw [List.append_nil]; exact hl)
  rw [List.append_nil] at hb1
  refine wpAny_call (codeAny_mono (F.run X.A X.stack s H ⟨us, []⟩ us vs Q E hr hq I.env0 hb1 r h) ?_)
  rintro (e | fl) s' hz
  · exact hx pins σ H s e s' I hz
  · cases fl with
    | ret u => exact I.after hz
    | next => exact False.elim hz
    | brk => exact False.elim hz
    | cont => exact False.elim hz
theorem pe_calG (C : CalG X.prog X.w X.K X.mg X.base CX k x ps sp) (hr : Room k X.A) (hq : Quiet X.A) (hx : Passes CX X E) (ha : PA X (e :: es) t) (hg : Gl X x := by rfl) (hdb : (x == ("__debug__" : Str)) = false := by decide)
    (he : starEach (e :: es) X.env = (false, eval e X.env) :: starEach es X.env := by rfl) (hpl : (backTo pos (starEach es X.env)).any (·.1) = false := by rfl) :
    PE X (.Call (.Name x p) (e :: es) [] pos) (tCall sp [] E t) := by
  obtain ⟨f, fd, h1, h2, h3, h4⟩ := C.ex
  constructor
  intro pins s σ H Q I h
  apply wpAny_Call_Name_kw
  refine ld_glob I hg h1 (PySem.W.callWith_K (h₀ := X.base) I.ok.mod.kin h2 (thn (ha.run pos pins s σ H _ I h) ?_) he hpl) hdb
  rintro us s1 ⟨vs, H1, I1, r, q⟩
  rw [List.append_nil] at q
  exact ⟨I1.kIn, run_calG h4 hr hq h3 hx I1 r q⟩
theorem pe_calG0 (C : CalG X.prog X.w X.K X.mg X.base CX k x ps sp) (hr : Room k X.A) (hq : Quiet X.A) (hx : Passes CX X E) (hg : Gl X x := by rfl) (hdb : (x == ("__debug__" : Str)) = false := by decide) :
    PE X (.Call (.Name x p) [] [] pos) (tCall sp [] E tNil) := by
  obtain ⟨f, fd, h1, h2, h3, h4⟩ := C.ex
  constructor
  intro pins s σ H Q I h
  apply wpAny_Call_Name_kw
  exact ld_glob I hg h1 (PySem.W.callWith_K0 I.kIn h2 (run_calG (us := []) h4 hr hq h3 hx I .nil h)) hdb
end
end EL

/- part P1 -/
/-! the end of a law whose def wants that no repr is under way -/
namespace EL
open PySem PySem.Spec PyProof.Rows L2
open PySem.W (Frag)

theorem law_from {P : Program} {w : World} {K : Frag} {mg mb : Str → Option Value} {CX : CXT} {k : Nat} {fa a : Addr} {fd : FuncData} {x : Str} {sp : Sp} {s : Shared} {vs : List Value} {H : Hp}
    (KX : K.In s.heap) (hns : s.heap.Ns mainGlobals mg) (hb : s.heap.Ns builtinsNs mb) (hbb : ∀ y : Str, y ≠ "__name__" → mb y = bootBuiltins y) (hlim : s.heap.NoLimit) (hg : s.gens = #[])
    (ha : s.heap.get? a = some { cls := .type "list", data := .seq vs.toArray }) (hr : Room k PySem.callerA)
    (F : ∀ base : Heap, K.In base → base.Ns mainGlobals mg → FnG P w K mg base CX k fa fd [x] sp) (hbind : ∀ (s : Shared) (u : Value), BindsTo s fd ⟨[u], []⟩ [(x, u)])
    (hsp : sp [.ref a] H (fun v _ => v = .bl true) fun _ _ _ => False) (hCX : ∀ e s', CX [] H s (fun _ _ _ => False) e s' → False)
    (hO : Only H) (hok : HOk P w H s.heap) (hA : ∀ b, H b ≠ none → b = a) (hK : H a ≠ none → K.lookup a = none) :
    codeAny (model P w) PySem.callerA (.call (.ref fa) ⟨[.ref a], []⟩) (fun r s' => r = .ok (.ret (.bool true)) ∧ OldK s.heap s'.heap ∧ s'.os = s.os ∧ AllBare s'.gens) s := by
  have free : ∀ {b : Addr} {o : Obj}, s.heap.get? b = some o → (b = a → False) ∨ (H b = none) → (hidT s.heap H).get? b = some o := by
    intro b o e z
    apply hidT_get e
    rcases z with z | z
    · cases q : H b with
      | none => rfl
      | some u => exact (z (hA b (by simp [q]))).elim
    · exact z
  have dict : ∀ {b : Addr} {m : Str → Option Value}, s.heap.Ns b m → (hidT s.heap H).Ns b m := by
    rintro b m ⟨o, es, ep, e, d, r⟩
    refine ⟨o, es, ep, free e (.inl fun z => ?_), d, r⟩
    rw [z, ha] at e
    cases e
    exact nomatch d
  have kin : K.In (hidT s.heap H) := by
    intro b o e
    cases q : H b with
    | none => exact free (KX b o e) (.inr q)
    | some u =>
      have ba := hA b (by simp [q])
      rw [ba] at e q
      rw [hK (by simp [q])] at e
      exact nomatch e
  have M : Mod K mg (hidT s.heap H) := ⟨kin, dict hns, ⟨mb, dict hb, hbb⟩, let ⟨mc, h1, h2⟩ := hlim; ⟨mc, dict h1, h2⟩⟩
  have none_in : ∀ b : Addr, b ∉ ([] : List Addr) := fun b z => by simp at z
  have e0 : Env0 P w K mg (hidT s.heap H) PySem.callerA [] s H :=
    { frames := rfl, mod := M, bs := fun b o e => of_hidT e, bsz := Nat.le_of_eq (hidT_size _ _), funs := trivial, frf := fun b z => (none_in b z).elim, hok := hok, bare := .of_eq hg }
  refine codeAny_mono ((F _ kin (dict hns)).run PySem.callerA [] s H _ [.ref a] [.ref a] _ _ hr rfl e0 (hbind s (.ref a)) (.cons rfl .nil) hsp) ?_
  rintro (e | fl) s' hz
  · exact (hCX e s' hz).elim
  · cases fl with
    | next => exact False.elim hz
    | brk => exact False.elim hz
    | cont => exact False.elim hz
    | ret u =>
      obtain ⟨v, H', os, bare, un, hok', r', q⟩ := hz
      have q2 : v = .bl true := q
      rw [q2] at r'
      have u2 : u = Value.bool true := r'
      rw [u2]
      refine ⟨rfl, OldK.of_keep fun b o e => ?_, os, bare⟩
      rcases hO b with z | ⟨ob, xs, z⟩
      · exact un.keep b o e z (none_in b) (none_in b)
      · have e1 := (hok b _ z).1
        rw [e] at e1
        rw [Option.some.inj e1]
        exact (hok' b _ (un.frzs b ob _ z)).1

theorem law_runs {P : Program} {w : World} {K : Frag} {mg mb : Str → Option Value} {CX : CXT} {k : Nat} {fa a : Addr} {fd : FuncData} {x : Str} {sp : Sp} {s : Shared} {vs : List Value} {ns : List Int}
    (KX : K.In s.heap) (hns : s.heap.Ns mainGlobals mg) (hb : s.heap.Ns builtinsNs mb) (hbb : ∀ y : Str, y ≠ "__name__" → mb y = bootBuiltins y) (hlim : s.heap.NoLimit) (hg : s.gens = #[])
    (ha : s.heap.get? a = some { cls := .type "list", data := .seq vs.toArray }) (hi : IntsAre vs ns) (hl : ns.length ≤ sizeLine) (hr : Room k PySem.callerA)
    (F : ∀ base : Heap, K.In base → base.Ns mainGlobals mg → FnG P w K mg base CX k fa fd [x] sp) (hbind : ∀ (s : Shared) (u : Value), BindsTo s fd ⟨[u], []⟩ [(x, u)])
    (hsp : ∀ H : Hp, Only H → SqL K H a (ns.map V.int) → sp [.ref a] H (fun v _ => v = .bl true) fun _ _ _ => False)
    (hCX : ∀ H e s', CX [] H s (fun _ _ _ => False) e s' → False) :
    codeAny (model P w) PySem.callerA (.call (.ref fa) ⟨[.ref a], []⟩) (fun r s' => r = .ok (.ret (.bool true)) ∧ OldK s.heap s'.heap ∧ s'.os = s.os ∧ AllBare s'.gens) s := by
  have rv := vals_ints hi
  by_cases hk : K.lookup a = none
  · let H : Hp := fun b => if b = a then some (.frz { cls := .type "list", data := .seq vs.toArray } (.lst (ns.map V.int))) else none
    have at_ : H a = some (.frz { cls := .type "list", data := .seq vs.toArray } (.lst (ns.map V.int))) := if_pos rfl
    have other : ∀ b, b ≠ a → H b = none := fun b h => if_neg h
    have hO : Only H := fun b => by
      by_cases q : b = a
      · exact .inr ⟨_, _, by rw [q]; exact at_⟩
      · exact .inl (other b q)
    refine law_from (H := H) KX hns hb hbb hlim hg ha hr F hbind (hsp H hO (.inl (.inr ⟨_, at_⟩))) (hCX H) hO ?_ ?_ fun _ => hk
    · intro b u z
      by_cases q : b = a
      · subst q
        rw [at_] at z
        cases z
        refine ⟨ha, ?_, vs, _, rv, ha⟩
        rw [List.length_map]
        exact hl
      · rw [other b q] at z
        exact nomatch z
    · intro b z
      by_cases q : b = a
      · exact q
      · exact (z (other b q)).elim
  · obtain ⟨o, hk⟩ := Option.ne_none_iff_exists'.mp hk
    have e := KX a o hk
    rw [ha] at e
    cases e
    let H : Hp := fun _ => none
    have hO : Only H := fun _ => .inl rfl
    have hS : SqL K H a (ns.map V.int) := .inr ⟨_, vs.toArray, _, hk, rfl, rfl, rfl, by simpa [hi.length] using hl, by simpa using rv⟩
    exact law_from (H := H) KX hns hb hbb hlim hg ha hr F hbind (hsp H hO hS) (hCX H) hO (fun b u z => nomatch (show (none : Option HO) = some u from z)) (fun b z => (z rfl).elim) fun z => (z rfl).elim

theorem walk_law {l : PySem.W.OpenLaw} {n k : Nat} {q : Program} {loose : List Str} {XP : (Str → Option Value) → Heap → Prop} {YP : World → Heap → Prop} {d : DefRec} {K : Params → Frag} {CX : World → CXT} {sp : World → Sp} {x : Str}
    (hn : l.most = some n) (hn2 : n ≤ sizeLine) (hdf : d.params.defaults = []) (hr : Room k PySem.callerA) (hY : ∀ (w : World) (h : Heap), YP w h → (K w.params).In h)
    (F : ∀ (w : World) (mg : Str → Option Value) (fa : Addr) (h : Heap), (K w.params).In h → h.Ns mainGlobals mg → mg d.name = some (.ref fa) →
      ∃ fd : FuncData, (∀ (s : Shared) (u : Value), BindsTo s fd ⟨[u], []⟩ [(x, u)]) ∧ ∀ base : Heap, (K w.params).In base → base.Ns mainGlobals mg → FnG l.prog w (K w.params) mg base (CX w) k fa fd [x] (sp w))
    (hsp : ∀ (w : World) (H : Hp) (a : Addr) (ns : List Int), ns.length ≤ n → Only H → SqL (K w.params) H a (ns.map V.int) → sp w [.ref a] H (fun v _ => v = .bl true) fun _ _ _ => False)
    (hCX : ∀ (w : World) (H : Hp) (s : Shared) (e : Value) (s' : Shared), CX w [] H s (fun _ _ _ => False) e s' → False) :
    PySem.W.WalkO q loose XP YP l.row.toRowW d [] (fun f vs => PySem.call f vs) := by
  refine Att.attach_call hn hdf ?_
  intro w s₀ s₁ mg mb fa o pm cd doc a vs ns G Y ho hd hcd hmg hobj hints hlen hg
  obtain ⟨fd, hb, hF⟩ := F w mg fa _ (hY w _ Y) G.T.g hmg
  exact law_runs (hY w _ Y) G.T.g G.T.b G.T.builtins G.T.nolimit hg hobj hints (Nat.le_trans hlen hn2) hr hF hb (fun H => hsp w H a ns hlen) fun H => hCX w H s₁
end EL

/- part P2 -/
/-! repr of data, where no repr is under way -/
namespace EL
open PySem PySem.Spec PyProof.Rows L2
open PySem.W (Frag)
mutual
theorem dp_nodict {K : Frag} {H : Hp} : ∀ (d : PyData) (v : V), Dp K H v d → d.hasDict = false
  | .none, _, _ => rfl
  | .bool _, _, _ => rfl
  | .int _, _, _ => rfl
  | .str _, _, _ => rfl
  | .list ds, _, h => by
    cases h with
    | lst _ ha => exact dp_nodictAll ds _ ha
  | .tuple ds, _, h => by
    cases h with
    | tup _ ha => exact dp_nodictAll ds _ ha
  | .dict _, _, h => by cases h
theorem dp_nodictAll {K : Frag} {H : Hp} : ∀ (ds : List PyData) (vs : List V), DpAll K H vs ds → PyData.hasDictAll ds = false
  | [], _, _ => rfl
  | d :: ds, _, h => by
    cases h with
    | cons h1 h2 =>
      show (d.hasDict || PyData.hasDictAll ds) = false
      rw [dp_nodict d _ h1, dp_nodictAll ds _ h2]
      rfl
end
/-- what repr hands back of data -/
def rShow (K : Frag) : List V → Hp → VK → Prop := fun xs H Q => ∃ x d, xs = [x] ∧ Dp K H x d ∧ d.showable = true ∧ d.depth ≤ 50 ∧ d.shown.length ≤ sizeLine ∧ Q (.str d.shown) H
theorem call_show {X : Cx} (hq : Quiet X.A) (hu : X.A.units + 64 < cLine) : CallR X (.builtin "repr") (rShow X.K) := by
  rintro pins s σ H xs us Q I r ⟨x, d, rfl, hd, hs, hdep, hlen, q⟩
  cases r with
  | cons rx rn =>
    rename_i u us
    cases rn
    obtain ⟨as, rd⟩ := Dp.reads I d x u hd rx
    have fin : ∀ t k, EP X pins σ Q (.str d.shown t) { s with toks := k } := fun t k => ⟨V.str d.shown, H, I.tok _, ⟨t, rfl⟩, q⟩
    cases rd with
    | none => exact PySem.P.repr_of_none (fin _ _)
    | bool b => exact PySem.P.repr_of_bool (fin _ _)
    | int i t => exact PySem.P.repr_of_int (by simpa [PyData.showable] using hs) (fin _ _)
    | str y t => exact PySem.P.repr_of_str (fin _ _) hlen
    | list h1 h2 h3 h4 =>
      have nd := dp_nodict _ _ hd
      refine repr_of_reads' (h₀ := s.heap) (.list h1 h2 h3 h4) hs (fun z => by rw [nd] at z; cases z) hq (by omega) (fun _ _ e => e) ?_ hlen
      intro h' t tk k
      exact ⟨V.str _, H, I.kept k, ⟨t, rfl⟩, q⟩
    | tuple h1 h2 h3 h4 =>
      have nd := dp_nodict _ _ hd
      refine repr_of_reads' (h₀ := s.heap) (.tuple h1 h2 h3 h4) hs (fun z => by rw [nd] at z; cases z) hq (by omega) (fun _ _ e => e) ?_ hlen
      intro h' t tk k
      exact ⟨V.str _, H, I.kept k, ⟨t, rfl⟩, q⟩
    | dict h1 h2 h3 h4 h5 => cases hd
theorem call_showE {X : Cx} (hq : Quiet X.A) (hu : X.A.units + 64 < cLine) : CallR X (.builtin "repr") (fun xs H Q => ∃ p, xs = [.ref p] ∧ H p = some (.dK []) ∧ Q (.str (PyData.dict []).shown) H) := by
  rintro pins s σ H xs us Q I r ⟨p, rfl, hp, q⟩
  cases r with
  | cons rx rn =>
    rename_i u us
    cases rn
    cases rx
    obtain ⟨_, ns, vs, kv, o, es, ep, ho, ex, hd, _, pr, _⟩ := I.hok p _ hp
    cases kv
    have e0 : es.toList = [] := by
      generalize es.toList = l at pr
      cases pr
      rfl
    have e1 : es = #[] := Array.toList_inj.mp e0
    subst e1
    have hz : X.A.units + ((PyData.dict []).depth + 1) < cLine := by
      have z : (PyData.dict []).depth ≤ 50 := by decide +kernel
      omega
    refine repr_of_reads' (d := .dict []) (h₀ := s.heap) (.dict ho ex.1 hd .nil .nil) (by decide +kernel) (fun _ z => ?_) hq hz (fun _ _ e => e) ?_ (by decide +kernel)
    · have z' : sysModules = p := by simpa using z
      rw [← z'] at ns
      exact absurd ns (by decide)
    · intro h' t tk k
      exact ⟨V.str _, H, I.kept k, ⟨t, rfl⟩, q⟩
/-- repr of data, or of an empty dict -/
def rShowU (K : Frag) : List V → Hp → VK → Prop := fun xs H Q => rShow K xs H Q ∨ ∃ p, xs = [.ref p] ∧ H p = some (.dK []) ∧ Q (.str (PyData.dict []).shown) H
theorem u_show {X : Cx} (hq : Quiet X.A) (hu : X.A.units + 64 < cLine) : CallR X (.builtin "repr") (rShowU X.K) := (call_show hq hu).or (call_showE hq hu)
end EL

/- part E1 -/
/-! enumerate(v, start=k): how it is made -/
namespace EL
open PySem PySem.Spec PyProof.Rows L2
open PySem.W (Frag)
theorem tcall_enum_kw (a b : Value) : checkTypeCall "enumerate" ⟨[a], [("start", b)]⟩ = pure () := by kernel_rfl
theorem ncall_enum_kw (a b : Value) : checkBuiltinCall "enumerate.__new__" ⟨[.type "enumerate", a], [("start", b)]⟩ = pure () := by kernel_rfl
/-- the enumerate object, before its first turn -/
abbrev enumObj (r : Value) (k : Int) : Obj := { cls := .type "enumerate", data := .fields #[.none, .bool false, r, rawInt k, .none, .none] }
set_option maxHeartbeats 2000000 in
theorem meets_enum_kw {v : Value} {rv : Heap → Value} {f : Heap → Heap} {W : Heap → Prop}
    (IT : ∀ (prog : Program) (w : World) (A : Around) (E : Value → Shared → Prop) (s : Shared) (Q : Value → Shared → Prop), W s.heap → Q (rv s.heap) { s with heap := f s.heap } → wpAny (model prog w) A (pyIter v) Q E s)
    (k : Int) (t : Tok) (fit : Builtin.SmallTypes.fitsIndex k = true) :
    Meets (Builtin.«enumerate.__new__» ⟨[.type "enumerate", v], [("start", .int k t)]⟩) (fun _ R s => W s.heap ∧ R (.ok (.ret (.ref (f s.heap).objs.size))) { s with heap := (f s.heap).push (enumObj (rv s.heap) k) }) :=
  .of_wp fun prog w A R s h => by
    obtain ⟨hp, g, d, tk, os⟩ := s
    obtain ⟨h1, h⟩ := h
    have sub := sub_enumerate
    have nf : (!Builtin.SmallTypes.fitsIndex k) = false := by rw [fit]; rfl
    have go : ∀ {A' : Around} {E : Value → Shared → Prop} {Q : Value → Shared → Prop}, Q (rv hp) ⟨f hp, g, d, tk, os⟩ → wpAny (model prog w) A' (pyIter v) Q E ⟨hp, g, d, tk, os⟩ := fun q => IT prog w _ _ ⟨hp, g, d, tk, os⟩ _ h1 q
    wp_walk using go
    refine wpAny_stack_any fun st => wpAny_pure ?_
    split
    · rename_i c _ _ _ _ _
      cases (c == Value.type "enumerate")
      · wp_walk using go
        exact ⟨_, rfl, h⟩
      · wp_walk using go
        exact ⟨_, rfl, h⟩
    · wp_walk using go
      exact ⟨_, rfl, h⟩
end EL

/- part E2 -/
/-! enumerate over any iterator: one turn; zip over two tuples whose pair may still be about -/
namespace EL
open PySem PySem.Spec PyProof.Rows L2
open PySem.W (Frag)
section
variable {prog : Program} {w : World} {A : Around} {E : Value → Shared → Prop} {s : Shared}
theorem alive {a : Addr} {Q : Option Obj → Shared → Prop} (h : Q (s.heap.get? a) s) : wpAny (model prog w) A (loadIfAlive a) Q E s := fun _ _ _ => h
theorem enum_turn {e it : Addr} {c : Int} {old : Value} {R : Value → Heap → Prop} {Q : Value → Shared → Prop} (he : IsEnum s.heap e it c old)
    (inner : ∀ (Q' E' : Value → Shared → Prop), (∀ x h1 tk, IsEnum h1 e it c old → R x h1 → Q' x { s with heap := h1, toks := tk }) → wpAny (model prog w) A (Builtin.SmallTypes.nextOf (.ref it)) Q' E' s)
    (hQ : ∀ x h1 h' tk, R x h1 → e < h1.objs.size → IsEnumOut h' e it (c + 1) x h1.objs.size → h'.get? h1.objs.size = some { cls := .type "tuple", data := .seq #[.int c tk, x] } → h'.objs.size = h1.objs.size + 1 →
      (∀ b o, b ≠ e → h1.get? b = some o → h'.get? b = some o) → Q (.ref h1.objs.size) { s with heap := h', toks := tk + 1 }) :
    wpAny (model prog w) A (Builtin.«enumerate.__next__» ⟨[.ref e], []⟩) (fun fin s' => ∃ v, fin = .done (.ret v) ∧ Q v s') E s := by
  obtain ⟨hp, g, d, tk0, os⟩ := s
  refine wpAny_bind (m := field (.ref e) 2) (wpAny_field he rfl (x := .ref it) rfl (wpAny_bind (inner _ _ fun x h1 tk e1 r1 => ?_)))
  have lt : e < h1.objs.size := Heap.lt_size e1
  refine wpAny_bind (m := field (.ref e) 3) (wpAny_field e1 rfl (x := rawInt c) rfl ?_)
  refine wpAny_bind (m := field (.ref e) 4) (wpAny_field e1 rfl (x := .none) rfl ?_)
  refine wpAny_bind (m := mkInt c) (wpAny_mkInt ?_)
  refine wpAny_bind (m := setField (.ref e) 3 (rawInt (c + 1))) (wpAny_setField_rec e1 (by simp) fun h2 e2 k2 => ?_)
  have e2' : IsEnum h2 e it (c + 1) old := e2
  refine wpAny_bind (m := setField (.ref e) 4 .none) (wpAny_setField_rec e2' (by simp) fun h3 e3 k3 => ?_)
  have e3' : IsEnum h3 e it (c + 1) old := e3
  have z3 : h3.objs.size = h1.objs.size := k3.1.trans k2.1
  have up3 : ∀ b o, b ≠ e → h1.get? b = some o → h3.get? b = some o := fun b o hb q => Heap.SameBut.extBut k3 b o hb (Heap.SameBut.extBut k2 b o hb q)
  refine wpAny_bind (m := newTuple [.int c tk, x]) (wpAny_newTuple ?_)
  have e4 : IsEnum (h3.push { cls := .type "tuple", data := .seq #[.int c tk, x] }) e it (c + 1) old := Heap.get?_push_of_some _ e3'
  have t4 : (h3.push { cls := .type "tuple", data := .seq #[.int c tk, x] }).get? h1.objs.size = some { cls := .type "tuple", data := .seq #[.int c tk, x] } := by
    have q := Heap.get?_push_size h3 (o := { cls := .type "tuple", data := .seq #[.int c tk, x] }) rfl
    rw [z3] at q
    exact q
  have s4 : (h3.push { cls := .type "tuple", data := .seq #[.int c tk, x] }).objs.size = h1.objs.size + 1 := (Heap.size_push ..).trans (by rw [z3])
  have up4 : ∀ b o, b ≠ e → h1.get? b = some o → (h3.push { cls := .type "tuple", data := .seq #[.int c tk, x] }).get? b = some o := fun b o hb q => Heap.get?_push_of_some _ (up3 b o hb q)
  refine wpAny_bind (m := Builtin.SmallTypes.ownedTupleIsFree (.ref e)) ?_
  unfold Builtin.SmallTypes.ownedTupleIsFree
  refine wpAny_bind (m := field (.ref e) 0) (wpAny_field e4 rfl (x := .none) rfl (wpAny_pure ?_))
  rw [if_pos rfl]
  refine wpAny_bind (wpAny_rule (wpAny_bind (wpAny_field e4 rfl (x := old) rfl (wpAny_bind (wpAny_setField_rec e4 (by simp) fun h5 e5 k5 => ?_)))))
  have e5' : IsEnum h5 e it (c + 1) x := e5
  show wpAny _ _ (Builtin.SmallTypes.ownedTupleHandOut (.ref e) (.ref h3.objs.size) >>= _) _ _ _
  rw [z3]
  refine wpAny_bind ?_
  unfold Builtin.SmallTypes.ownedTupleHandOut
  refine wpAny_bind (wpAny_setField_rec e5' (by simp) fun h6 e6 k6 => wpAny_setField_rec e6 (by simp) fun h7 e7 k7 => ?_)
  have up : ∀ b o, b ≠ e → h1.get? b = some o → h7.get? b = some o := fun b o hb q =>
    Heap.SameBut.extBut k7 b o hb (Heap.SameBut.extBut k6 b o hb (Heap.SameBut.extBut k5 b o hb (up4 b o hb q)))
  have ne : h1.objs.size ≠ e := Nat.ne_of_gt lt
  refine wpAny_bind (wpAny_letGo (wpAny_pure ⟨_, rfl, hQ x h1 h7 tk r1 lt e7 ?_ ?_ up⟩))
  · exact Heap.SameBut.extBut k7 _ _ ne (Heap.SameBut.extBut k6 _ _ ne (Heap.SameBut.extBut k5 _ _ ne t4))
  · exact k7.1.trans (k6.1.trans (k5.1.trans s4))
end
end EL

/- part E3 -/
/-! one turn of zip(t1, t2), whatever became of the pair that it handed out last -/
namespace EL
open PySem PySem.Spec PyProof.Rows L2
open PySem.W (Frag)
/-- a zip object; f0 tells the pair that is out, b that it was met alive -/
abbrev zipObj (f0 : Value) (b : Bool) (TI TO : Addr) : Obj := { cls := .type "zip", dict := none, data := .fields #[f0, .bool b, .bool false, .ref TI, .ref TO], slots := #[] }
def OutMark (f0 : Value) : Prop := f0 = .none ∨ ∃ a : Addr, f0 = rawInt a
def ZipAt (h : Heap) (z TI TO : Addr) : Prop := ∃ f0 b, h.get? z = some (zipObj f0 b TI TO) ∧ OutMark f0
/-- the cells of the zip and of its two iterators lie apart -/
structure Apart (z TI TO i1 i2 t1 t2 : Addr) : Prop where
  zTI : z ≠ TI
  zTO : z ≠ TO
  zi1 : z ≠ i1
  zi2 : z ≠ i2
  zt1 : z ≠ t1
  zt2 : z ≠ t2
  TITO : TI ≠ TO
  TIi1 : TI ≠ i1
  TIi2 : TI ≠ i2
  TOi1 : TO ≠ i1
  TOi2 : TO ≠ i2
  TOt1 : TO ≠ t1
  TOt2 : TO ≠ t2
  i12 : i1 ≠ i2
  t1i1 : t1 ≠ i1
  t1i2 : t1 ≠ i2
  t2i1 : t2 ≠ i1
  t2i2 : t2 ≠ i2
section
variable {prog : Program} {w : World} {A : Around} {E : Value → Shared → Prop} {s : Shared} {z TI TO i1 i2 t1 t2 : Addr} {xs ys : Array Value} {i : Nat}
/-- what the zip stands on -/
structure ZipSt (h : Heap) (z TI TO i1 i2 t1 t2 : Addr) (xs ys : Array Value) (i : Nat) : Prop where
  zip : ZipAt h z TI TO
  ti : IsTupOf2 h TI (.ref i1) (.ref i2)
  to : ∃ a b, IsTupOf2 h TO a b
  it1 : h.IsTupleIter i1 t1 i
  it2 : h.IsTupleIter i2 t2 i
  tu1 : h.IsTuple t1 xs
  tu2 : h.IsTuple t2 ys
theorem ext_of {x : Addr} {h h' : Heap} (k : Heap.SameBut x h h') : ∀ b o, b ≠ x → h.get? b = some o → h'.get? b = some o := fun b o hb q => Heap.SameBut.extBut k b o hb q
/-- whether the pair is free: if not, the zip notes it -/
theorem free_or {f0 : Value} {b : Bool} {Q : Bool → Shared → Prop} (hz : s.heap.get? z = some (zipObj f0 b TI TO)) (mark : OutMark f0)
    (h1 : Q true s) (h2 : ∀ h' b', h'.get? z = some (zipObj f0 b' TI TO) → h'.objs.size = s.heap.objs.size → (∀ c o, c ≠ z → s.heap.get? c = some o → h'.get? c = some o) → Q false { s with heap := h' }) :
    wpAny (model prog w) A (Builtin.SmallTypes.ownedTupleIsFree (.ref z)) Q E s := by
  unfold Builtin.SmallTypes.ownedTupleIsFree
  rcases mark with rfl | ⟨a, rfl⟩
  · exact wpAny_bind (wpAny_field hz rfl (x := .none) rfl (wpAny_pure h1))
  · refine wpAny_bind (wpAny_field hz rfl (x := rawInt a) rfl ?_)
    refine wpAny_bind (alive ?_)
    have ea : ((a : Nat) : Int).toNat = a := rfl
    cases hal : s.heap.get? ((a : Nat) : Int).toNat with
    | none => exact wpAny_pure h1
    | some o =>
      refine wpAny_bind (m := field (.ref z) 1) (wpAny_field hz rfl (x := .bool b) rfl ?_)
      cases b with
      | true => exact wpAny_pure (h2 s.heap true hz rfl fun _ _ _ q => q)
      | false =>
        refine wpAny_bind (m := setField (.ref z) 1 (.bool true)) (wpAny_setField_rec hz (by simp) fun h' e' k' => wpAny_pure ?_)
        exact h2 h' true e' k'.1 (ext_of k')
theorem drawn {it t : Addr} {vs : Array Value} {v : Value} {Q : Value → Shared → Prop} (hit : s.heap.IsTupleIter it t i) (ht : s.heap.IsTuple t vs) (hv : vs[i]? = some v)
    (h : ∀ h', h'.IsTupleIter it t (i + 1) → Heap.SameBut it s.heap h' → Q v { s with heap := h' }) : wpAny (model prog w) A (Builtin.SmallTypes.nextOf (.ref it)) Q E s :=
  wpAny_nextOf_tuple_item hit ht hv h
theorem zip_turn {x y : Value} {Q : Value → Shared → Prop} (ap : Apart z TI TO i1 i2 t1 t2) (st : ZipSt s.heap z TI TO i1 i2 t1 t2 xs ys i) (hx : xs[i]? = some x) (hy : ys[i]? = some y)
    (hQ : ∀ h' tk, ZipSt h' z TI TO i1 i2 t1 t2 xs ys (i + 1) → IsTupOf2 h' s.heap.objs.size x y → h'.objs.size = s.heap.objs.size + 1 →
      (∀ c o, c ≠ z → c ≠ TO → c ≠ i1 → c ≠ i2 → s.heap.get? c = some o → h'.get? c = some o) → Q (.ref s.heap.objs.size) { s with heap := h', toks := tk }) :
    wpAny (model prog w) A (Builtin.«zip.__next__» ⟨[.ref z], []⟩) (fun fin s' => ∃ v, fin = .done (.ret v) ∧ Q v s') E s := by
  obtain ⟨⟨f0, b, hz, mark⟩, hti, ⟨a0, b0, hto⟩, h1, h2, u1, u2⟩ := st
  obtain ⟨hp, g, d, tk0, os⟩ := s
  replace hz : hp.get? z = some (zipObj f0 b TI TO) := hz
  replace hti : IsTupOf2 hp TI (.ref i1) (.ref i2) := hti
  replace hto : IsTupOf2 hp TO a0 b0 := hto
  replace h1 : hp.IsTupleIter i1 t1 i := h1
  replace h2 : hp.IsTupleIter i2 t2 i := h2
  replace u1 : hp.IsTuple t1 xs := u1
  replace u2 : hp.IsTuple t2 ys := u2
  refine wpAny_bind (m := field (.ref z) 2) (wpAny_field hz rfl (x := .bool false) rfl ?_)
  refine wpAny_bind (m := field (.ref z) 3) (wpAny_field hz rfl (x := .ref TI) rfl ?_)
  refine wpAny_bind (wpAny_seqItems hti rfl ?_)
  have lz : z < hp.objs.size := Heap.lt_size hz
  have an := ap
  refine wpAny_bind (free_or hz mark ?_ ?_)
  · rw [if_pos rfl]
    refine wpAny_bind (wpAny_rule (wpAny_bind (wpAny_field hz rfl (x := .ref TO) rfl (wpAny_bind (wpAny_setField_rec hz (by simp) fun g0 z0 k0 => ?_)))))
    replace z0 : g0.get? z = some (zipObj .ellipsis b TI TO) := z0
    replace k0 : Heap.SameBut z hp g0 := k0
    refine wpAny_bind ?_
    simp only [List.zipIdx_cons, List.zipIdx_nil, List.forIn_cons, List.forIn_nil]
    refine wpAny_bind (wpAny_bind (wpAny_onRaise ?_))
    show wpAny _ _ (Builtin.SmallTypes.nextOf (.ref i1) >>= _) _ _ ⟨g0, g, d, tk0, os⟩
    refine wpAny_bind (drawn (s := ⟨g0, g, d, tk0, os⟩) (h1.at fun o q => ext_of k0 _ _ ap.zi1.symm q) (u1.at fun o q => ext_of k0 _ _ ap.zt1.symm q) hx fun g1 n1 k1 => wpAny_pure ?_)
    replace k1 : Heap.SameBut i1 g0 g1 := k1
    have to1 : IsTupOf2 g1 TO a0 b0 := ext_of k1 _ _ ap.TOi1 (ext_of k0 _ _ ap.zTO.symm hto)
    refine wpAny_bind (wpAny_seqItems (s := ⟨g1, g, d, tk0, os⟩) to1 rfl ?_)
    refine wpAny_bind (updateSeq_IsTupOf2 (s := ⟨g1, g, d, tk0, os⟩) to1 fun g2 to2 k2 => ?_)
    replace k2 : Heap.SameBut TO g1 g2 := k2
    replace to2 : IsTupOf2 g2 TO x b0 := to2
    refine wpAny_bind (wpAny_letGo (wpAny_pure ?_))
    refine wpAny_bind (wpAny_bind (wpAny_onRaise ?_))
    show wpAny _ _ (Builtin.SmallTypes.nextOf (.ref i2) >>= _) _ _ ⟨g2, g, d, tk0, os⟩
    refine wpAny_bind (drawn (s := ⟨g2, g, d, tk0, os⟩) (h2.at fun o q => ext_of k2 _ _ ap.TOi2.symm (ext_of k1 _ _ ap.i12.symm (ext_of k0 _ _ ap.zi2.symm q)))
      (u2.at fun o q => ext_of k2 _ _ ap.TOt2.symm (ext_of k1 _ _ ap.t2i1 (ext_of k0 _ _ ap.zt2.symm q))) hy fun g3 n3 k3 => wpAny_pure ?_)
    replace k3 : Heap.SameBut i2 g2 g3 := k3
    have to3 : IsTupOf2 g3 TO x b0 := ext_of k3 _ _ ap.TOi2 to2
    refine wpAny_bind (wpAny_seqItems (s := ⟨g3, g, d, tk0, os⟩) to3 rfl ?_)
    refine wpAny_bind (updateSeq_IsTupOf2 (s := ⟨g3, g, d, tk0, os⟩) to3 fun g4 to4 k4 => ?_)
    replace k4 : Heap.SameBut TO g3 g4 := k4
    replace to4 : IsTupOf2 g4 TO x y := to4
    refine wpAny_bind (wpAny_letGo (wpAny_pure (wpAny_pure ?_)))
    refine wpAny_bind (wpAny_seqItems (s := ⟨g4, g, d, tk0, os⟩) to4 rfl (wpAny_bind (wpAny_newTuple ?_)))
    have z4 : g4.objs.size = hp.objs.size := by rw [k4.1, k3.1, k2.1, k1.1, k0.1]
    have up4 : ∀ c o, c ≠ z → c ≠ TO → c ≠ i1 → c ≠ i2 → hp.get? c = some o → g4.get? c = some o := fun c o cz cT c1 c2 q =>
      ext_of k4 _ _ cT (ext_of k3 _ _ c2 (ext_of k2 _ _ cT (ext_of k1 _ _ c1 (ext_of k0 _ _ cz q))))
    have zz4 : g4.get? z = some (zipObj .ellipsis b TI TO) := ext_of k4 _ _ ap.zTO (ext_of k3 _ _ ap.zi2 (ext_of k2 _ _ ap.zTO (ext_of k1 _ _ ap.zi1 z0)))
    generalize e5 : g4.push { cls := .type "tuple", data := .seq (#[x, y] : Array Value) } = g5
    have up5 : ∀ c o, g4.get? c = some o → g5.get? c = some o := fun c o q => by rw [← e5]; exact Heap.get?_push_of_some _ q
    have tt5 : IsTupOf2 g5 hp.objs.size x y := by rw [← e5, ← z4]; exact Heap.get?_push_size _ rfl
    have z5 : g5.objs.size = hp.objs.size + 1 := by rw [← e5, Heap.size_push, z4]
    refine wpAny_bind ?_
    show wpAny _ _ (Builtin.SmallTypes.ownedTupleHandOut (.ref z) (.ref g4.objs.size)) _ _ _
    unfold Builtin.SmallTypes.ownedTupleHandOut
    have z5' : g5.get? z = some (zipObj .ellipsis b TI TO) := up5 _ _ zz4
    refine wpAny_bind (wpAny_setField_rec z5' (by simp) fun g6 z6 k6 => ?_)
    replace k6 : Heap.SameBut z g5 g6 := k6
    refine wpAny_setField_rec z6 (by simp) fun g7 z7 k7 => ?_
    replace k7 : Heap.SameBut z g6 g7 := k7
    have up7 : ∀ c o, c ≠ z → g4.get? c = some o → g7.get? c = some o := fun c o cz q => ext_of k7 _ _ cz (ext_of k6 _ _ cz (up5 _ _ q))
    have nz : hp.objs.size ≠ z := Nat.ne_of_gt lz
    refine wpAny_pure ⟨_, rfl, ?_⟩
    show Q (.ref g4.objs.size) ⟨g7, g, d, tk0, os⟩
    rw [z4]
    refine hQ g7 tk0 ⟨⟨rawInt g4.objs.size, false, z7, .inr ⟨_, rfl⟩⟩, ?_, ⟨x, y, up7 _ _ ap.zTO.symm to4⟩, ?_, ?_, ?_, ?_⟩ ?_ ?_ ?_
    · exact up7 _ _ ap.zTI.symm (up4 _ _ ap.zTI.symm ap.TITO ap.TIi1 ap.TIi2 hti)
    · exact n1.at fun o q => up7 _ _ ap.zi1.symm (ext_of k4 _ _ ap.TOi1.symm (ext_of k3 _ _ ap.i12 (ext_of k2 _ _ ap.TOi1.symm q)))
    · exact n3.at fun o q => up7 _ _ ap.zi2.symm (ext_of k4 _ _ ap.TOi2.symm q)
    · exact u1.at fun o q => up7 _ _ ap.zt1.symm (up4 _ _ ap.zt1.symm ap.TOt1.symm ap.t1i1 ap.t1i2 q)
    · exact u2.at fun o q => up7 _ _ ap.zt2.symm (up4 _ _ ap.zt2.symm ap.TOt2.symm ap.t2i1 ap.t2i2 q)
    · exact ext_of k7 _ _ nz (ext_of k6 _ _ nz tt5)
    · rw [k7.1, k6.1, z5]
    · exact fun c o cz cT c1 c2 q => up7 _ _ cz (up4 c o cz cT c1 c2 q)
  · intro h0 b' z0 s0 k0
    replace s0 : h0.objs.size = hp.objs.size := s0
    replace k0 : ∀ c o, c ≠ z → hp.get? c = some o → h0.get? c = some o := k0
    rw [if_neg (by decide)]
    refine wpAny_bind ?_
    simp only [List.forIn_toArray, List.forIn_cons, List.forIn_nil]
    refine wpAny_bind (wpAny_bind (wpAny_holding ?_))
    show wpAny _ _ (Builtin.SmallTypes.nextOf (.ref i1) >>= _) _ _ ⟨h0, g, d, tk0, os⟩
    refine wpAny_bind (drawn (s := ⟨h0, g, d, tk0, os⟩) (h1.at fun o q => k0 _ _ ap.zi1.symm q) (u1.at fun o q => k0 _ _ ap.zt1.symm q) hx fun g1 n1 k1 => wpAny_pure ?_)
    replace k1 : Heap.SameBut i1 h0 g1 := k1
    refine wpAny_pure ?_
    refine wpAny_bind (wpAny_bind (wpAny_holding ?_))
    show wpAny _ _ (Builtin.SmallTypes.nextOf (.ref i2) >>= _) _ _ ⟨g1, g, d, tk0, os⟩
    refine wpAny_bind (drawn (s := ⟨g1, g, d, tk0, os⟩) (h2.at fun o q => ext_of k1 _ _ ap.i12.symm (k0 _ _ ap.zi2.symm q)) (u2.at fun o q => ext_of k1 _ _ ap.t2i1 (k0 _ _ ap.zt2.symm q)) hy fun g2 n2 k2 => wpAny_pure ?_)
    replace k2 : Heap.SameBut i2 g1 g2 := k2
    refine wpAny_pure (wpAny_pure ?_)
    refine wpAny_bind (wpAny_newTuple ?_ (by show 2 ≤ sizeLine; decide))
    have z2 : g2.objs.size = hp.objs.size := by rw [k2.1, k1.1, s0]
    have up : ∀ c o, c ≠ z → c ≠ i1 → c ≠ i2 → hp.get? c = some o → (g2.push { cls := .type "tuple", data := .seq (#[x, y] : Array Value) }).get? c = some o := fun c o cz c1 c2 q =>
      Heap.get?_push_of_some _ (ext_of k2 _ _ c2 (ext_of k1 _ _ c1 (k0 _ _ cz q)))
    refine wpAny_pure ⟨_, rfl, ?_⟩
    show Q (.ref g2.objs.size) ⟨g2.push { cls := .type "tuple", data := .seq (#[x, y] : Array Value) }, g, d, tk0, os⟩
    rw [z2]
    refine hQ _ tk0 ⟨⟨f0, b', Heap.get?_push_of_some _ (ext_of k2 _ _ ap.zi2 (ext_of k1 _ _ ap.zi1 z0)), mark⟩, up _ _ ap.zTI.symm ap.TIi1 ap.TIi2 hti, ⟨a0, b0, up _ _ ap.zTO.symm ap.TOi1 ap.TOi2 hto⟩, ?_, ?_, ?_, ?_⟩ ?_ ?_ ?_
    · exact n1.at fun o q => Heap.get?_push_of_some _ (ext_of k2 _ _ ap.i12 q)
    · exact n2.at fun o q => Heap.get?_push_of_some _ q
    · exact u1.at fun o q => up _ _ ap.zt1.symm ap.t1i1 ap.t1i2 q
    · exact u2.at fun o q => up _ _ ap.zt2.symm ap.t2i1 ap.t2i2 q
    · have q := Heap.get?_push_size g2 (o := { cls := .type "tuple", data := .seq (#[x, y] : Array Value) }) rfl
      rw [z2] at q
      exact q
    · rw [Heap.size_push, z2]
    · exact fun c o cz cT c1 c2 q => up c o cz c1 c2 q
end
end EL

/- part E4 -/
/-! for i, x in enumerate(t, start=k) over a tuple; for i, (x, y) in enumerate(zip(t, u), start=k) over two tuples of one length -/
namespace EL
open PySem PySem.Spec PyProof.Rows L2
open PySem.W (Frag)
section
variable {prog : Program} {w : World} {A : Around} {E : Value → Shared → Prop} {s : Shared} {z TI TO i1 i2 t1 t2 : Addr} {xs ys : Array Value} {i : Nat}
theorem zip_over {Q : Fin → Shared → Prop} (hh : A.handled = none) (ap : Apart z TI TO i1 i2 t1 t2) (st : ZipSt s.heap z TI TO i1 i2 t1 t2 xs ys i) (hx : xs[i]? = none)
    (hE : ∀ h' e, (∀ c o, c ≠ z → c ≠ TO → c ≠ i1 → c ≠ i2 → s.heap.get? c = some o → h'.get? c = some o) → (∃ o, h'.get? e = some o ∧ o.cls = .type "StopIteration") → E (.ref e) { s with heap := h' }) :
    wpAny (model prog w) A (Builtin.«zip.__next__» ⟨[.ref z], []⟩) Q E s := by
  obtain ⟨⟨f0, b, hz, mark⟩, hti, ⟨a0, b0, hto⟩, h1, h2, u1, u2⟩ := st
  obtain ⟨hp, g, d, tk0, os⟩ := s
  replace hz : hp.get? z = some (zipObj f0 b TI TO) := hz
  replace h1 : hp.IsTupleIter i1 t1 i := h1
  replace u1 : hp.IsTuple t1 xs := u1
  refine wpAny_bind (m := field (.ref z) 2) (wpAny_field hz rfl (x := .bool false) rfl ?_)
  refine wpAny_bind (m := field (.ref z) 3) (wpAny_field hz rfl (x := .ref TI) rfl ?_)
  refine wpAny_bind (wpAny_seqItems hti rfl ?_)
  refine wpAny_bind (free_or hz mark ?_ ?_)
  · rw [if_pos rfl]
    refine wpAny_bind (wpAny_rule (wpAny_bind (wpAny_field hz rfl (x := .ref TO) rfl (wpAny_bind (wpAny_setField_rec hz (by simp) fun g0 z0 k0 => ?_)))))
    replace z0 : g0.get? z = some (zipObj .ellipsis b TI TO) := z0
    replace k0 : Heap.SameBut z hp g0 := k0
    refine wpAny_bind ?_
    simp only [List.zipIdx_cons, List.zipIdx_nil, List.forIn_cons, List.forIn_nil]
    refine wpAny_bind (wpAny_bind (wpAny_onRaise ?_))
    show wpAny _ _ (Builtin.SmallTypes.nextOf (.ref i1) >>= _) _ _ ⟨g0, g, d, tk0, os⟩
    refine wpAny_bind (wpAny_nextOf_tuple_end (s := ⟨g0, g, d, tk0, os⟩) hh (h1.at fun o q => ext_of k0 _ _ ap.zi1.symm q) (u1.at fun o q => ext_of k0 _ _ ap.zt1.symm q) hx fun g1 e k1 he => ?_)
    replace k1 : Heap.ExtBut i1 g0 g1 := k1
    obtain ⟨oe, he, hc⟩ := he
    replace he : g1.get? e = some oe := he
    have z1 : g1.get? z = some (zipObj .ellipsis b TI TO) := k1 _ _ ap.zi1 z0
    have ez : e ≠ z := by
      rintro rfl
      rw [z1] at he
      cases he
      simp at hc
    refine wpAny_setField_rec (s := ⟨g1, g, d, tk0, os⟩) z1 (by simp) fun g2 _ k2 => ?_
    replace k2 : Heap.SameBut z g1 g2 := k2
    exact hE g2 e (fun c o cz cT c1 c2 q => ext_of k2 _ _ cz (k1 _ _ c1 (ext_of k0 _ _ cz q))) ⟨oe, ext_of k2 _ _ ez he, hc⟩
  · intro h0 b' z0 s0 k0
    replace k0 : ∀ c o, c ≠ z → hp.get? c = some o → h0.get? c = some o := k0
    rw [if_neg (by decide)]
    refine wpAny_bind ?_
    simp only [List.forIn_toArray, List.forIn_cons, List.forIn_nil]
    refine wpAny_bind (wpAny_bind (wpAny_holding ?_))
    show wpAny _ _ (Builtin.SmallTypes.nextOf (.ref i1) >>= _) _ _ ⟨h0, g, d, tk0, os⟩
    refine wpAny_bind (wpAny_nextOf_tuple_end (s := ⟨h0, g, d, tk0, os⟩) hh (h1.at fun o q => k0 _ _ ap.zi1.symm q) (u1.at fun o q => k0 _ _ ap.zt1.symm q) hx fun g1 e k1 he => ?_)
    replace k1 : Heap.ExtBut i1 h0 g1 := k1
    exact hE g1 e (fun c o cz cT c1 c2 q => k1 _ _ c1 (k0 _ _ cz q)) he
theorem zipType {f0 : Value} {b : Bool} (hz : s.heap.get? z = some (zipObj f0 b TI TO)) : s.TypeIs (.ref z) "zip" := ⟨_, hz, rfl⟩
/-- next(z) within a built-in -/
theorem zip_drawn {Q E' : Value → Shared → Prop} (hz : ZipAt s.heap z TI TO) (h : wpAny (model prog w) A.in1 (Builtin.«zip.__next__» ⟨[.ref z], []⟩) (fun fin s' => ∃ v, fin = .done (.ret v) ∧ Q v s') E' s) :
    wpAny (model prog w) A (Builtin.SmallTypes.nextOf (.ref z)) Q E' s := by
  obtain ⟨f0, b, e, _⟩ := hz
  unfold Builtin.SmallTypes.nextOf
  refine wpAny_bind (wpAny_callSpecial?_slot (name := Str.ofString "__next__") (zipType e) F.slot_zip_next (wpAny_call_entry F.slot_zip_next (zipType e) F.entry_zip_next ?_ (F.args_zip_next_1 _)))
  refine wpAny_mono h ?_ (fun _ _ q => q)
  rintro fin s' ⟨v, rfl, q⟩
  exact ⟨v, rfl, wpAny_pure q⟩
theorem zip_itself {Q : Value → Shared → Prop} (hz : ZipAt s.heap z TI TO) (h : Q (.ref z) s) : wpAny (model prog w) A (pyIter (.ref z)) Q E s := by
  obtain ⟨f0, b, e, _⟩ := hz
  exact wpAny_pyIter_slot (zipType e) F.slot_zip_iter (wpAny_call_entry F.slot_zip_iter (zipType e) F.entry_zip_iter (wpAny_pure ⟨_, rfl, "zip", _, zipType e, F.slot_zip_next.lookup, h⟩) (F.args_zip_iter_1 _))
end
/-- enumerate(v, start=k) as a call -/
theorem enum_made {prog : Program} {w : World} {A : Around} {E : Value → Shared → Prop} {s : Shared} {v : Value} {rv : Heap → Value} {f : Heap → Heap} {W : Heap → Prop} {k : Int} {t : Tok} {Q : Value → Shared → Prop}
    (IT : ∀ (prog : Program) (w : World) (A : Around) (E : Value → Shared → Prop) (s : Shared) (Q : Value → Shared → Prop), W s.heap → Q (rv s.heap) { s with heap := f s.heap } → wpAny (model prog w) A (pyIter v) Q E s)
    (h0 : -(2 ^ 63) ≤ k) (h1 : k < 2 ^ 63) (hw : W s.heap)
    (h : Q (.ref (f s.heap).objs.size) { s with heap := (f s.heap).push (enumObj (rv s.heap) k) }) :
    wpAny (model prog w) A (call (.type "enumerate") [v] [(Str.ofString "start", .int k t)]) Q E s := by
  refine callType_newKw F.called_enumerate (by decide) (F.typeCall_enumerate_start _ _) (F.newCall_enumerate_start _ _) (fun obj => F.args_object_init_start obj _ _) F.entry_enumerate_new (meets_enum_kw IT k t (fits_start h0 h1)) ⟨hw, ?_⟩
  exact ⟨⟨_, Heap.get?_push_size _ rfl, rfl⟩, h⟩
/-- the keyword call of a built-in type -/
theorem callType_kw {M : Model} {A : Around} {E : Value → Shared → Prop} {s : Shared} {env : Env} {pos : Pos} {T : String} {e : Expr} {rest : List Expr} {kws : List Keyword} {Q : Value → Shared → Prop}
    (h : wpAny M A (spliced (backTo pos (starEach (e :: rest) env))) (fun vs s1 => wpAny M A (evalAll ((backToKw pos (keywordEach kws env)).map (·.2)))
      (fun us s2 => wpAny M A (call (.type T) vs (((backToKw pos (keywordEach kws env)).filterMap (·.1)).zip us)) Q E s2) E s1) E s)
    (he : starEach (e :: rest) env = (false, eval e env) :: starEach rest env) (hp : (backTo pos (starEach (e :: rest) env)).any (·.1) = false)
    (ha : (backToKw pos (keywordEach kws env)).all (·.1.isSome) = true) (hn : (backToKw pos (keywordEach kws env)).any (·.1.isNone) = false) :
    wpAny M A (callWith pos (.type T) [] (backTo pos (starEach (e :: rest) env)) (backToKw pos (keywordEach kws env))) Q E s := by
  have z := evalArgs_kw2 (f := .type T) (Q := fun a s1 => wpAny M A (call (.type T) a.pos a.kw) Q E s1) ha h he
  unfold callWith
  refine wpAny_bind (wpAny_holding (wpAny_mono z (fun a s1 q => wpAny_bind (wpAny_standAt ?_)) fun _ _ q => q))
  rw [hp, hn]
  simp only [Bool.or_false]
  refine wpAny_bind (wpAny_pure ?_)
  exact wpAny_bind (wpAny_mono q (fun r s2 hr => wpAny_bind (wpAny_holding (wpAny_point (wpAny_pure hr)))) fun _ _ q => q)
end EL

/- part E5 -/
namespace EL
open PySem PySem.Spec PyProof.Rows L2
open PySem.W (Frag)
/-! ### enumerate(zip(t, u), start=k) -/
/-- each turn: a new pair of the two items, a new pair of the count and that pair -/
def Itez (K : Frag) (a b : Addr) (k : Int) : It :=
  ⟨fun i H => ∃ (xs ys : List V) (x y : V), SqT K H a xs ∧ SqT K H b ys ∧ xs[i]? = some x ∧ ys[i]? = some y,
    fun i H v H' => ∃ (T0 T1 : Addr) (x y : V), v = .ref T1 ∧ H T0 = none ∧ H T1 = none ∧ T0 ≠ T1 ∧ H' = upd (upd H T0 (.tup [x, y])) T1 (.tup [.int (k + i), .ref T0]) ∧ (∀ xs, SqT K H a xs → xs[i]? = some x) ∧ ∀ ys, SqT K H b ys → ys[i]? = some y,
    fun i H => ∃ xs ys : List V, SqT K H a xs ∧ SqT K H b ys ∧ xs.length ≤ i⟩
def TurnEz (e z TI TO i1 i2 t1 t2 : Addr) (k : Int) (i : Nat) (h : Heap) : Prop :=
  (∃ old, IsEnum h e z (k + i) old) ∧ ZipAt h z TI TO ∧ IsTupOf2 h TI (.ref i1) (.ref i2) ∧ (∃ a b, IsTupOf2 h TO a b) ∧ h.IsTupleIter i1 t1 i ∧ h.IsTupleIter i2 t2 i
theorem fp_mem {e z TI TO i1 i2 b : Addr} (h : b ∈ [e, z, TI, TO, i1, i2]) : b = e ∨ b = z ∨ b = TI ∨ b = TO ∨ b = i1 ∨ b = i2 := by simpa using h
theorem fpOk_upd {X : Cx} {pins : List (Addr × Obj)} {H : Hp} {b T : Addr} {o : HO} (f : FpOk X pins H b) (h : b ≠ T) : FpOk X pins (upd H T o) b :=
  ⟨by rw [upd_ne h]; exact f.1, f.2⟩
theorem turn_ez {P : Program} {w : World} {K : Frag} {elts : List Expr} {kk : Nat} {tpos : Pos} {e z TI TO i1 i2 t1 t2 : Addr} {k : Int} (ap : Apart z TI TO i1 i2 t1 t2)
    (ne : ∀ b ∈ [z, TI, TO, i1, i2], e ≠ b) (te1 : t1 ≠ e) (te2 : t2 ≠ e) :
    Turn P w K (.Tuple elts kk tpos) (Itez K t1 t2 k) [e, z, TI, TO, i1, i2] e (TurnEz e z TI TO i1 i2 t1 t2 k) where
  mem := by simp
  obj := fun i h st b hb => by
    obtain ⟨⟨old, he⟩, ⟨f0, b0, hz, _⟩, hti, ⟨a1, a2, hto⟩, ⟨o1, q1, _, d1⟩, ⟨o2, q2, _, d2⟩⟩ := st
    rcases fp_mem hb with q | q | q | q | q | q <;> subst q
    · exact ⟨_, he, fun v q => nomatch q⟩
    · exact ⟨_, hz, fun v q => nomatch q⟩
    · exact ⟨_, hti, fun v q => nomatch q⟩
    · exact ⟨_, hto, fun v q => nomatch q⟩
    · exact ⟨o1, q1, fun v q => by rw [d1] at q; cases q⟩
    · exact ⟨o2, q2, fun v q => by rw [d2] at q; cases q⟩
  keep := fun i h h' st kp => by
    obtain ⟨⟨old, he⟩, ⟨f0, b0, hz, m⟩, hti, ⟨a1, a2, hto⟩, h1, h2⟩ := st
    exact ⟨⟨old, kp e (by simp) _ he⟩, ⟨f0, b0, kp z (by simp) _ hz, m⟩, kp TI (by simp) _ hti, ⟨a1, a2, kp TO (by simp) _ hto⟩, h1.at fun o q => kp i1 (by simp) o q, h2.at fun o q => kp i2 (by simp) o q⟩
  item := by
    intro X hP hw hK hc i pins s σ H E I hf st hg
    subst hP hw hK
    obtain ⟨⟨old, he⟩, hz, hti, hto, h1, h2⟩ := st
    obtain ⟨xs, ys, x, y, hqx, hqy, hx, hy⟩ := hg
    obtain ⟨its, rv, p, _⟩ := I.tuple hqx
    obtain ⟨its2, rv2, p2, _⟩ := I.tuple hqy
    obtain ⟨u, hu, ru⟩ := rv.get hx
    obtain ⟨u2, hu2, ru2⟩ := rv2.get hy
    have old_lt : ∀ {b o}, s.heap.get? b = some o → b < s.heap.objs.size := fun q => Heap.lt_size q
    have le : e < s.heap.objs.size := old_lt he
    have typ : s.TypeIs (.ref e) "enumerate" := ⟨_, he, rfl⟩
    have ez : e ≠ z := ne z (by simp)
    unfold pyNext
    refine wpAny_bind (wpAny_attempt (wpAny_callSpecial?_slot (name := Str.ofString "__next__") typ F.slot_enumerate_next (wpAny_call_entry F.slot_enumerate_next typ F.entry_enumerate_next
      (wpAny_mono (enum_turn (R := fun v h1 => v = .ref s.heap.objs.size ∧ ZipSt h1 z TI TO i1 i2 t1 t2 its.toArray its2.toArray (i + 1) ∧ IsTupOf2 h1 s.heap.objs.size u u2 ∧ h1.objs.size = s.heap.objs.size + 1 ∧
          ∀ c o, c ≠ z → c ≠ TO → c ≠ i1 → c ≠ i2 → s.heap.get? c = some o → h1.get? c = some o)
        (Q := fun v s' => wpAny (model X.prog X.w) X.A (letOwnedTupleGo (.Tuple elts kk tpos) (.ref e) v) (fun _ s2 => ∃ x H', Inv X pins σ H' s2 ∧ RelV x v ∧ (Itez X.K t1 t2 k).yld i H x H' ∧ TurnEz e z TI TO i1 i2 t1 t2 k (i + 1) s2.heap ∧ ∀ b ∈ [e, z, TI, TO, i1, i2], H' b = none) E s')
        he (fun Q' E' hq => zip_drawn hz (zip_turn ap ⟨hz, hti, hto, h1, h2, p, p2⟩ (by simpa using hu) (by simpa using hu2) fun h' tk st' t' z' k' => hq _ h' tk ?_ ⟨rfl, st', t', z', k'⟩)) ?_) ?_ (fun _ _ q => q)) (F.args_enumerate_next_1 _))))
    · exact k' e _ ez (ne TO (by simp)) (ne i1 (by simp)) (ne i2 (by simp)) he
    · rintro v g1 g2 tk ⟨rfl, st1, pr, z1, k1⟩ _ eo tp z2 k2
      have lt1 : e < g1.objs.size := by rw [z1]; exact Nat.lt_succ_of_lt le
      refine wpAny_letOwnedTupleGo_enum (s := { s with heap := g2, toks := tk + 1 }) eo fun g3 e3 k3 => ?_
      replace k3 : Heap.SameBut e g2 g3 := k3
      -- the pair of the zip, then the pair of the enumerate
      have I1 : Inv X pins σ (upd H s.heap.objs.size (.tup [x, y])) { s with heap := g1, toks := tk } :=
        I.turnedNew (ch := [z, TO, i1, i2]) (fun c o hc q => k1 c o (fun q' => hc (by simp [q'])) (fun q' => hc (by simp [q'])) (fun q' => hc (by simp [q'])) (fun q' => hc (by simp [q'])) q)
          (fun b hb => hf b (by
            have q : b = z ∨ b = TO ∨ b = i1 ∨ b = i2 := by simpa using hb
            rcases q with q | q | q | q <;> simp [q])) (Nat.le_refl _)
          ⟨by show 2 ≤ sizeLine; decide, [u, u2], .cons ru (.cons ru2 .nil), ⟨_, pr, rfl, _, rfl⟩⟩
      have n1 : e ≠ s.heap.objs.size := Nat.ne_of_lt le
      have T1 : g3.get? g1.objs.size = some { cls := .type "tuple", data := .seq #[.int (k + i) tk, .ref s.heap.objs.size] } := ext_of k3 _ _ (Nat.ne_of_gt lt1) tp
      have I2 : Inv X pins σ (upd (upd H s.heap.objs.size (.tup [x, y])) g1.objs.size (.tup [.int (k + i), .ref s.heap.objs.size])) { s with heap := g3, toks := tk + 1 } :=
        I1.turnedNew (ch := [e]) (fun c o hc q => ext_of k3 _ _ (fun q' => hc (by simp [q'])) (k2 c o (fun q' => hc (by simp [q'])) q))
          (fun b hb => by
            have q : b = e := by simpa using hb
            subst q
            exact fpOk_upd (hf _ (by simp)) n1) (Nat.le_refl _)
          ⟨by show 2 ≤ sizeLine; decide, [.int (k + i) tk, .ref s.heap.objs.size], .cons ⟨_, rfl⟩ (.cons rfl .nil), ⟨_, T1, rfl, _, rfl⟩⟩
      have lz : ∀ b ∈ [e, z, TI, TO, i1, i2], b < s.heap.objs.size := by
        intro b hb
        rcases fp_mem hb with q | q | q | q | q | q <;> subst q
        · exact le
        · exact let ⟨_, _, q, _⟩ := hz; old_lt q
        · exact old_lt hti
        · exact let ⟨_, _, q⟩ := hto; old_lt q
        · exact let ⟨_, q, _⟩ := h1; old_lt q
        · exact let ⟨_, q, _⟩ := h2; old_lt q
      have f0 : H s.heap.objs.size = none := I.hok.fresh (Nat.le_refl _)
      have f1 : H g1.objs.size = none := I.hok.fresh (by rw [z1]; omega)
      refine ⟨.ref g1.objs.size, _, I2, rfl, ⟨s.heap.objs.size, g1.objs.size, x, y, rfl, f0, f1, by rw [z1]; exact Nat.ne_of_lt (Nat.lt_succ_self _), rfl, fun l hl => by rw [I.tuple_inj hl hqx]; exact hx, fun l hl => by rw [I.tuple_inj hl hqy]; exact hy⟩, ⟨⟨.ref s.heap.objs.size, ?_⟩, ?_, ?_, ?_, ?_, ?_⟩, fun b hb => ?_⟩
      · have q : (k + ((i + 1 : Nat) : Int)) = k + i + 1 := by omega
        rw [q]
        exact e3
      · obtain ⟨f, b, q, m⟩ := st1.zip
        exact ⟨f, b, ext_of k3 _ _ ez.symm (k2 _ _ ez.symm q), m⟩
      · exact ext_of k3 _ _ (ne TI (by simp)).symm (k2 _ _ (ne TI (by simp)).symm st1.ti)
      · obtain ⟨a1, a2, q⟩ := st1.to
        exact ⟨a1, a2, ext_of k3 _ _ (ne TO (by simp)).symm (k2 _ _ (ne TO (by simp)).symm q)⟩
      · exact st1.it1.at fun o q => ext_of k3 _ _ (ne i1 (by simp)).symm (k2 _ _ (ne i1 (by simp)).symm q)
      · exact st1.it2.at fun o q => ext_of k3 _ _ (ne i2 (by simp)).symm (k2 _ _ (ne i2 (by simp)).symm q)
      · have q := lz b hb
        rw [upd_ne (by rw [z1]; exact Nat.ne_of_lt (Nat.lt_succ_of_lt q)), upd_ne (Nat.ne_of_lt q)]
        exact (hf b hb).1
    · rintro fin s' ⟨v, rfl, q⟩
      exact ⟨v, rfl, wpAny_pure ⟨v, rfl, q⟩⟩
  done := by
    intro X hP hw hK hc i pins s σ H E I hf st hg
    subst hP hw hK
    obtain ⟨⟨old, he⟩, hz, hti, hto, h1, h2⟩ := st
    obtain ⟨xs, ys, hqx, hqy, hx⟩ := hg
    obtain ⟨its, rv, p, _⟩ := I.tuple hqx
    obtain ⟨its2, rv2, p2, _⟩ := I.tuple hqy
    have l1 := rv.length
    have typ : s.TypeIs (.ref e) "enumerate" := ⟨_, he, rfl⟩
    unfold pyNext
    refine wpAny_bind (wpAny_attempt (wpAny_callSpecial?_slot (name := Str.ofString "__next__") typ F.slot_enumerate_next (wpAny_call_entry F.slot_enumerate_next typ F.entry_enumerate_next ?_ (F.args_enumerate_next_1 _))))
    refine wpAny_bind (m := field (.ref e) 2) (wpAny_field he rfl (x := .ref z) rfl (wpAny_bind (zip_drawn hz ?_)))
    refine zip_over (I.ok.hd hc) ap ⟨hz, hti, hto, h1, h2, p, p2⟩ (by simp; omega) fun h' x k' hx' => ?_
    obtain ⟨o, ho, hcls⟩ := hx'
    refine wpAny_bind (wpAny_isInstance (T := "StopIteration") (b := true) ⟨o, ho, hcls⟩ isSubtype_stop (wpAny_pure ⟨rfl, ?_⟩))
    exact I.turnedL (t' := s.toks) (ch := [z, TO, i1, i2]) (fun c o hc q => k' c o (fun q' => hc (by simp [q'])) (fun q' => hc (by simp [q'])) (fun q' => hc (by simp [q'])) (fun q' => hc (by simp [q'])) q)
      (fun b hb => hf b (by
        have q : b = z ∨ b = TO ∨ b = i1 ∨ b = i2 := by simpa using hb
        rcases q with q | q | q | q <;> simp [q]))
  self := fun A i s Q E st h => let ⟨⟨_, he⟩, _⟩ := st; wpAny_pyIter_enum he h
end EL

/- part E6 -/
namespace EL
open PySem PySem.Spec PyProof.Rows L2
open PySem.W (Frag)
/-- the keyword's constant -/
theorem start_kw {X : Cx} {pos : Pos} {k : Int} {j : Nat} {p kp : Pos} {E : Value → Shared → Prop} {s : Shared} {Q : List Value → Shared → Prop} (h : Q [.int k s.toks] { s with toks := s.toks + 1 }) :
    wpAny (model X.prog X.w) X.A (evalAll ((backToKw pos (keywordEach [⟨some "start", .Constant (.int k) j p, kp⟩] X.env)).map (·.2))) Q E s := by
  show wpAny _ _ (evalAll ((do let v ← eval (.Constant (.int k) j p) X.env; standAt pos; pure v) :: [])) _ _ s
  exact wpAny_evalAll_cons (wpAny_bind (wpAny_Constant_int (wpAny_bind (wpAny_standAt (wpAny_pure (wpAny_evalAll_nil h))))))
theorem zip_apart (N a b : Addr) (ha : a < N) (hb : b < N) : Apart (N + 4) (N + 2) (N + 3) N (N + 1) a b := by
  constructor <;> intro q <;> simp only [Addr] at * <;> omega
def iEz (K : Frag) (k : Int) (ta : TA) : TI := fun σ H R => ta σ H fun vs H1 => ∃ a b xs ys, vs = [.ref a, .ref b] ∧ SqT K H1 a xs ∧ SqT K H1 b ys ∧ R (Itez K a b k) H1
theorem pi_ez {X : Cx} {e e2 : Expr} {ta : TA} {p p2 pos pos2 tpos cp kp : Pos} {elts : List Expr} {kk j : Nat} {k : Int} (hg : Gl X "enumerate") (hm : X.mg "enumerate" = none) (hg2 : Gl X "zip") (hm2 : X.mg "zip" = none) (ha : PA X [e, e2] ta)
    (h0 : -(2 ^ 63) ≤ k) (h1 : k < 2 ^ 63)
    (hs : starEach [e, e2] X.env = (false, eval e X.env) :: starEach [e2] X.env := by rfl) (hpl : (backTo pos2 (starEach [e2] X.env)).any (·.1) = false := by rfl) :
    PI X (.Tuple elts kk tpos) (.Call (.Name "enumerate" p) [.Call (.Name "zip" p2) [e, e2] [] pos2] [⟨some "start", .Constant (.int k) j cp, kp⟩] pos) (iEz X.K k ta) := by
  refine ⟨fun pins s σ H R I h => ?_⟩
  apply wpAny_Call_Name_kw
  refine ld_blt I hg hm boot_enumerate ?_
  refine callType_kw (e := .Call (.Name "zip" p2) [e, e2] [] pos2) (rest := []) ?_ rfl rfl rfl rfl
  show wpAny _ _ (spliced [(false, eval (.Call (.Name "zip" p2) [e, e2] [] pos2) X.env)]) _ _ _
  refine Calls.spliced_cons ?_
  refine Call_ (ld_blt I hg2 hm2 PyProof.Rows.boot_zip (PyProof.Rows.callWith_type1 (thn (ha.run pos2 pins s σ H _ I h) ?_) hs hpl))
  rintro us s1 ⟨vs, H1, I1, r1, a, b, xs, ys, rfl, hqx, hqy, q⟩
  obtain ⟨ua, ub, rfl, ra, rb⟩ := vals2 r1
  cases (show ua = Value.ref a from ra)
  cases (show ub = Value.ref b from rb)
  obtain ⟨its, rv, pa, _⟩ := I1.tuple hqx
  obtain ⟨its2, rv2, pb, _⟩ := I1.tuple hqy
  refine zip_begins2 (begins_tuple a its.toArray) (begins_tuple b its2.toArray) pa pb fun h' hz hti hto hi1 hi2 hsz hk => ?_
  have I2 : Inv X pins σ H1 { s1 with heap := h' } := I1.kept (t' := s1.toks) hk
  refine Calls.spliced_nil (start_kw ?_)
  have za : ZipAt h' (s1.heap.objs.size + 4) (s1.heap.objs.size + 2) (s1.heap.objs.size + 3) := ⟨.none, false, hz, .inl rfl⟩
  refine enum_made (W := fun h => ZipAt h (s1.heap.objs.size + 4) (s1.heap.objs.size + 2) (s1.heap.objs.size + 3)) (rv := fun _ => .ref (s1.heap.objs.size + 4)) (f := fun h => h) (fun prog w A E s Q hw hq => zip_itself hw hq) h0 h1 za ?_
  have he : IsEnum (h'.push (enumObj (.ref (s1.heap.objs.size + 4)) k)) (s1.heap.objs.size + 5) (s1.heap.objs.size + 4) k .none := by
    have z := Heap.get?_push_size h' (o := enumObj (.ref (s1.heap.objs.size + 4)) k) rfl
    rw [hsz] at z
    exact z
  show wpAny _ _ (pyIter (.ref h'.objs.size)) _ _ _
  rw [hsz]
  refine wpAny_pyIter_enum he ?_
  have I3 : Inv X pins σ H1 { s1 with heap := h'.push (enumObj (.ref (s1.heap.objs.size + 4)) k), toks := s1.toks + 1 } := I1.kept fun c o q => Heap.get?_push_of_some _ (hk c o q)
  have up : ∀ c o, h'.get? c = some o → (h'.push (enumObj (.ref (s1.heap.objs.size + 4)) k)).get? c = some o := fun c o q => Heap.get?_push_of_some _ q
  have la : a < s1.heap.objs.size := pa.lt
  have lb : b < s1.heap.objs.size := pb.lt
  refine ⟨s1.heap.objs.size + 5, [s1.heap.objs.size + 5, s1.heap.objs.size + 4, s1.heap.objs.size + 2, s1.heap.objs.size + 3, s1.heap.objs.size, s1.heap.objs.size + 1], _, _, H1, rfl, I3,
    turn_ez (zip_apart s1.heap.objs.size a b la lb) (fun b hb => ?_) ?_ ?_, ⟨⟨.none, ?_⟩, ⟨.none, false, up _ _ hz, .inl rfl⟩, up _ _ hti, ⟨_, _, up _ _ hto⟩, ⟨_, up _ _ hi1, rfl, rfl⟩, ⟨_, up _ _ hi2, rfl, rfl⟩⟩, fun c hc => ?_, q⟩
  · have q : b = s1.heap.objs.size + 4 ∨ b = s1.heap.objs.size + 2 ∨ b = s1.heap.objs.size + 3 ∨ b = s1.heap.objs.size ∨ b = s1.heap.objs.size + 1 := by simpa using hb
    intro z
    simp only [Addr] at *
    omega
  · intro z
    simp only [Addr] at *
    omega
  · intro z
    simp only [Addr] at *
    omega
  · have q : k + ((0 : Nat) : Int) = k := by omega
    rw [q]
    exact he
  · have q := fp_mem hc
    have hle : s1.heap.objs.size ≤ c := by
      simp only [Addr] at *
      omega
    exact I1.fpOk hle (I1.hok.fresh hle)
/-! ### enumerate(t, start=k) -/
def Ites (K : Frag) (a : Addr) (k : Int) : It :=
  ⟨fun i H => ∃ (xs : List V) (x : V), SqT K H a xs ∧ xs[i]? = some x, fun i H v H' => ∃ T x, v = .ref T ∧ H T = none ∧ H' = upd H T (.tup [.int (k + i), x]) ∧ ∀ xs, SqT K H a xs → xs[i]? = some x, fun i H => ∃ xs : List V, SqT K H a xs ∧ xs.length ≤ i⟩
def TurnEs (e it t : Addr) (k : Int) (i : Nat) (h : Heap) : Prop := (∃ old, IsEnum h e it (k + i) old) ∧ h.IsTupleIter it t i
theorem turn_es {P : Program} {w : World} {K : Frag} {elts : List Expr} {kk : Nat} {tpos : Pos} {e it t : Addr} {k : Int} (ne : e ≠ it) : Turn P w K (.Tuple elts kk tpos) (Ites K t k) [e, it] e (TurnEs e it t k) where
  mem := by simp
  obj := fun i h st b hb => by
    obtain ⟨⟨old, he⟩, ⟨o1, q1, _, d1⟩⟩ := st
    have q : b = e ∨ b = it := by simpa using hb
    rcases q with q | q <;> subst q
    · exact ⟨_, he, fun v q => nomatch q⟩
    · exact ⟨o1, q1, fun v q => by rw [d1] at q; cases q⟩
  keep := fun i h h' st kp => by
    obtain ⟨⟨old, he⟩, h1⟩ := st
    exact ⟨⟨old, kp e (by simp) _ he⟩, h1.at fun o q => kp it (by simp) o q⟩
  item := by
    intro X hP hw hK hc i pins s σ H E I hf st hg
    subst hP hw hK
    obtain ⟨⟨old, he⟩, h1⟩ := st
    obtain ⟨xs, x, hqx, hx⟩ := hg
    obtain ⟨its, rv, p, _⟩ := I.tuple hqx
    obtain ⟨u, hu, ru⟩ := rv.get hx
    have le : e < s.heap.objs.size := Heap.lt_size he
    have typ : s.TypeIs (.ref e) "enumerate" := ⟨_, he, rfl⟩
    unfold pyNext
    refine wpAny_bind (wpAny_attempt (wpAny_callSpecial?_slot (name := Str.ofString "__next__") typ F.slot_enumerate_next (wpAny_call_entry F.slot_enumerate_next typ F.entry_enumerate_next
      (wpAny_mono (enum_turn (R := fun v h' => v = u ∧ h'.IsTupleIter it t (i + 1) ∧ Heap.SameBut it s.heap h')
        (Q := fun v s' => wpAny (model X.prog X.w) X.A (letOwnedTupleGo (.Tuple elts kk tpos) (.ref e) v) (fun _ s2 => ∃ x H', Inv X pins σ H' s2 ∧ RelV x v ∧ (Ites X.K t k).yld i H x H' ∧ TurnEs e it t k (i + 1) s2.heap ∧ ∀ b ∈ [e, it], H' b = none) E s')
        he (fun Q' E' hq => wpAny_nextOf_tuple_item h1 p (x := u) (by simpa using hu) fun h' st' k' => hq _ h' s.toks (ext_of k' _ _ ne he) ⟨rfl, st', k'⟩) ?_) ?_ (fun _ _ q => q)) (F.args_enumerate_next_1 _))))
    · rintro v g1 g2 tk ⟨rfl, st1, k1⟩ lt1 eo tp z2 k2
      refine wpAny_letOwnedTupleGo_enum (s := { s with heap := g2, toks := tk + 1 }) eo fun g3 e3 k3 => ?_
      replace k3 : Heap.SameBut e g2 g3 := k3
      have T1 : g3.get? g1.objs.size = some { cls := .type "tuple", data := .seq #[.int (k + i) tk, v] } := ext_of k3 _ _ (Nat.ne_of_gt lt1) tp
      have sz : s.heap.objs.size = g1.objs.size := k1.1.symm
      have I2 : Inv X pins σ (upd H g1.objs.size (.tup [.int (k + i), x])) { s with heap := g3, toks := tk + 1 } :=
        I.turnedNew (ch := [e, it]) (fun c o hc q => ext_of k3 _ _ (fun q' => hc (by simp [q'])) (k2 c o (fun q' => hc (by simp [q'])) (ext_of k1 _ _ (fun q' => hc (by simp [q'])) q)))
          hf (Nat.le_of_eq sz) ⟨by show 2 ≤ sizeLine; decide, [.int (k + i) tk, v], .cons ⟨_, rfl⟩ (.cons ru .nil), ⟨_, T1, rfl, _, rfl⟩⟩
      refine ⟨.ref g1.objs.size, _, I2, rfl, ⟨g1.objs.size, x, rfl, I.hok.fresh (Nat.le_of_eq sz), rfl, fun l hl => by rw [I.tuple_inj hl hqx]; exact hx⟩, ⟨⟨v, ?_⟩, ?_⟩, fun b hb => ?_⟩
      · have q : (k + ((i + 1 : Nat) : Int)) = k + i + 1 := by omega
        rw [q]
        exact e3
      · exact st1.at fun o q => ext_of k3 _ _ ne.symm (k2 _ _ ne.symm q)
      · have q : b < g1.objs.size := by
          have q : b = e ∨ b = it := by simpa using hb
          rcases q with q | q <;> subst q
          · exact lt1
          · exact let ⟨_, q, _⟩ := st1; Heap.lt_size q
        rw [upd_ne (Nat.ne_of_lt q)]
        exact (hf b hb).1
    · rintro fin s' ⟨v, rfl, q⟩
      exact ⟨v, rfl, wpAny_pure ⟨v, rfl, q⟩⟩
  done := by
    intro X hP hw hK hc i pins s σ H E I hf st hg
    subst hP hw hK
    obtain ⟨⟨old, he⟩, h1⟩ := st
    obtain ⟨xs, hqx, hx⟩ := hg
    obtain ⟨its, rv, p, _⟩ := I.tuple hqx
    have l1 := rv.length
    have typ : s.TypeIs (.ref e) "enumerate" := ⟨_, he, rfl⟩
    unfold pyNext
    refine wpAny_bind (wpAny_attempt (wpAny_callSpecial?_slot (name := Str.ofString "__next__") typ F.slot_enumerate_next (wpAny_call_entry F.slot_enumerate_next typ F.entry_enumerate_next ?_ (F.args_enumerate_next_1 _))))
    refine wpAny_bind (m := field (.ref e) 2) (wpAny_field he rfl (x := .ref it) rfl (wpAny_bind ?_))
    refine wpAny_nextOf_tuple_end (I.ok.hd hc) h1 p (by simp; omega) fun h' x k' hx' => ?_
    obtain ⟨o, ho, hcls⟩ := hx'
    refine wpAny_bind (wpAny_isInstance (T := "StopIteration") (b := true) ⟨o, ho, hcls⟩ isSubtype_stop (wpAny_pure ⟨rfl, ?_⟩))
    exact I.turnedL (t' := s.toks) (ch := [it]) (fun c o hc q => k' c o (fun q' => hc (by simp [q'])) q) (fun b hb => hf b (by
      have q : b = it := by simpa using hb
      simp [q]))
  self := fun A i s Q E st h => let ⟨⟨_, he⟩, _⟩ := st; wpAny_pyIter_enum he h
def iEs (K : Frag) (k : Int) (ta : TA) : TI := fun σ H R => ta σ H fun vs H1 => ∃ a xs, vs = [.ref a] ∧ SqT K H1 a xs ∧ R (Ites K a k) H1
theorem pi_es {X : Cx} {e : Expr} {ta : TA} {p pos tpos cp kp : Pos} {elts : List Expr} {kk j : Nat} {k : Int} (hg : Gl X "enumerate") (hm : X.mg "enumerate" = none) (ha : PA X [e] ta) (h0 : -(2 ^ 63) ≤ k) (h1 : k < 2 ^ 63)
    (hs : starEach [e] X.env = (false, eval e X.env) :: starEach [] X.env := by rfl) (hpl : (backTo pos (starEach [e] X.env)).any (·.1) = false := by rfl) :
    PI X (.Tuple elts kk tpos) (.Call (.Name "enumerate" p) [e] [⟨some "start", .Constant (.int k) j cp, kp⟩] pos) (iEs X.K k ta) := by
  refine ⟨fun pins s σ H R I h => ?_⟩
  apply wpAny_Call_Name_kw
  refine ld_blt I hg hm boot_enumerate (callType_kw (thn (ha.run pos pins s σ H _ I h) ?_) hs hpl rfl rfl)
  rintro us s1 ⟨vs, H1, I1, r1, a, xs, rfl, hqx, q⟩
  cases r1 with
  | cons ra rn =>
    cases rn
    cases ra
    obtain ⟨its, rv, pa, _⟩ := I1.tuple hqx
    refine start_kw (enum_begins_start (begins_tuple a its.toArray) pa h0 h1 fun h' he hit hsz hk => wpAny_pyIter_enum he ?_)
    refine ⟨s1.heap.objs.size + 1, [s1.heap.objs.size + 1, s1.heap.objs.size], _, _, H1, rfl, I1.kept (t' := s1.toks + 1) hk, turn_es (Nat.succ_ne_self _), ⟨⟨.none, ?_⟩, ⟨_, hit, rfl, rfl⟩⟩, fun c hc => ?_, q⟩
    · have q : k + ((0 : Nat) : Int) = k := by omega
      rw [q]
      exact he
    · have q : c = s1.heap.objs.size + 1 ∨ c = s1.heap.objs.size := by simpa using hc
      have hle : s1.heap.objs.size ≤ c := by
        simp only [Addr] at *
        omega
      exact I1.fpOk hle (I1.hok.fresh hle)
end EL

/- part E7 -/
/-! enumerate(t) over a tuple; loops over enumerate -/
namespace EL
open PySem PySem.Spec PyProof.Rows L2
open PySem.W (Frag)
theorem tcall_enum_1 (a : Value) : checkTypeCall "enumerate" ⟨[a], []⟩ = pure () := by kernel_rfl
set_option maxHeartbeats 2000000 in
theorem meets_enum_1 {v : Value} {rv : Heap → Value} {f : Heap → Heap} {W : Heap → Prop}
    (IT : ∀ (prog : Program) (w : World) (A : Around) (E : Value → Shared → Prop) (s : Shared) (Q : Value → Shared → Prop), W s.heap → Q (rv s.heap) { s with heap := f s.heap } → wpAny (model prog w) A (pyIter v) Q E s) :
    Meets (Builtin.«enumerate.__new__» ⟨[.type "enumerate", v], []⟩) (fun _ R s => W s.heap ∧ R (.ok (.ret (.ref (f s.heap).objs.size))) { s with heap := (f s.heap).push (enumObj (rv s.heap) 0) }) :=
  .of_wp fun prog w A R s h => by
    obtain ⟨hp, g, d, tk, os⟩ := s
    obtain ⟨h1, h⟩ := h
    have sub := sub_enumerate
    have go : ∀ {A' : Around} {E : Value → Shared → Prop} {Q : Value → Shared → Prop}, Q (rv hp) ⟨f hp, g, d, tk, os⟩ → wpAny (model prog w) A' (pyIter v) Q E ⟨hp, g, d, tk, os⟩ := fun q => IT prog w _ _ ⟨hp, g, d, tk, os⟩ _ h1 q
    wp_walk using go
    refine wpAny_stack_any fun st => wpAny_pure ?_
    split
    · rename_i c _ _ _ _ _
      cases (c == Value.type "enumerate")
      · wp_walk using go
        exact ⟨_, rfl, h⟩
      · wp_walk using go
        exact ⟨_, rfl, h⟩
    · wp_walk using go
      exact ⟨_, rfl, h⟩
theorem enum_begins_1 {prog : Program} {w : World} {A : Around} {E : Value → Shared → Prop} {s : Shared} {v : Value} {o : Obj} {H : Heap → Prop} {Q : Value → Shared → Prop} (B : Begins v o H) (h : H s.heap)
    (q : ∀ h' : Heap, IsEnum h' (s.heap.objs.size + 1) s.heap.objs.size 0 .none → h'.get? s.heap.objs.size = some o → h'.objs.size = s.heap.objs.size + 2 → (∀ (b : Addr) (o : Obj), s.heap.get? b = some o → h'.get? b = some o) → Q (.ref (s.heap.objs.size + 1)) { s with heap := h' }) :
    wpAny (model prog w) A (call (.type "enumerate") [v]) Q E s := by
  refine callType_new F.called_enumerate (by decide) (F.typeCall_enumerate_1 _) (F.newCall_enumerate_1 _) (fun obj => F.args_object_init_2 obj _) F.entry_enumerate_new
    (meets_enum_1 (W := H) (rv := fun h => .ref h.objs.size) (f := fun h => h.push o) fun prog w A E s Q hw hq => B.iter prog w A E s Q hw hq) ⟨h, ?_⟩
  have z : (s.heap.push o).objs.size = s.heap.objs.size + 1 := Heap.size_push ..
  have e1 : IsEnum ((s.heap.push o).push (enumObj (.ref s.heap.objs.size) 0)) (s.heap.objs.size + 1) s.heap.objs.size 0 .none := by
    have y := Heap.get?_push_size (s.heap.push o) (o := enumObj (.ref s.heap.objs.size) 0) rfl
    rw [z] at y
    exact y
  refine ⟨⟨_, Heap.get?_push_size _ rfl, rfl⟩, ?_⟩
  show Q (.ref (s.heap.push o).objs.size) _
  rw [z]
  refine q _ e1 (Heap.get?_push_of_some _ (Heap.get?_push_size _ B.free)) ((Heap.size_push ..).trans (by rw [z])) fun b o' hb => Heap.get?_push_of_some _ (Heap.get?_push_of_some _ hb)
theorem evalAll_nil {M : Model} {A : Around} {E : Value → Shared → Prop} {s : Shared} {Q : List Value → Shared → Prop} (h : Q [] s) : wpAny M A (evalAll []) Q E s := wpAny_pure h
def iE1 (K : Frag) (ta : TA) : TI := fun σ H R => ta σ H fun vs H1 => ∃ a xs, vs = [.ref a] ∧ SqT K H1 a xs ∧ R (Ites K a 0) H1
theorem pi_e1 {X : Cx} {e : Expr} {ta : TA} {p pos tpos : Pos} {elts : List Expr} {kk : Nat} (hg : Gl X "enumerate") (hm : X.mg "enumerate" = none) (ha : PA X [e] ta)
    (hs : starEach [e] X.env = (false, eval e X.env) :: starEach [] X.env := by rfl) (hpl : (backTo pos (starEach [e] X.env)).any (·.1) = false := by rfl) :
    PI X (.Tuple elts kk tpos) (.Call (.Name "enumerate" p) [e] [] pos) (iE1 X.K ta) := by
  refine ⟨fun pins s σ H R I h => ?_⟩
  apply wpAny_Call_Name_kw
  refine ld_blt I hg hm boot_enumerate (callType_kw (thn (ha.run pos pins s σ H _ I h) ?_) hs hpl rfl rfl)
  rintro us s1 ⟨vs, H1, I1, r1, a, xs, rfl, hqx, q⟩
  cases r1 with
  | cons ra rn =>
    cases rn
    cases ra
    obtain ⟨its, rv, pa, _⟩ := I1.tuple hqx
    refine evalAll_nil (enum_begins_1 (begins_tuple a its.toArray) pa fun h' he hit hsz hk => wpAny_pyIter_enum he ?_)
    refine ⟨s1.heap.objs.size + 1, [s1.heap.objs.size + 1, s1.heap.objs.size], _, _, H1, rfl, I1.kept (t' := s1.toks) hk, turn_es (Nat.succ_ne_self _), ⟨⟨.none, ?_⟩, ⟨_, hit, rfl, rfl⟩⟩, fun c hc => ?_, q⟩
    · exact he
    · have q : c = s1.heap.objs.size + 1 ∨ c = s1.heap.objs.size := by simpa using hc
      have hle : s1.heap.objs.size ≤ c := by
        simp only [Addr] at *
        omega
      exact I1.fpOk hle (I1.hok.fresh hle)
/-! ### loops over them -/
/-- a turn of enumerate(t, start=k) -/
def YEs (k : Int) (xs : List V) : Nat → Hp → V → Hp → Prop := fun i H v H' => ∃ T x, v = V.ref T ∧ H T = none ∧ H' = upd H T (.tup [.int (k + i), x]) ∧ xs[i]? = some x
theorem walk_es {K : Frag} {a : Addr} {k : Int} {xs : List V} : Walk (Ites K a k) xs.length (fun H => SqT K H a xs) (YEs k xs) :=
  ⟨fun i H hi h => ⟨xs, xs[i], h, List.getElem?_eq_getElem hi⟩, fun H h => ⟨xs, h, Nat.le_refl _⟩, fun i H x H' hi h ⟨T, y, e, hT, hH, hy⟩ => ⟨T, y, e, hT, hH, hy xs h⟩⟩
/-- a turn of enumerate(zip(t, u), start=k) -/
def YEz (k : Int) (xs ys : List V) : Nat → Hp → V → Hp → Prop := fun i H v H' => ∃ T0 T1 x y, v = V.ref T1 ∧ H T0 = none ∧ H T1 = none ∧ T0 ≠ T1 ∧ H' = upd (upd H T0 (.tup [x, y])) T1 (.tup [.int (k + i), .ref T0]) ∧ xs[i]? = some x ∧ ys[i]? = some y
theorem walk_ez {K : Frag} {a b : Addr} {k : Int} {xs ys : List V} (hl : xs.length = ys.length) : Walk (Itez K a b k) xs.length (fun H => SqT K H a xs ∧ SqT K H b ys) (YEz k xs ys) :=
  ⟨fun i H hi h => ⟨xs, ys, xs[i], ys[i], h.1, h.2, List.getElem?_eq_getElem hi, List.getElem?_eq_getElem (hl ▸ hi)⟩, fun H h => ⟨xs, ys, h.1, h.2, Nat.le_refl _⟩,
   fun i H x H' hi h ⟨T0, T1, y, z, e, h0, h1, ne, hH, hy, hz⟩ => ⟨T0, T1, y, z, e, h0, h1, ne, hH, hy xs h.1, hz ys h.2⟩⟩
end EL

/- part U -/
/-! Operators by the values that they meet; how a reading goes on -/
namespace EL
open PySem PySem.Spec PyProof.Rows L2
open PySem.W (Frag)
section
variable {X : Cx}
/-! ### rules that take what comes -/
theorem PI.alt {tg e : Expr} {w1 w2 : TI} (h1 : PI X tg e w1) (h2 : PI X tg e w2) : PI X tg e (fun σ H R => w1 σ H R ∨ w2 σ H R) :=
  ⟨fun pins s σ H R I h => h.elim (h1.run pins s σ H R I) (h2.run pins s σ H R I)⟩
theorem get_list : PGet X (rIxL X.K) := by
  rintro pins s σ H o i ov iv Q I ro ri ⟨p, xs, k, v, rfl, rfl, hq, hv, q⟩
  cases ro
  obtain ⟨t, rfl⟩ := ri
  obtain ⟨its, r, pl, hz⟩ := I.list hq
  obtain ⟨j, h1, h2, h3, h4, h5⟩ := atI_get hv
  obtain ⟨u, hu, ru⟩ := r.get h2
  have hl := r.length
  have hn := line63
  by_cases h0 : 0 ≤ k
  · have hj : k.toNat = j := by
      rw [seqIndex_of h0 h5] at h1
      exact Option.some.inj h1
    exact wpAny_getItem_list pl.isList h0 (by omega) (by rw [hj]; simpa using hu) ⟨v, H, I, ru, q⟩
  · have hj : (k + (its.toArray.size : Int)).toNat = j := by
      rw [seqIndex_neg (by omega) h4] at h1
      rw [List.size_toArray, ← hl]
      exact Option.some.inj h1
    exact wpAny_getItem_list_neg pl.isList (by omega) (by rw [List.size_toArray] <;> omega) (by omega) (by rw [hj]; simpa using hu) ⟨v, H, I, ru, q⟩
abbrev rAddI : R2 := rI0 fun i j => .int (i + j)
def rAdd (K : Frag) : R2 := fun x y H Q => rAddI x y H Q ∨ rCat x y H Q ∨ rCatA K x y H Q
theorem u_add : OpR X (binaryOp .Add) (rAdd X.K) := op_add.or (op_cat.or op_catA)
def rMul : R2 := fun x y H Q => rI CMul (fun i j => .int (i * j)) x y H Q ∨ rRep x y H Q
theorem u_mul : OpR X (binaryOp .Mult) rMul := op_mul.or op_rep
def rEqU (K : Frag) : R2 := fun x y H Q => rEq x y H Q ∨ rEqD K x y H Q
def rNeU (K : Frag) : R2 := fun x y H Q => rNe x y H Q ∨ rNeD K x y H Q
theorem u_eq (hu : X.A.units + 64 < cLine) : OpR X (compareOp .Eq) (rEqU X.K) := op_eq.or (op_eqD hu)
theorem u_ne (hu : X.A.units + 64 < cLine) : OpR X (compareOp .NotEq) (rNeU X.K) := op_ne.or (op_neD hu)
abbrev rIsNone : R2 := fun x y H Q => y = .non ∧ Q (.bl (decide (x = .non))) H
abbrev rNotNone : R2 := fun x y H Q => y = .non ∧ Q (.bl (!decide (x = .non))) H
/-- x is True, for any x that is no bool, too -/
abbrev rIsTrue : R2 := rIsB
theorem op_notBI {X : Cx} : OpR X (compareOp .IsNot) (fun x y H Q => ∃ i b, x = .int i ∧ y = .bl b ∧ Q (.bl true) H) := by
  rintro pins s σ H x y v u Q I rx ry ⟨i, b, rfl, rfl, q⟩
  obtain ⟨t, rfl⟩ := rx
  cases ry
  have e : (Value.int i t == Value.bool b) = false := by rfl
  exact wpAny_pure ⟨.bl true, H, I, by rw [e]; rfl, q⟩
theorem op_isBI {X : Cx} : OpR X (compareOp .Is) (fun x y H Q => ∃ i b, x = .int i ∧ y = .bl b ∧ Q (.bl false) H) := by
  rintro pins s σ H x y v u Q I rx ry ⟨i, b, rfl, rfl, q⟩
  obtain ⟨t, rfl⟩ := rx
  cases ry
  have e : (Value.int i t == Value.bool b) = false := by rfl
  exact wpAny_pure ⟨.bl false, H, I, by rw [e]; rfl, q⟩
def rIsU : R2 := fun x y H Q => rIsNone x y H Q ∨ rIsB x y H Q ∨ ∃ i b, x = .int i ∧ y = .bl b ∧ Q (.bl false) H
def rNotU : R2 := fun x y H Q => rNotNone x y H Q ∨ rNotB x y H Q ∨ ∃ i b, x = .int i ∧ y = .bl b ∧ Q (.bl true) H
theorem u_is : OpR X (compareOp .Is) rIsU := op_isN.or (op_isBl.or op_isBI)
theorem u_isnot : OpR X (compareOp .IsNot) rNotU := op_notN.or (op_notBl.or op_notBI)
theorem u_in : OpR X (compareOp .In) (rIn X.K false) := op_in_seq
theorem u_notin : OpR X (compareOp .NotIn) (rIn X.K true) := op_notIn_seq
abbrev rLen (K : Frag) : List V → Hp → VK → Prop := fun xs H Q => ∃ p ys, xs = [.ref p] ∧ (SqL K H p ys ∨ SqT K H p ys) ∧ Q (.int ys.length) H
theorem u_len : CallR X (.builtin "len") (rLen X.K) := call_len_seq
def rIsiU (K : Frag) : List V → Hp → VK → Prop := fun xs H Q => rIsi K xs H Q ∨ rIsiT K xs H Q
theorem u_isi : CallR X (.builtin "isinstance") (rIsiU X.K) := call_isi.or call_isiT
abbrev rInt : List V → Hp → VK → Prop := fun xs H Q => (∃ i, xs = [.int i] ∧ Q (.int i) H) ∨ ∃ k, xs = [.bl k] ∧ Q (.int (if k then 1 else 0)) H
theorem u_int : CallR X (.type "int") rInt := call_int1
abbrev rList (K : Frag) : List V → Hp → VK → Prop := fun xs H Q => ∃ p ys, xs = [.ref p] ∧ (SqL K H p ys ∨ SqT K H p ys) ∧ ∀ l, H l = none → Q (.ref l) (upd H l (.lst ys))
theorem u_list : CallR X (.type "list") (rList X.K) := call_list_of
abbrev rTuple (K : Frag) : List V → Hp → VK → Prop := fun xs H Q => ∃ p ys, xs = [.ref p] ∧ ((SqL K H p ys ∧ ∀ l, H l = none → Q (.ref l) (upd H l (.tup ys))) ∨ (SqT K H p ys ∧ Q (.ref p) H))
theorem u_tuple : CallR X (.type "tuple") (rTuple X.K) := call_tuple_of
def rSlice (K : Frag) : V → Option Int → Option Int → Hp → VK → Prop := fun x lo hi H Q => rSlL K x lo hi H Q ∨ rSlA K x lo hi H Q
theorem u_slice : SlR X (rSlice X.K) := sl_list.or sl_tupA
def iSeq (K : Frag) (tl : TE) : TI := fun σ H R => iList K tl σ H R ∨ iTup K tl σ H R
theorem u_iter {tg l : Expr} {tl : TE} (hl : PE X l tl) : PI X tg l (iSeq X.K tl) := PI.alt (pi_list hl) (pi_tup hl)
theorem u_min (hc : X.calm = true) : CallR X (.builtin "min") (fun xs H Q => (∃ i j, xs = [.int i, .int j] ∧ Q (.int (if j < i then j else i)) H) ∨ rMin X.K xs H Q) := (call_min2 hc).or (cr_min hc)
theorem u_max (hc : X.calm = true) : CallR X (.builtin "max") (fun xs H Q => (∃ i j, xs = [.int i, .int j] ∧ Q (.int (if j > i then j else i)) H) ∨ rMax X.K xs H Q) := (call_max2 hc).or (cr_max hc)
end
/-! ### what stays: all but the bag at b -/
/-- everything else stays -/
def Kp (b : Addr) (H H' : Hp) : Prop := ∀ a o, a ≠ b → H a = some o → H' a = some o
theorem Kp.refl (b : Addr) (H : Hp) : Kp b H H := fun _ _ _ h => h
theorem Kp.trans {b : Addr} {H H1 H2 : Hp} (p : Kp b H H1) (q : Kp b H1 H2) : Kp b H H2 := fun a o n h => q a o n (p a o n h)
theorem Kp.new {b p : Addr} {H H1 : Hp} {o : HO} (k : Kp b H H1) (h : H1 p = none) : Kp b H (upd H1 p o) := fun a u n e => by
  have q := k a u n e
  rw [upd_ne (ne_of_none q h)]
  exact q
/-- an object that is new since H may change -/
theorem Kp.mut {b p : Addr} {H H1 : Hp} {o : HO} (k : Kp b H H1) (h : H p = none) : Kp b H (upd H1 p o) := fun a u n e => by
  rw [upd_ne (ne_of_none e h)]
  exact k a u n e
theorem Kp.bag {b : Addr} {H H1 : Hp} {o : HO} (k : Kp b H H1) : Kp b H (upd H1 b o) := fun a u n e => by
  rw [upd_ne n]
  exact k a u n e
theorem Kp.free {b p : Addr} {H H1 : Hp} (k : Kp b H H1) (h : H1 p = none) (n : p ≠ b) : H p = none := by
  cases q : H p with
  | none => rfl
  | some o =>
    rw [k p o n q] at h
    cases h
theorem same_kp {b : Addr} {H H' : Hp} (s : Same H H') : Kp b H H' := fun a o _ h => s a o h
/-! ### the way on, construct by construct -/
section
variable {σ : L2.St} {H : Hp} {Q : VK} {K : Frag}
theorem n_add {i j : Int} (q : Q (.int (i + j)) H) : rAdd K (.int i) (.int j) H Q := .inl ⟨i, j, rfl, rfl, q⟩
theorem n_cat {l m : Addr} {xs ys : List V} (h1 : H l = some (.lst xs)) (h2 : H m = some (.lst ys)) (z : xs.length + ys.length ≤ sizeLine) (q : ∀ p, H p = none → Q (.ref p) (upd H p (.lst (xs ++ ys)))) : rAdd K (.ref l) (.ref m) H Q :=
  .inr (.inl ⟨l, m, xs, ys, rfl, rfl, h1, h2, z, q⟩)
theorem n_mul {i j : Int} (c : CMul i j) (q : Q (.int (i * j)) H) : rMul (.int i) (.int j) H Q := .inl ⟨i, j, rfl, rfl, c, q⟩
theorem n_eq {x y : V} (s : scal x y = true) (q : Q (.bl (decide (x = y))) H) : rEqU K x y H Q := .inl ⟨s, q⟩
theorem n_ne {x y : V} (s : scal x y = true) (q : Q (.bl (!decide (x = y))) H) : rNeU K x y H Q := .inl ⟨s, q⟩
theorem n_eqD {x y : V} {d e : PyData} (hd : Dp K H x d) (he : Dp K H y e) (sd : SeqAt.shaped d = true) (se : SeqAt.shaped e = true) (q : Q (.bl (PyData.eqv d e)) H) : rEqU K x y H Q := .inr ⟨d, e, hd, he, sd, se, q⟩
theorem n_neD {x y : V} {d e : PyData} (hd : Dp K H x d) (he : Dp K H y e) (sd : SeqAt.shaped d = true) (se : SeqAt.shaped e = true) (q : Q (.bl (!PyData.eqv d e)) H) : rNeU K x y H Q := .inr ⟨d, e, hd, he, sd, se, q⟩
theorem n_isi {x : V} {n m : String} {b : Bool} (ty : TyX K H x (.type n)) (h : kitB n m = some b) (q : Q (.bl b) H) : rIsiU K [x, .ty m] H Q := .inl ⟨x, .ty m, _, _, b, rfl, .ty m, ty, kit_ty h, q⟩
theorem n_isiX {x : V} {t : Value} {m : String} {b : Bool} (ty : TyX K H x t) (h : PySem.W.kitOne K t (.type m) = some b) (q : Q (.bl b) H) : rIsiU K [x, .ty m] H Q := .inl ⟨x, .ty m, _, _, b, rfl, .ty m, ty, h, q⟩
theorem n_len {p : Addr} {ys : List V} (h : SqL K H p ys ∨ SqT K H p ys) (q : Q (.int ys.length) H) : rLen K [.ref p] H Q := ⟨p, ys, rfl, h, q⟩
theorem n_int {i : Int} (q : Q (.int i) H) : rInt [.int i] H Q := .inl ⟨i, rfl, q⟩
theorem n_ib {k : Bool} (q : Q (.int (if k then 1 else 0)) H) : rInt [.bl k] H Q := .inr ⟨k, rfl, q⟩
theorem n_ixL {p : Addr} {xs : List V} {i : Int} {v : V} (h : SqL K H p xs) (hi : atI xs i = some v) (q : Q v H) : rIx K (.ref p) (.int i) H Q := .inl ⟨p, xs, i, v, rfl, rfl, h, hi, q⟩
theorem n_ixT {p : Addr} {xs : List V} {i : Int} {v : V} (h : SqT K H p xs) (hi : atI xs i = some v) (q : Q v H) : rIx K (.ref p) (.int i) H Q := .inr (.inl ⟨p, xs, i, v, rfl, rfl, h, hi, q⟩)
theorem n_inT {x : V} {p : Addr} {xs : List V} (h : H p = some (.tup xs)) (f1 : flatV x = true) (f2 : xs.all flatV = true) (q : Q (.bl (inV x xs)) H) : rIn K false x (.ref p) H Q := ⟨p, xs, rfl, .inr (SqT.of h), f1, f2, q⟩
theorem n_inL {x : V} {p : Addr} {xs : List V} (h : H p = some (.lst xs)) (f1 : flatV x = true) (f2 : xs.all flatV = true) (q : Q (.bl (inV x xs)) H) : rIn K false x (.ref p) H Q := ⟨p, xs, rfl, .inl (SqL.of h), f1, f2, q⟩
theorem n_isN {x : V} (q : Q (.bl (decide (x = .non))) H) : rIsU x .non H Q := .inl ⟨rfl, q⟩
theorem n_notN {x : V} (q : Q (.bl (!decide (x = .non))) H) : rNotU x .non H Q := .inl ⟨rfl, q⟩
theorem n_isB {a b : Bool} (q : Q (.bl (decide (a = b))) H) : rIsU (.bl a) (.bl b) H Q := .inr (.inl ⟨a, b, rfl, rfl, q⟩)
theorem n_isBI {i : Int} {b : Bool} (q : Q (.bl false) H) : rIsU (.int i) (.bl b) H Q := .inr (.inr ⟨i, b, rfl, rfl, q⟩)
theorem n_notB {a b : Bool} (q : Q (.bl (!decide (a = b))) H) : rNotU (.bl a) (.bl b) H Q := .inr (.inl ⟨a, b, rfl, rfl, q⟩)
theorem n_notBI {i : Int} {b : Bool} (q : Q (.bl true) H) : rNotU (.int i) (.bl b) H Q := .inr (.inr ⟨i, b, rfl, rfl, q⟩)
end
end EL

/- part V -/
/-! the administrative steps of a reading -/
namespace EL
open PySem PySem.Spec PyProof.Rows L2
open PySem.W (Frag)
section
variable {σ : L2.St} {H : Hp} {Q : VK} {K : Frag} {i : Nat} {v : V} {D : Ends} {ta tb te tc : TE} {t u t1 t2 : TS} {c c2 : TT} {tl tr : TA} {g : TG}
theorem a_var (h : σ[i]? = some (some v)) (q : Q v H) : tVar i σ H Q := ⟨v, h, q⟩
theorem a_c (q : Q v H) : tC v σ H Q := q
theorem a_op {r : R2} (q : ta σ H fun x H1 => tb σ H1 fun y H2 => r x y H2 Q) : tOp r ta tb σ H Q := q
theorem a_un {r : V → Hp → VK → Prop} (q : ta σ H fun x H1 => r x H1 Q) : tUn r ta σ H Q := q
theorem a_U {j : Int} {f : Int → V} (q : Q (f j) H) : rU f (.int j) H Q := ⟨j, rfl, q⟩
theorem a_nil {R : List V → Hp → Prop} (q : R [] H) : tNil σ H R := q
theorem a_cons {R : List V → Hp → Prop} (q : te σ H fun x H1 => tl σ H1 fun xs H2 => R (x :: xs) H2) : tCons te tl σ H R := q
theorem a_cb {r : List V → Hp → VK → Prop} (q : tl σ H fun vs H1 => r vs H1 Q) : tCB r tl σ H Q := q
theorem a_call {sp : Sp} {E : XK} (q : tl σ H fun vs H1 => sp vs H1 Q E) : tCall sp [] E tl σ H Q := by
  show tl σ H fun vs H1 => sp (vs ++ []) H1 Q E
  simpa only [List.append_nil] using q
theorem a_I0 {f : Int → Int → V} {a b : Int} (q : Q (f a b) H) : rI0 f (.int a) (.int b) H Q := ⟨a, b, rfl, rfl, q⟩
theorem a_I {C : Int → Int → Prop} {f : Int → Int → V} {a b : Int} (hc : C a b) (q : Q (f a b) H) : rI C f (.int a) (.int b) H Q := ⟨a, b, rfl, rfl, hc, q⟩
theorem a_seq (q : t { D with nx := u D } σ H) : tSeq t u D σ H := q
theorem a_asg (q : te σ H fun x H1 => g x σ H1 D.nx) : tAsg te g D σ H := q
theorem a_sasg (q : te σ H fun x H1 => g x σ H1 (u D)) : tSeq (tAsg te g) u D σ H := q
theorem a_gn {R : L2.St → Hp → Prop} (q : R (σ.set i (some v)) H) : gName i v σ H R := q
theorem a_drop (q : te σ H fun _ H1 => D.nx σ H1) : tDrop te D σ H := q
theorem a_sdrop (q : te σ H fun _ H1 => u D σ H1) : tSeq (tDrop te) u D σ H := q
theorem a_ret (q : te σ H D.rt) : tRet te D σ H := q
theorem a_if (q : c σ H fun b H1 => if b = true then t1 D σ H1 else t2 D σ H1) : tIfS c t1 t2 D σ H := q
theorem a_next (q : D.nx σ H) : tNext D σ H := q
theorem a_nx {f k1 k2 : L2.St → Hp → Prop} {r : VK} (q : f σ H) : (Ends.mk f r k1 k2).nx σ H := q
theorem a_rt {f k1 k2 : L2.St → Hp → Prop} {r : VK} (q : r v H) : (Ends.mk f r k1 k2).rt v H := q
theorem a_test {R : Bool → Hp → Prop} (q : te σ H fun x H' => ∃ k, x = .bl k ∧ R k H') : tTest te σ H R := q
theorem a_B {R : Bool → Hp → Prop} (q : te σ H fun x H' => ∃ k, x = .bl k ∧ R k H') : tB te σ H R := q
theorem a_bl {R : Bool → Prop} {b : Bool} (q : R b) : ∃ k, V.bl b = V.bl k ∧ R k := ⟨b, rfl, q⟩
theorem a_and {R : Bool → Hp → Prop} (q : c σ H fun b H1 => if b = true then c2 σ H1 R else R false H1) : tAnd c c2 σ H R := q
theorem a_or {R : Bool → Hp → Prop} (q : c σ H fun b H1 => if b = true then R true H1 else c2 σ H1 R) : tOr c c2 σ H R := q
theorem a_not {R : Bool → Hp → Prop} (q : c σ H fun b H1 => R (!b) H1) : tNot c σ H R := q
theorem a_andV (q : ta σ H fun x H1 => ∃ b, x = .bl b ∧ if b = true then tb σ H1 Q else Q (.bl false) H1) : tAndV ta tb σ H Q := q
theorem a_orV (q : ta σ H fun x H1 => ∃ b, x = .bl b ∧ if b = true then Q (.bl true) H1 else tb σ H1 Q) : tOrV ta tb σ H Q := q
theorem a_notV (q : ta σ H fun x H1 => ∃ b, x = .bl b ∧ Q (.bl (!b)) H1) : tNotV ta σ H Q := q
theorem a_ifx (q : c σ H fun b H1 => if b = true then ta σ H1 Q else tb σ H1 Q) : tIf c ta tb σ H Q := q
theorem a_chain {r r' : R2} (q : ta σ H fun x H1 => tb σ H1 fun y H2 => r x y H2 fun z H3 => ∃ k, z = .bl k ∧ (if k = true then tc σ H3 fun w' H4 => r' y w' H4 Q else Q (.bl false) H3)) : tChain r r' ta tb tc σ H Q := q
theorem a_T {A B : Prop} (q : A) : if true = true then A else B := by rw [if_pos rfl]; exact q
theorem a_F {A B : Prop} (q : B) : if false = true then A else B := by rw [if_neg Bool.false_ne_true]; exact q
theorem a_nT {A B : Prop} (q : B) : if (!true) = true then A else B := q
theorem a_nF {A B : Prop} (q : A) : if (!false) = true then A else B := q
theorem a_fld {tv : TE} {f : Str} (q : tv σ H fun y H1 => ta σ H1 fun x H2 => ∃ a C dx fs, x = .ref a ∧ H2 a = some (.ins C dx fs) ∧ Cls K C ∧ NoAttr K C f ∧ fs.length < 1000 ∧ D.nx σ (upd H2 a (.ins C dx (putF f y fs)))) : sFld K ta tv f D σ H := q
theorem a_getF {f : Str} (q : ta σ H fun x H1 => ∃ a C dx fs v, x = .ref a ∧ H1 a = some (.ins C dx fs) ∧ Cls K C ∧ NoAttr K C f ∧ List.lookup f fs = some v ∧ Q v H1) : tFld K ta f σ H Q := q
theorem a_tup {es : TA} (q : es σ H fun xs H1 => xs.length ≤ sizeLine ∧ ∀ p, H1 p = none → Q (.ref p) (upd H1 p (.tup xs))) : tTup es σ H Q := q
theorem a_lst {es : TA} (q : es σ H fun xs H1 => xs.length ≤ sizeLine ∧ ∀ p, H1 p = none → Q (.ref p) (upd H1 p (.lst xs))) : tLst es σ H Q := q
theorem a_ntup {xs : List V} (z : xs.length ≤ sizeLine) (q : ∀ p, H p = none → Q (.ref p) (upd H p (.tup xs))) : xs.length ≤ sizeLine ∧ ∀ p, H p = none → Q (.ref p) (upd H p (.tup xs)) := ⟨z, q⟩
theorem a_nlst {xs : List V} (z : xs.length ≤ sizeLine) (q : ∀ p, H p = none → Q (.ref p) (upd H p (.lst xs))) : xs.length ≤ sizeLine ∧ ∀ p, H p = none → Q (.ref p) (upd H p (.lst xs)) := ⟨z, q⟩
theorem a_sub {to ti : TE} {ts : TSet} {R : L2.St → Hp → Prop} (q : to σ H fun o H1 => ti σ H1 fun j H2 => ts o j v H2 fun H3 => R σ H3) : gSub to ti ts v σ H R := q
theorem a_set {p : Addr} {xs : List V} {k : Int} {j : Nat} {R : Hp → Prop} (h : H p = some (.lst xs)) (hj : ixN xs.length k = some j) (q : R (upd H p (.lst (xs.set j v)))) : rSetL (.ref p) (.int k) v H R := ⟨p, xs, k, j, rfl, rfl, h, hj, q⟩
theorem a_augS {to ti te : TE} {tget : V → V → Hp → VK → Prop} {tip : TIp} {ts : TSet} (q : to σ H fun o H1 => ti σ H1 fun j H2 => tget o j H2 fun x H3 => te σ H3 fun y H4 => tip x y H4 fun z H5 => ts o j z H5 fun H6 => D.nx σ H6) :
    tAugS to ti te tget tip ts D σ H := q
theorem a_saugS {to ti te : TE} {tget : V → V → Hp → VK → Prop} {tip : TIp} {ts : TSet} (q : to σ H fun o H1 => ti σ H1 fun j H2 => tget o j H2 fun x H3 => te σ H3 fun y H4 => tip x y H4 fun z H5 => ts o j z H5 fun H6 => u D σ H6) :
    tSeq (tAugS to ti te tget tip ts) u D σ H := q
theorem a_getL {p : Addr} {xs : List V} {k : Int} (h : SqL K H p xs) (hk : atI xs k = some v) (q : Q v H) : rIxL K (.ref p) (.int k) H Q := ⟨p, xs, k, v, rfl, rfl, h, hk, q⟩
theorem a_ip {f : Int → Int → Int} {a b : Int} (q : Q (.int (f a b)) H) : ipI f (.int a) (.int b) H Q := ⟨a, b, rfl, rfl, q⟩
theorem a_aug {ti : TIp} {x : V} (h : σ[i]? = some (some x)) (q : te σ H fun y H1 => ti x y H1 fun z H2 => D.nx (σ.set i (some z)) H2) : tAug i te ti D σ H := ⟨x, h, q⟩
theorem a_saug {ti : TIp} {x : V} (h : σ[i]? = some (some x)) (q : te σ H fun y H1 => ti x y H1 fun z H2 => u D (σ.set i (some z)) H2) : tSeq (tAug i te ti) u D σ H := ⟨x, h, q⟩
theorem a_par {j : Nat} {a b : V} (q : tl σ H fun vs H1 => ∃ x y, vs = [x, y] ∧ D.nx ((σ.set i (some x)).set j (some y)) H1) : tPar i j tl D σ H := q
theorem a_spar {j : Nat} (q : tl σ H fun vs H1 => ∃ x y, vs = [x, y] ∧ u D ((σ.set i (some x)).set j (some y)) H1) : tSeq (tPar i j tl) u D σ H := q
theorem a_two {R : V → V → Prop} {a b : V} (q : R a b) : ∃ x y, [a, b] = [x, y] ∧ R x y := ⟨a, b, rfl, q⟩
theorem a_cut (M : L2.St → Hp → Prop) (h : t { D with nx := M } σ H) (k : ∀ σ' H', M σ' H' → u D σ' H') : Evl.tCut t u D σ H := ⟨M, h, k⟩
theorem a_abs {j : Int} {R : Int → Prop} (q : R j) : ∃ i, [V.int j] = [V.int i] ∧ R i := ⟨j, rfl, q⟩
theorem a_gtup {n : Nat} {ts : TGs} {a : Addr} {xs : List V} {R : L2.St → Hp → Prop} (h : SqT K H a xs) (z : xs.length = n) (q : ts xs σ H R) : gTup K n ts (.ref a) σ H R := ⟨a, xs, rfl, h, z, q⟩
theorem a_gcons {ts : TGs} {xs : List V} {R : L2.St → Hp → Prop} (q : g v σ H fun σ' H' => ts xs σ' H' R) : gCons g ts (v :: xs) σ H R := ⟨v, xs, rfl, q⟩
theorem a_gnil {R : L2.St → Hp → Prop} (q : R σ H) : gNil [] σ H R := ⟨rfl, q⟩
end
theorem a_pairs {tk tv : TE} {r : List (TE × TE)} {σ : L2.St} {H : Hp} {R : List (V × V) → Hp → Prop} (q : tk σ H fun k H1 => tv σ H1 fun v H2 => tPairs r σ H2 fun ps H3 => R ((k, v) :: ps) H3) : tPairs ((tk, tv) :: r) σ H R := q
theorem a_pairs0 {σ : L2.St} {H : Hp} {R : List (V × V) → Hp → Prop} (q : R [] H) : tPairs [] σ H R := q
theorem a_bm {K : Frag} {T : String} {r : V → List V → Hp → VK → Prop} {to : TE} {t : TA} {σ : L2.St} {H : Hp} {Q : VK} (q : to σ H fun x H1 => tyV K T x H1 ∧ t σ H1 fun xs H2 => r x xs H2 Q) : tBM K T r to t σ H Q := q
end EL

/- part W -/
/-! values by what they are: numbers, texts, tracked lists, tuples, dicts, books -/
namespace EL
open PySem PySem.Spec PyProof.Rows L2
open PySem.W (Frag)
/-- the built-in names that stand for themselves -/
structure Bi (mg : Str → Option Value) : Prop where
  len_ : mg "len" = none
  isinstance_ : mg "isinstance" = none
  int_ : mg "int" = none
  bool_ : mg "bool" = none
  str_ : mg "str" = none
  list_ : mg "list" = none
  tuple_ : mg "tuple" = none
  range_ : mg "range" = none
  enumerate_ : mg "enumerate" = none
  zip_ : mg "zip" = none
  abs_ : mg "abs" = none
  repr_ : mg "repr" = none
  min_ : mg "min" = none
  max_ : mg "max" = none
  sum_ : mg "sum" = none
  all_ : mg "all" = none
/-- a constant of the program -/
theorem pe_gc {X : Cx} {x : Str} {v : V} {pos : Pos} (hg : Gl X x) (h : ∃ u, X.mg x = some u ∧ L2.RelV v u) (hdb : (x == ("__debug__" : Str)) = false := by decide) : PE X (.Name x pos) (tC v) := by
  obtain ⟨u, h1, h2⟩ := h
  exact pe_glob hg h1 h2 hdb
/-- what isinstance asks of an own class -/
structure OwnC (K : Frag) (C : Addr) : Prop where
  cl : Cls K C
  cls : PySem.W.findIn K (.ref C) "__class__" = some (some (.builtin "object.__class__"))
  get : PySem.W.specialIn K (.builtin "object.__class__") "__get__" = some (some (.builtin "getset_descriptor.__get__"))
  tak : PySem.W.takesIn K (.builtin "object.__class__") = some true
  obj : PySem.W.mroIn K C (.type "object") = some true
  kInt : PySem.W.kitOne K (.ref C) (.type "int") = some false
  kBool : PySem.W.kitOne K (.ref C) (.type "bool") = some false
  kStr : PySem.W.kitOne K (.ref C) (.type "str") = some false
  kTup : PySem.W.kitOne K (.ref C) (.type "tuple") = some false
  kLst : PySem.W.kitOne K (.ref C) (.type "list") = some false
/-- a value that is known -/
inductive Th (K : Frag) (H : Hp) : V → Prop
  | non : Th K H .non
  | bl (b : Bool) : Th K H (.bl b)
  | int (i : Int) : Th K H (.int i)
  | str (x : Str) : Th K H (.str x)
  | lst {a : Addr} {xs : List V} (h : H a = some (.lst xs)) : Th K H (.ref a)
  | tup {a : Addr} {xs : List V} (h : H a = some (.tup xs)) : Th K H (.ref a)
  | dct {a : Addr} {kvs : List (Key × V)} (h : H a = some (.dK kvs)) : Th K H (.ref a)
  | ins {a C dx : Addr} {fs : List (Str × V)} (h : H a = some (.ins C dx fs)) (c : OwnC K C) : Th K H (.ref a)
  | dtt {a : Addr} {kvs : List (List Key × V)} (h : H a = some (.dT kvs)) : Th K H (.ref a)
def isI : V → Bool | .int _ => true | .bl _ => true | _ => false
def isB : V → Bool | .bl _ => true | _ => false
def isS : V → Bool | .str _ => true | _ => false
def obT : Option HO → Bool | some (.tup _) => true | _ => false
def obL : Option HO → Bool | some (.lst _) => true | _ => false
def isT (H : Hp) : V → Bool | .ref a => obT (H a) | _ => false
def isL (H : Hp) : V → Bool | .ref a => obL (H a) | _ => false
structure KitOf (K : Frag) (H : Hp) (x : V) (t : Value) : Prop where
  ty : TyX K H x t
  int : PySem.W.kitOne K t (.type "int") = some (isI x)
  bool : PySem.W.kitOne K t (.type "bool") = some (isB x)
  str : PySem.W.kitOne K t (.type "str") = some (isS x)
  tup : PySem.W.kitOne K t (.type "tuple") = some (isT H x)
  lst : PySem.W.kitOne K t (.type "list") = some (isL H x)
theorem Th.kit {K : Frag} {H : Hp} {x : V} (h : Th K H x) : ∃ t, KitOf K H x t := by
  cases h with
  | non => exact ⟨_, .base .non, kit_ty (by show _ = some false; decide +kernel), kit_ty (by show _ = some false; decide +kernel), kit_ty (by show _ = some false; decide +kernel), kit_ty (by show _ = some false; decide +kernel), kit_ty (by show _ = some false; decide +kernel)⟩
  | bl b => exact ⟨_, .base (.bl b), kit_ty (by show _ = some true; decide +kernel), kit_ty (by show _ = some true; decide +kernel), kit_ty (by show _ = some false; decide +kernel), kit_ty (by show _ = some false; decide +kernel), kit_ty (by show _ = some false; decide +kernel)⟩
  | int i => exact ⟨_, .base (.int i), kit_ty (by show _ = some true; decide +kernel), kit_ty (by show _ = some false; decide +kernel), kit_ty (by show _ = some false; decide +kernel), kit_ty (by show _ = some false; decide +kernel), kit_ty (by show _ = some false; decide +kernel)⟩
  | str s => exact ⟨_, .base (.str s), kit_ty (by show _ = some false; decide +kernel), kit_ty (by show _ = some false; decide +kernel), kit_ty (by show _ = some true; decide +kernel), kit_ty (by show _ = some false; decide +kernel), kit_ty (by show _ = some false; decide +kernel)⟩
  | @lst a xs h =>
    have e1 : isT H (.ref a) = false := by show obT (H a) = _; rw [h]; rfl
    have e2 : isL H (.ref a) = true := by show obL (H a) = _; rw [h]; rfl
    refine ⟨_, .base (.lst h), kit_ty (by show _ = some false; decide +kernel), kit_ty (by show _ = some false; decide +kernel), kit_ty (by show _ = some false; decide +kernel), ?_, ?_⟩
    · rw [e1]; exact kit_ty (by show _ = some _; decide +kernel)
    · rw [e2]; exact kit_ty (by show _ = some _; decide +kernel)
  | @tup a xs h =>
    have e1 : isT H (.ref a) = true := by show obT (H a) = _; rw [h]; rfl
    have e2 : isL H (.ref a) = false := by show obL (H a) = _; rw [h]; rfl
    refine ⟨_, .base (.tup h), kit_ty (by show _ = some false; decide +kernel), kit_ty (by show _ = some false; decide +kernel), kit_ty (by show _ = some false; decide +kernel), ?_, ?_⟩
    · rw [e1]; exact kit_ty (by show _ = some _; decide +kernel)
    · rw [e2]; exact kit_ty (by show _ = some _; decide +kernel)
  | @dct a kvs h =>
    have e1 : isT H (.ref a) = false := by show obT (H a) = _; rw [h]; rfl
    have e2 : isL H (.ref a) = false := by show obL (H a) = _; rw [h]; rfl
    refine ⟨_, .base (.dK h), kit_ty (by show _ = some false; decide +kernel), kit_ty (by show _ = some false; decide +kernel), kit_ty (by show _ = some false; decide +kernel), ?_, ?_⟩
    · rw [e1]; exact kit_ty (by show _ = some _; decide +kernel)
    · rw [e2]; exact kit_ty (by show _ = some _; decide +kernel)
  | @dtt a kvs h =>
    have e1 : isT H (.ref a) = false := by show obT (H a) = _; rw [h]; rfl
    have e2 : isL H (.ref a) = false := by show obL (H a) = _; rw [h]; rfl
    refine ⟨_, .base (.dT h), kit_ty (by show _ = some false; decide +kernel), kit_ty (by show _ = some false; decide +kernel), kit_ty (by show _ = some false; decide +kernel), ?_, ?_⟩
    · rw [e1]; exact kit_ty (by show _ = some _; decide +kernel)
    · rw [e2]; exact kit_ty (by show _ = some _; decide +kernel)
  | @ins a C dx fs h c =>
    have e1 : isT H (.ref a) = false := by show obT (H a) = _; rw [h]; rfl
    have e2 : isL H (.ref a) = false := by show obL (H a) = _; rw [h]; rfl
    refine ⟨_, .base (.ins h c.cl c.cls c.get c.tak c.obj), c.kInt, c.kBool, c.kStr, ?_, ?_⟩
    · rw [e1]; exact c.kTup
    · rw [e2]; exact c.kLst
/-- a known value stays known -/
theorem Th.stay {K : Frag} {b : Addr} {l : List V} {H H' : Hp} {x : V} (h : Th K H x) (hb : H b = some (.lst l)) {l' : List V} (hb' : H' b = some (.lst l')) (k : Kp b H H') : Th K H' x := by
  cases h with
  | non => exact .non
  | bl b => exact .bl b
  | int i => exact .int i
  | str s => exact .str s
  | @lst a xs h =>
    by_cases e : a = b
    · subst e; exact .lst hb'
    · exact .lst (k _ _ e h)
  | @tup a xs h => exact .tup (k _ _ (fun z => by subst z; rw [hb] at h; cases h) h)
  | @dct a xs h => exact .dct (k _ _ (fun z => by subst z; rw [hb] at h; cases h) h)
  | @ins a C dx fs h c => exact .ins (k _ _ (fun z => by subst z; rw [hb] at h; cases h) h) c
  | @dtt a kvs h => exact .dtt (k _ _ (fun z => by subst z; rw [hb] at h; cases h) h)
section
variable {K : Frag} {H : Hp} {Q : VK} {x : V} {t : Value}
theorem n_isT {m : String} {b : Bool} (k : TyX K H x t) (h : PySem.W.kitOne K t (.type m) = some b) (q : Q (.bl b) H) : rIsiU K [x, .ty m] H Q := n_isiX k h q
theorem n_isInt (k : KitOf K H x t) (q : Q (.bl (isI x)) H) : rIsiU K [x, .ty "int"] H Q := n_isT k.ty k.int q
theorem n_isBool (k : KitOf K H x t) (q : Q (.bl (isB x)) H) : rIsiU K [x, .ty "bool"] H Q := n_isT k.ty k.bool q
theorem n_isStr (k : KitOf K H x t) (q : Q (.bl (isS x)) H) : rIsiU K [x, .ty "str"] H Q := n_isT k.ty k.str q
theorem n_isTup (k : KitOf K H x t) (q : Q (.bl (isT H x)) H) : rIsiU K [x, .ty "tuple"] H Q := n_isT k.ty k.tup q
theorem n_isLst (k : KitOf K H x t) (q : Q (.bl (isL H x)) H) : rIsiU K [x, .ty "list"] H Q := n_isT k.ty k.lst q
/-- isinstance(x, (list, tuple)), the tuple just laid -/
theorem n_isLT {p : Addr} (k : KitOf K H x t) (hp : H p = some (.tup [.ty "list", .ty "tuple"])) (q : Q (.bl (isL H x || isT H x)) H) : rIsiU K [x, .ref p] H Q := by
  refine .inr ⟨x, p, _, t, [.type "list", .type "tuple"], isL H x || isT H x, rfl, hp, .cons (.ty "list") (.cons (.ty "tuple") .nil), k.ty, ?_, q⟩
  refine kitAny_cons k.lst (fun e => ?_) (fun e => by rw [e]; rfl)
  rw [e]
  refine kitAny_cons k.tup (fun e2 => ?_) (fun e2 => by rw [e2]; rfl)
  rw [e2]
  rfl
end
theorem _root_.L2.Same.nw {H H1 : Hp} {p : Addr} {o : HO} (k : Same H H1) (h : H1 p = none) : Same H (upd H1 p o) := fun a u e => by
  have q := k a u e
  rw [upd_ne (ne_of_none q h)]
  exact q
/-- an object that is new since H may change -/
theorem _root_.L2.Same.mu {H H1 : Hp} {p : Addr} {o : HO} (k : Same H H1) (h : H p = none) : Same H (upd H1 p o) := fun a u e => by
  rw [upd_ne (ne_of_none e h)]
  exact k a u e
theorem Th.same {K : Frag} {H H' : Hp} {x : V} (h : Th K H x) (k : Same H H') : Th K H' x := by
  cases h with
  | non => exact .non
  | bl b => exact .bl b
  | int i => exact .int i
  | str s => exact .str s
  | lst h => exact .lst (k _ _ h)
  | tup h => exact .tup (k _ _ h)
  | dct h => exact .dct (k _ _ h)
  | ins h c => exact .ins (k _ _ h) c
  | dtt h => exact .dtt (k _ _ h)
/-! ### the class of a sequence; isinstance(x, (list, tuple)) of one -/
theorem _root_.L2.SqT.ty {K : Frag} {H : Hp} {a : Addr} {xs : List V} (h : SqT K H a xs) : TyX K H (.ref a) (.type "tuple") := by
  rcases h with (h | ⟨o, h⟩) | ⟨o, its, n, h, c, _⟩
  · exact .base (.tup h)
  · exact .fTuple h
  · exact .kTuple h c
theorem n_isLTl {K : Frag} {H : Hp} {Q : VK} {x : V} {p : Addr} (ty : TyX K H x (.type "list")) (hp : H p = some (.tup [.ty "list", .ty "tuple"])) (q : Q (.bl true) H) : rIsiU K [x, .ref p] H Q :=
  .inr ⟨x, p, _, _, [.type "list", .type "tuple"], true, rfl, hp, .cons (.ty "list") (.cons (.ty "tuple") .nil), ty, kitAny_cons (b := true) (kit_ty (by decide +kernel)) (fun e => nomatch e) (fun _ => rfl), q⟩
theorem n_isLTt {K : Frag} {H : Hp} {Q : VK} {x : V} {p : Addr} (ty : TyX K H x (.type "tuple")) (hp : H p = some (.tup [.ty "list", .ty "tuple"])) (q : Q (.bl true) H) : rIsiU K [x, .ref p] H Q :=
  .inr ⟨x, p, _, _, [.type "list", .type "tuple"], true, rfl, hp, .cons (.ty "list") (.cons (.ty "tuple") .nil), ty,
    kitAny_cons (b := false) (kit_ty (by decide +kernel)) (fun _ => kitAny_cons (b := true) (kit_ty (by decide +kernel)) (fun e => nomatch e) (fun _ => rfl)) (fun e => nomatch e), q⟩
/-- a list or a tuple, tracked or of the program's top -/
def SqA (K : Frag) (H : Hp) (a : Addr) (xs : List V) : Prop := H a = some (.lst xs) ∨ SqT K H a xs
theorem _root_.L2.SqT.same {K : Frag} {H H' : Hp} {a : Addr} {xs : List V} (h : SqT K H a xs) (s : Same H H') : SqT K H' a xs := by
  rcases h with (h | ⟨o, h⟩) | h
  · exact .inl (.inl (s _ _ h))
  · exact .inl (.inr ⟨o, s _ _ h⟩)
  · exact .inr h
theorem SqA.same {K : Frag} {H H' : Hp} {a : Addr} {xs : List V} (h : SqA K H a xs) (s : Same H H') : SqA K H' a xs := by
  rcases h with h | (h | ⟨o, h⟩) | h
  · exact .inl (s _ _ h)
  · exact .inr (.inl (.inl (s _ _ h)))
  · exact .inr (.inl (.inr ⟨o, s _ _ h⟩))
  · exact .inr (.inr h)
theorem SqA.isLT {K : Frag} {H : Hp} {Q : VK} {a p : Addr} {xs : List V} (h : SqA K H a xs) (hp : H p = some (.tup [.ty "list", .ty "tuple"])) (q : Q (.bl true) H) : rIsiU K [.ref a, .ref p] H Q := by
  rcases h with h | h
  · exact n_isLTl (.base (.lst h)) hp q
  · exact n_isLTt h.ty hp q
theorem SqA.len {K : Frag} {H : Hp} {a : Addr} {xs : List V} (h : SqA K H a xs) : SqL K H a xs ∨ SqT K H a xs := h.elim (fun h => .inl (SqL.of h)) .inr
theorem n_tuple {K : Frag} {H : Hp} {Q : VK} {a : Addr} {xs : List V} (h : SqA K H a xs) (q : ∀ r H', Same H H' → SqT K H' r xs → Q (.ref r) H') : rTuple K [.ref a] H Q := by
  rcases h with h | h
  · exact ⟨a, xs, rfl, .inl ⟨SqL.of h, fun l hl => q l _ (L2.Same.nw (Same.refl _) hl) (SqT.of upd_same)⟩⟩
  · exact ⟨a, xs, rfl, .inr ⟨h, q a H (Same.refl _) h⟩⟩
theorem SqT.kp {K : Frag} {H H' : Hp} {a o : Addr} {xs : List V} {C dx : Addr} {fs : List (Str × V)} (h : SqT K H a xs) (ho : H o = some (.ins C dx fs)) (k : Kp o H H') : SqT K H' a xs := by
  rcases h with (h | ⟨o, h⟩) | h
  · exact .inl (.inl (k _ _ (fun z => by subst z; rw [ho] at h; cases h) h))
  · exact .inl (.inr ⟨_, k _ _ (fun z => by subst z; rw [ho] at h; cases h) h⟩)
  · exact .inr h
theorem SqA.kp {K : Frag} {H H' : Hp} {a o : Addr} {xs : List V} {C dx : Addr} {fs : List (Str × V)} (h : SqA K H a xs) (ho : H o = some (.ins C dx fs)) (k : Kp o H H') : SqA K H' a xs := by
  rcases h with h | h
  · exact .inl (k _ _ (fun z => by subst z; rw [ho] at h; cases h) h)
  · exact .inr (SqT.kp h ho k)
theorem n_ixA {K : Frag} {H : Hp} {Q : VK} {p : Addr} {xs : List V} {i : Int} {v : V} (h : SqA K H p xs) (hi : atI xs i = some v) (q : Q v H) : rIx K (.ref p) (.int i) H Q := h.elim (fun h => n_ixL (SqL.of h) hi q) fun h => n_ixT h hi q
/-! ### loops -/
/-- the loop itself, its walk made -/
def Lp (J : It) (g : TG) (tb : TS) (D : Ends) (σ : L2.St) (H : Hp) : Prop := ∃ W : Nat → Nat → L2.St → Hp → Prop, (∃ m, W 0 m σ H) ∧ ∀ (i m : Nat) (σ : L2.St) (H : Hp), W i m σ H →
  (J.stop i H ∧ D.nx σ H) ∨ (J.go i H ∧ ∃ N : L2.St → Hp → Prop, (∀ σ' H', N σ' H' → ∃ m', m' < m ∧ W (i + 1) m' σ' H') ∧ ∀ x H', J.yld i H x H' → g x σ H' fun σ2 H2 => tb { nx := N, rt := D.rt, bk := D.nx, ct := N } σ2 H2)
section
variable {σ : L2.St} {H : Hp} {K : Frag} {D : Ends} {g : TG} {tb u : TS} {wi : TI} {ta : TA} {te : TE} {R : It → Hp → Prop}
theorem a_for (q : wi σ H fun J H1 => Lp J g tb D σ H1) : tFor wi g tb D σ H := q
theorem a_sfor (q : wi σ H fun J H1 => Lp J g tb { D with nx := u D } σ H1) : tSeq (tFor wi g tb) u D σ H := q
theorem a_iE1 (q : ta σ H fun vs H1 => ∃ a xs, vs = [.ref a] ∧ SqT K H1 a xs ∧ R (Ites K a 0) H1) : iE1 K ta σ H R := q
theorem a_iEs {k : Int} (q : ta σ H fun vs H1 => ∃ a xs, vs = [.ref a] ∧ SqT K H1 a xs ∧ R (Ites K a k) H1) : iEs K k ta σ H R := q
theorem a_iEz {k : Int} (q : ta σ H fun vs H1 => ∃ a b xs ys, vs = [.ref a, .ref b] ∧ SqT K H1 a xs ∧ SqT K H1 b ys ∧ R (Itez K a b k) H1) : iEz K k ta σ H R := q
theorem a_iEnum (q : ta σ H fun vs H1 => ∃ a xs, vs = [.ref a] ∧ SqL K H1 a xs ∧ R (Ite K a) H1) : iEnum K ta σ H R := q
theorem a_iSeq (q : iList K te σ H R ∨ iTup K te σ H R) : iSeq K te σ H R := q
theorem a_iTup (q : te σ H fun x H1 => ∃ a, x = .ref a ∧ (∃ xs, SqT K H1 a xs) ∧ R (Itt K a) H1) : iTup K te σ H R := q
theorem a_iList (q : te σ H fun x H1 => ∃ a, x = .ref a ∧ (∃ xs, SqL K H1 a xs) ∧ R (Itl K a) H1) : iList K te σ H R := q
theorem lp_it {J : It} {n : Nat} {G : Hp → Prop} {Y : Nat → Hp → V → Hp → Prop} (w : Walk J n G Y) (Pv : Nat → L2.St → Hp → Prop) (h0 : Pv 0 σ H) (hG : ∀ i σ H, i ≤ n → Pv i σ H → G H)
    (hs : ∀ i x σ H H', i < n → Pv i σ H → Y i H x H' → g x σ H' fun σ2 H2 => tb { nx := Pv (i + 1), rt := D.rt, bk := D.nx, ct := Pv (i + 1) } σ2 H2) (hd : ∀ σ H, Pv n σ H → D.nx σ H) : Lp J g tb D σ H := for_it w Pv h0 hG hs hd
theorem lp_range {lo : Int} {n : Nat} (Pv : Nat → L2.St → Hp → Prop) (h0 : Pv 0 σ H) (hs : ∀ i σ H, i < n → Pv i σ H → g (.int (lo + i)) σ H fun σ2 H2 => tb { nx := Pv (i + 1), rt := D.rt, bk := D.nx, ct := Pv (i + 1) } σ2 H2) (hd : ∀ σ H, Pv n σ H → D.nx σ H) :
    Lp (Itr lo n) g tb D σ H := for_range Pv h0 hs hd
end
/-! ### comprehensions -/
def Lc (J : It) (g : TG) (tt : TT) (te : TE) (vs : List Nat) (σ : L2.St) (H1 : Hp) (D : Addr) (Qd : Hp → Prop) : Prop := ∃ W : Nat → Nat → Hp → Prop, (∃ m, W 0 m (upd H1 D (.lst []))) ∧ ∀ (i m : Nat) (H : Hp), W i m H →
  (J.stop i H ∧ Qd H) ∨ (J.go i H ∧ ∃ Nx : Hp → Prop, (∀ H', Nx H' → ∃ m', m' < m ∧ W (i + 1) m' H') ∧ ∀ (x : V) (H' : Hp), J.yld i H x H' → g x (wipe σ vs) H' fun σ2 H2 => wipe σ2 vs = wipe σ vs ∧
    tt σ2 H2 fun b H3 => if b = true then te σ2 H3 fun y H4 => ∃ acc, H4 D = some (.lst acc) ∧ acc.length < sizeLine ∧ Nx (upd H4 D (.lst (acc ++ [y]))) else Nx H3)
section
variable {σ : L2.St} {H : Hp} {Q : VK} {g : TG} {tt : TT} {te : TE} {wi : TI} {vs : List Nat}
theorem a_lc (q : wi σ H fun J H1 => ∀ D, H1 D = none → Lc J g tt te vs σ H1 D fun H2 => Q (.ref D) H2) : tLc wi g tt te vs σ H Q := q
theorem lc_of {J : It} {n : Nat} {G : Hp → Prop} {Y : Nat → Hp → V → Hp → Prop} (w : Walk J n G Y) {H1 : Hp} {D : Addr} {Qd : Hp → Prop} (Pv : Nat → Hp → Prop) (h0 : Pv 0 (upd H1 D (.lst []))) (hG : ∀ i H, i ≤ n → Pv i H → G H)
    (hs : ∀ i x H H', i < n → Pv i H → Y i H x H' → g x (wipe σ vs) H' fun σ2 H2 => wipe σ2 vs = wipe σ vs ∧ tt σ2 H2 fun b H3 => if b = true then te σ2 H3 fun y H4 => ∃ acc, H4 D = some (.lst acc) ∧ acc.length < sizeLine ∧ Pv (i + 1) (upd H4 D (.lst (acc ++ [y]))) else Pv (i + 1) H3)
    (hd : ∀ H, Pv n H → Qd H) : Lc J g tt te vs σ H1 D Qd := lc_it w Pv h0 hG hs hd
theorem a_yes {R : Bool → Hp → Prop} (q : R true H) : tYes σ H R := q
theorem a_wp {A B : Prop} (a : A) (b : B) : A ∧ B := ⟨a, b⟩
theorem a_sl {r : V → Option Int → Option Int → Hp → VK → Prop} {tl th : TO} (q : te σ H fun x H1 => tl σ H1 fun l H2 => th σ H2 fun u H3 => r x l u H3 Q) : tSl r te tl th σ H Q := q
theorem a_nop {R : Option Int → Hp → Prop} (q : R none H) : tNoPart σ H R := q
theorem a_prt {R : Option Int → Hp → Prop} (q : te σ H fun x H1 => ∃ i, x = .int i ∧ R (some i) H1) : tPart te σ H R := q
theorem a_ex1 {R : Int → Prop} {i : Int} (q : R i) : ∃ j, V.int i = V.int j ∧ R j := ⟨i, rfl, q⟩
end
section
variable {σ : L2.St} {H : Hp} {ta : TA} {R : It → Hp → Prop}
theorem a_rng1 (q : ta σ H fun vs H1 => ∃ j : Int, vs = [.int j] ∧ -2 ^ 62 ≤ j ∧ j < 2 ^ 62 ∧ R (Itr 0 j.toNat) H1) : iRng1 ta σ H R := q
theorem a_rng2 (q : ta σ H fun vs H1 => ∃ i j : Int, vs = [.int i, .int j] ∧ (-2 ^ 62 ≤ i ∧ i < 2 ^ 62 ∧ -2 ^ 62 ≤ j ∧ j < 2 ^ 62) ∧ R (Itr i (j - i).toNat) H1) : iRng2 ta σ H R := q
end
end EL

/- part T -/
/-! tracked data: what is laid and known, with empty dicts; repr of it; t[::-1] of a tuple -/
namespace EL
open PySem PySem.Spec PyProof.Rows L2
open PySem.W (Frag)
mutual
inductive Tk (H : Hp) : V → PyData → Prop
  | non : Tk H .non .none
  | bl (b : Bool) : Tk H (.bl b) (.bool b)
  | int (i : Int) : Tk H (.int i) (.int i)
  | str (x : Str) : Tk H (.str x) (.str x)
  | lst {a : Addr} {xs : List V} {ds : List PyData} (h : H a = some (.lst xs)) (t : TkAll H xs ds) : Tk H (.ref a) (.list ds)
  | tup {a : Addr} {xs : List V} {ds : List PyData} (h : H a = some (.tup xs)) (t : TkAll H xs ds) : Tk H (.ref a) (.tuple ds)
  | dct {a : Addr} (h : H a = some (.dK [])) : Tk H (.ref a) (.dict [])
inductive TkAll (H : Hp) : List V → List PyData → Prop
  | nil : TkAll H [] []
  | cons {v : V} {vs : List V} {d : PyData} {ds : List PyData} (h : Tk H v d) (t : TkAll H vs ds) : TkAll H (v :: vs) (d :: ds)
end
mutual
theorem tk_same {H H' : Hp} (s : Same H H') : ∀ (d : PyData) (v : V), Tk H v d → Tk H' v d
  | .none, _, h => by cases h; exact .non
  | .bool _, _, h => by cases h; exact .bl _
  | .int _, _, h => by cases h; exact .int _
  | .str _, _, h => by cases h; exact .str _
  | .list ds, _, h => by
    cases h with
    | lst a t => exact .lst (s _ _ a) (tk_sameAll s ds _ t)
  | .tuple ds, _, h => by
    cases h with
    | tup a t => exact .tup (s _ _ a) (tk_sameAll s ds _ t)
  | .dict _, _, h => by
    cases h with
    | dct a => exact .dct (s _ _ a)
theorem tk_sameAll {H H' : Hp} (s : Same H H') : ∀ (ds : List PyData) (vs : List V), TkAll H vs ds → TkAll H' vs ds
  | [], _, h => by cases h; exact .nil
  | d :: ds, _, h => by
    cases h with
    | cons h1 h2 => exact .cons (tk_same s d _ h1) (tk_sameAll s ds _ h2)
end
theorem Tk.same {H H' : Hp} {v : V} {d : PyData} (h : Tk H v d) (s : Same H H') : Tk H' v d := tk_same s d v h
theorem TkAll.same {H H' : Hp} {v : List V} {d : List PyData} (h : TkAll H v d) (s : Same H H') : TkAll H' v d := tk_sameAll s d v h
theorem TkAll.mem {H : Hp} : ∀ {vs : List V} {ds : List PyData}, TkAll H vs ds → ∀ y ∈ vs, ∃ e, e ∈ ds ∧ Tk H y e
  | [], _, _, _, h => nomatch h
  | v :: vs, _, .cons h t, y, hy => by
    rcases List.mem_cons.mp hy with rfl | q
    · exact ⟨_, List.mem_cons_self .., h⟩
    · obtain ⟨e, m, k⟩ := TkAll.mem t y q
      exact ⟨e, List.mem_cons_of_mem _ m, k⟩
theorem TkAll.app {H : Hp} : ∀ {vs ws : List V} {ds es : List PyData}, TkAll H vs ds → TkAll H ws es → TkAll H (vs ++ ws) (ds ++ es)
  | [], _, _, _, .nil, h => h
  | _ :: _, _, _, _, .cons h t, k => .cons h (TkAll.app t k)
theorem TkAll.at_ {H : Hp} {vs : List V} {ds : List PyData} (h : TkAll H vs ds) : ∀ (i : Nat) (v : V), vs[i]? = some v → ∃ d, ds[i]? = some d ∧ Tk H v d := by
  induction vs generalizing ds with
  | nil => intro i v e; cases i <;> cases e
  | cons w ws ih =>
    intro i v e
    cases h with
    | cons h1 h2 =>
      cases i with
      | zero => cases e; exact ⟨_, rfl, h1⟩
      | succ i => exact ih h2 i v e
theorem tk_ints {H : Hp} : ∀ (js : List Int), TkAll H (js.map V.int) (js.map PyData.int)
  | [] => .nil
  | j :: r => .cons (.int j) (tk_ints r)
theorem Tk.th {K : Frag} {H : Hp} {v : V} {d : PyData} (h : Tk H v d) : Th K H v := by
  cases h with
  | non => exact .non
  | bl b => exact .bl b
  | int i => exact .int i
  | str x => exact .str x
  | lst h _ => exact .lst h
  | tup h _ => exact .tup h
  | dct h => exact .dct h
theorem Tk.el {H : Hp} {q : Addr} {d : PyData} {xs : List V} (h : Tk H (.ref q) d) (e : H q = some (.tup xs)) : ∃ ds, d = .tuple ds ∧ TkAll H xs ds := by
  cases h with
  | lst h _ => rw [h] at e; cases e
  | tup h t => rw [h] at e; cases e; exact ⟨_, rfl, t⟩
  | dct h => rw [h] at e; cases e
theorem Tk.elL {H : Hp} {q : Addr} {d : PyData} {xs : List V} (h : Tk H (.ref q) d) (e : H q = some (.lst xs)) : ∃ ds, d = .list ds ∧ TkAll H xs ds := by
  cases h with
  | lst h t => rw [h] at e; cases e; exact ⟨_, rfl, t⟩
  | tup h _ => rw [h] at e; cases e
  | dct h => rw [h] at e; cases e
theorem Tk.els {K : Frag} {H : Hp} {x : V} {d : PyData} (h : Tk H x d) (q : Addr) (xs : List V) (ex : x = .ref q) (e : H q = some (.tup xs)) : ∀ y ∈ xs, Th K H y := fun y hy => by
  subst ex
  obtain ⟨ds, _, t⟩ := h.el e
  obtain ⟨e, _, k⟩ := t.mem y hy
  exact k.th
/-! ### the heap without the bag -/
def wo (b : Addr) (H : Hp) : Hp := fun a => if a = b then none else H a
theorem wo_ne {b a : Addr} {H : Hp} {o : HO} (n : a ≠ b) (h : H a = some o) : wo b H a = some o := by unfold wo; rw [if_neg n]; exact h
theorem wo_same {b : Addr} {H : Hp} : Same (wo b H) H := fun a o h => by
  unfold wo at h
  by_cases e : a = b
  · rw [if_pos e] at h; cases h
  · rw [if_neg e] at h; exact h
theorem wo_kp {b : Addr} {H H' : Hp} (k : Kp b H H') : Same (wo b H) (wo b H') := fun a o h => by
  unfold wo at h
  by_cases e : a = b
  · rw [if_pos e] at h; cases h
  · rw [if_neg e] at h; exact wo_ne e (k a o e h)
theorem wo_sm {b : Addr} {H H' : Hp} (s : Same H H') : Same (wo b H) (wo b H') := wo_kp (same_kp s)
/-- known apart from the bag -/
abbrev TkB (b : Addr) (H : Hp) (v : V) (d : PyData) : Prop := Tk (wo b H) v d
theorem TkB.tk {b : Addr} {H : Hp} {v : V} {d : PyData} (h : TkB b H v d) : Tk H v d := h.same wo_same
theorem TkB.kp {b : Addr} {H H' : Hp} {v : V} {d : PyData} (h : TkB b H v d) (k : Kp b H H') : TkB b H' v d := h.same (wo_kp k)
/-! ### what can be shown -/
mutual
def gd : PyData → Bool
  | .none | .bool _ => true
  | .int i => decide (i.natAbs < 10 ^ 40)
  | .str x => x.cps.toList.all fun c => decide (c < 16 ^ 8)
  | .list xs | .tuple xs => gdAll xs
  | .dict kvs => kvs.isEmpty
def gdAll : List PyData → Bool
  | [] => true
  | x :: xs => gd x && gdAll xs
end
mutual
def noL : PyData → Bool
  | .list _ => false
  | .tuple xs => noLAll xs
  | _ => true
def noLAll : List PyData → Bool
  | [] => true
  | x :: xs => noL x && noLAll xs
end
structure Fine (d : PyData) : Prop where
  good : gd d = true
  bulk : d.bulk ≤ 300000
  depth : d.depth ≤ 40
  mix : d.hasDict = true → noL d = true
theorem pow10 : (10 : Nat) ^ 40 ≤ 2 ^ 1920 := by decide +kernel
mutual
theorem gd_showable : ∀ (d : PyData), gd d = true → d.showable = true
  | .none, _ => rfl
  | .bool _, _ => rfl
  | .str _, _ => rfl
  | .int i, h => by
    have q : i.natAbs < 10 ^ 40 := by simpa [gd] using h
    have q2 : i.natAbs < 2 ^ 1920 := Nat.lt_of_lt_of_le q pow10
    show decide (i.natAbs.log2 < 1920) = true
    rw [decide_eq_true_iff]
    by_cases e : i.natAbs = 0
    · rw [e]; decide
    · exact (Nat.log2_lt e).mpr q2
  | .list xs, h => gd_showableAll xs h
  | .tuple xs, h => gd_showableAll xs h
  | .dict [], _ => rfl
  | .dict (_ :: _), h => by cases h
theorem gd_showableAll : ∀ (ds : List PyData), gdAll ds = true → PyData.showableAll ds = true
  | [], _ => rfl
  | d :: ds, h => by
    have q : gd d = true ∧ gdAll ds = true := by simpa [gdAll] using h
    show (d.showable && PyData.showableAll ds) = true
    rw [gd_showable d q.1, gd_showableAll ds q.2]
    rfl
end
theorem int_shown {i : Int} (h : i.natAbs < 10 ^ 40) : (PyData.shown (.int i)).length ≤ 42 := by
  have q := int_text_length_le10 (a := i) (k := 40) (by decide) h
  have e : (PyData.shown (.int i)).length = (toString i).length := by
    show (Str.ofString (toString i)).length = _
    exact PySem.ofString_length _
  omega
mutual
theorem gd_short : ∀ (d : PyData), gd d = true → d.leavesShort 42 = true
  | .none, _ => rfl
  | .bool _, _ => rfl
  | .str _, h => h
  | .int i, h => by
    have q : i.natAbs < 10 ^ 40 := by simpa [gd] using h
    show decide (_ ≤ 42) = true
    rw [decide_eq_true_iff]
    exact int_shown q
  | .list xs, h => gd_shortAll xs h
  | .tuple xs, h => gd_shortAll xs h
  | .dict [], _ => rfl
  | .dict (_ :: _), h => by cases h
theorem gd_shortAll : ∀ (ds : List PyData), gdAll ds = true → PyData.leavesShortAll 42 ds = true
  | [], _ => rfl
  | d :: ds, h => by
    have q : gd d = true ∧ gdAll ds = true := by simpa [gdAll] using h
    show (d.leavesShort 42 && PyData.leavesShortAll 42 ds) = true
    rw [gd_short d q.1, gd_shortAll ds q.2]
    rfl
end
theorem Fine.len {d : PyData} (h : Fine d) : d.shown.length ≤ sizeLine := by
  have q := PyData.shown_le_bulk 42 (by decide) d (gd_short d h.good)
  have e : sizeLine = 16777216 := rfl
  have := h.bulk
  omega
/-! ### what the real heap has of it -/
section
variable {X : Cx} {pins : List (Addr × Obj)} {σ : L2.St} {H : Hp} {s : Shared}
mutual
theorem tk_reads (I : Inv X pins σ H s) : ∀ (d : PyData) (v : V) (u : Value), Tk H v d → RelV v u → ∃ as, Reads s.heap u d as ∧ (noL d = true → sysModules ∉ as)
  | .none, _, _, h, r => by
    cases h
    cases r
    exact ⟨_, Reads.none, fun _ => List.not_mem_nil⟩
  | .bool b, _, _, h, r => by
    cases h
    cases r
    exact ⟨_, Reads.bool b, fun _ => List.not_mem_nil⟩
  | .int i, _, _, h, r => by
    cases h
    obtain ⟨t, rfl⟩ := r
    exact ⟨_, Reads.int i t, fun _ => List.not_mem_nil⟩
  | .str x, _, _, h, r => by
    cases h
    obtain ⟨t, rfl⟩ := r
    exact ⟨_, Reads.str x t, fun _ => List.not_mem_nil⟩
  | .list ds, _, _, h, r => by
    cases h with
    | lst hs ha =>
      cases r
      obtain ⟨its, rv, ⟨o, n, ho, hc, _, hd⟩, _⟩ := I.list (SqL.of hs)
      obtain ⟨as, hr, _⟩ := tk_readsAll I ds _ its ha rv
      exact ⟨_, Reads.list ho hc hd hr, fun z => nomatch z⟩
  | .tuple ds, _, _, h, r => by
    cases h with
    | tup hs ha =>
      cases r
      obtain ⟨its, rv, ⟨o, ho, hc, n, hd⟩, _⟩ := I.tuple (SqT.of hs)
      obtain ⟨as, hr, hm⟩ := tk_readsAll I ds _ its ha rv
      exact ⟨_, Reads.tuple ho hc hd hr, hm⟩
  | .dict _, _, _, h, r => by
    cases h with
    | @dct p hp =>
      cases r
      obtain ⟨_, ns, vs, kv, o, es, ep, ho, ex, hd, _, pr, _⟩ := I.hok p _ hp
      cases kv
      have e0 : es.toList = [] := by
        generalize es.toList = l at pr
        cases pr
        rfl
      have e1 : es = #[] := Array.toList_inj.mp e0
      subst e1
      refine ⟨_, .dict ho ex.1 hd .nil .nil, fun _ z => ?_⟩
      have z' : sysModules = p := by simpa using z
      rw [← z'] at ns
      exact absurd ns (by decide)
theorem tk_readsAll (I : Inv X pins σ H s) : ∀ (ds : List PyData) (vs : List V) (us : List Value), TkAll H vs ds → Vals vs us → ∃ as, ReadsAll s.heap us ds as ∧ (noLAll ds = true → sysModules ∉ as)
  | [], _, _, h, r => by
    cases h
    cases r
    exact ⟨_, ReadsAll.nil, fun _ => List.not_mem_nil⟩
  | d :: ds, _, _, h, r => by
    cases h with
    | cons h1 h2 =>
      cases r with
      | cons r1 r2 =>
        obtain ⟨as, q1, m1⟩ := tk_reads I d _ _ h1 r1
        obtain ⟨bs, q2, m2⟩ := tk_readsAll I ds _ _ h2 r2
        refine ⟨_, ReadsAll.cons q1 q2, fun z => ?_⟩
        have q : noL d = true ∧ noLAll ds = true := by simpa [noLAll] using z
        exact fun w => (List.mem_append.mp w).elim (m1 q.1) (m2 q.2)
end
end
def rShowT : List V → Hp → VK → Prop := fun xs H Q => ∃ x d, xs = [x] ∧ Tk H x d ∧ Fine d ∧ Q (.str d.shown) H
theorem u_showT {X : Cx} (hq : Quiet X.A) (hu : X.A.units + 64 < cLine) : CallR X (.builtin "repr") rShowT := by
  rintro pins s σ H xs us Q I r ⟨x, d, rfl, hd, hf, q⟩
  have hlen := hf.len
  have hs := gd_showable d hf.good
  have hdep := hf.depth
  have hm := hf.mix
  cases r with
  | cons rx rn =>
    rename_i u us
    cases rn
    obtain ⟨as, rd, ns⟩ := tk_reads I d x u hd rx
    have ns2 : d.hasDict = true → sysModules ∉ as := fun z => ns (hm z)
    have fin : ∀ t k, EP X pins σ Q (.str d.shown t) { s with toks := k } := fun t k => ⟨V.str d.shown, H, I.tok _, ⟨t, rfl⟩, q⟩
    have fin2 : ∀ h' t k, (∀ b o, s.heap.get? b = some o → h'.get? b = some o) → EP X pins σ Q (.str d.shown t) { s with heap := h', toks := k } := fun h' t tk k => ⟨V.str _, H, I.kept k, ⟨t, rfl⟩, q⟩
    cases rd with
    | none => exact PySem.P.repr_of_none (fin _ _)
    | bool b => exact PySem.P.repr_of_bool (fin _ _)
    | int i t => exact PySem.P.repr_of_int (by simpa [PyData.showable] using hs) (fin _ _)
    | str y t => exact PySem.P.repr_of_str (fin _ _) hlen
    | list h1 h2 h3 h4 => exact repr_of_reads' (h₀ := s.heap) (.list h1 h2 h3 h4) hs ns2 hq (by omega) (fun _ _ e => e) fin2 hlen
    | tuple h1 h2 h3 h4 => exact repr_of_reads' (h₀ := s.heap) (.tuple h1 h2 h3 h4) hs ns2 hq (by omega) (fun _ _ e => e) fin2 hlen
    | dict h1 h2 h3 h4 h5 => exact repr_of_reads' (h₀ := s.heap) (.dict h1 h2 h3 h4 h5) hs ns2 hq (by omega) (fun _ _ e => e) fin2 hlen
end EL

/- part T2 -/
/-! t[::-1] of a tuple -/
namespace EL
open PySem PySem.Spec PyProof.Rows L2
open PySem.W (Frag)
theorem rev_adjust (n : Nat) : Builtin.Slice.sliceAdjust none none (-1) (n : Int) = ((n : Int) - 1, -1) := by
  unfold Builtin.Slice.sliceAdjust
  rfl
theorem rev_places (n : Nat) : Builtin.Slice.slicePlaces ((n : Int) - 1) (-1) (-1) = n := by
  unfold Builtin.Slice.slicePlaces
  have h1 : ¬ ((-1 : Int) > 0) := by omega
  rw [if_neg h1]
  by_cases h : (n : Int) - 1 > -1
  · rw [if_pos h, show (- -1 : Int) = 1 by decide, Int.ediv_one]
    omega
  · rw [if_neg h]
    omega
theorem fm_congr {α β : Type} {f g : α → Option β} : ∀ (l : List α), (∀ x ∈ l, f x = g x) → l.filterMap f = l.filterMap g
  | [], _ => rfl
  | a :: l, h => by rw [List.filterMap_cons, List.filterMap_cons, h a (List.mem_cons_self ..), fm_congr l fun x hx => h x (List.mem_cons_of_mem _ hx)]
theorem rev_pick (xs : Array Value) : ((List.range xs.size).filterMap fun (k : Nat) => xs[((xs.size : Int) - 1 + (k : Int) * (-1)).toNat]?).toArray = xs.toList.reverse.toArray := by
  have e : (List.range xs.size).filterMap (fun (k : Nat) => xs[((xs.size : Int) - 1 + (k : Int) * (-1)).toNat]?) = ((List.range xs.size).map fun k => xs.size - 1 - k).filterMap (xs[·]?) := by
    rw [List.filterMap_map]
    apply fm_congr
    intro k hk
    have := List.mem_range.mp hk
    have q : ((xs.size : Int) - 1 + (k : Int) * (-1)).toNat = xs.size - 1 - k := by omega
    show xs[((xs.size : Int) - 1 + (k : Int) * (-1)).toNat]? = xs[xs.size - 1 - k]?
    rw [q]
  rw [e, PySem.W.krv_range, List.filterMap_reverse, PySem.W.krv_all]
section
variable {prog : Program} {w : World} {A : Around} {E : Value → Shared → Prop} {s : Shared}
open HT in
theorem getItem_tuple_rev {t sl : Addr} {items : Array Value} {vl vu vs : Value} {Q : Value → Shared → Prop} (ht : IsTup s.heap t items) (hs : s.heap.IsSliceOf sl vl vu vs) (pl : IsPart vl none) (pu : IsPart vu none) (ps : IsPart vs (some (-1)))
    (h : Q (.ref s.heap.objs.size) { s with heap := s.heap.push { cls := .type "tuple", data := .seq items.toList.reverse.toArray } }) (hsz : items.size ≤ sizeLine) : wpAny (model prog w) A (getItem (.ref t) (.ref sl)) Q E s := by
  have htake : sizeOk (.seq items.toList.reverse.toArray) := by
    show items.toList.reverse.toArray.size ≤ sizeLine
    rw [List.size_toArray, List.length_reverse, Array.length_toList]
    exact hsz
  obtain ⟨os, hos, hcs, hds⟩ := id hs
  have hTs : s.TypeIs (.ref sl) "slice" := ⟨os, hos, hcs⟩
  unfold getItem
  try with_reducible refine wpAny_holding ?_
  first | refine wpAny_bind (wpAny_pure ?_) | skip
  refine wpAny_bind (wpAny_sequenceKey ht.typeIs (by decide) ?_)
  refine wpAny_bind (wpAny_callSpecial?_slot (name := Str.ofString "__getitem__") ht.typeIs PyProof.Rows.slot_tuple_getitem
    (wpAny_call_entry PyProof.Rows.slot_tuple_getitem ht.typeIs entry_tuple_getitem ?_ (args_tuple_getitem _ _)))
  show wpAny _ _ (Builtin.Tuple.tupleItemsOf (.ref t) >>= _) _ _ s
  refine wpAny_bind (tupleItemsOf_ ht ?_)
  refine wpAny_bind (wpAny_typeOf hTs ?_)
  rw [if_pos (by decide)]
  have ap : ∀ {R : Int × Int × Nat → Shared → Prop}, R ((items.size : Int) - 1, -1, items.size) s → wpAny (model prog w) A.in1 (Builtin.Slice.sliceApplied (.ref sl) (pure (items.size : Int))) R E s := by
    intro R hR
    unfold Builtin.Slice.sliceApplied Builtin.Slice.sliceFields
    refine wpAny_bind (wpAny_bind (wpAny_field hos hds (x := vl) rfl (wpAny_bind (wpAny_field hos hds (x := vu) rfl (wpAny_bind (wpAny_field hos hds (x := vs) rfl (wpAny_pure ?_)))))))
    refine wpAny_bind (slicePart_ ps ?_)
    show wpAny _ _ (if ((-1 : Int) == 0) = true then _ else _) _ _ s
    rw [if_neg (by decide)]
    refine wpAny_bind (slicePart_ pl (wpAny_bind (slicePart_ pu (wpAny_bind (wpAny_pure ?_)))))
    show wpAny _ _ (match Builtin.Slice.sliceAdjust none none (-1) (items.size : Int) with | (lo, hi) => pure (lo, (-1 : Int), Builtin.Slice.slicePlaces lo hi (-1))) _ _ s
    rw [rev_adjust]
    show wpAny _ _ (pure ((items.size : Int) - 1, (-1 : Int), Builtin.Slice.slicePlaces ((items.size : Int) - 1) (-1) (-1))) _ _ s
    rw [rev_places]
    exact wpAny_pure hR
  refine wpAny_bind (ap ?_)
  have hno : ¬ ((((items.size : Int) - 1) == 0 && (-1 : Int) == 1 && items.size == items.size) = true) := by
    intro q
    rw [Bool.and_eq_true, Bool.and_eq_true] at q
    exact absurd q.1.2 (by decide)
  show wpAny _ _ (if (((items.size : Int) - 1) == 0 && (-1 : Int) == 1 && items.size == items.size) = true then _ else _) _ _ s
  rw [if_neg hno, rev_pick]
  first
    | exact wpAny_bind (m := Builtin.Tuple.tupleExact _) (wpAny_newObj_type (wpAny_pure ⟨_, rfl, wpAny_pure h⟩) htake)
    | exact wpAny_bind (m := Builtin.Tuple.tupleExact _) (wpAny_newObj_type (wpAny_bind (wpAny_pure (wpAny_pure ⟨_, rfl, wpAny_pure h⟩))) htake)
    | exact wpAny_bind (wpAny_bind (m := Builtin.Tuple.tupleExact _) (wpAny_newObj_type (wpAny_pure (wpAny_pure ⟨_, rfl, wpAny_pure h⟩)) htake))
    | exact wpAny_bind (wpAny_bind (m := Builtin.Tuple.tupleExact _) (wpAny_newObj_type (wpAny_pure ⟨_, rfl, wpAny_pure h⟩) htake))
end
section
variable {X : Cx}
def tRevT (K : Frag) (te : TE) : TE := fun σ H Q => te σ H fun x H1 => ∃ a xs, x = .ref a ∧ SqT K H1 a xs ∧ ∀ p, H1 p = none → Q (.ref p) (upd H1 p (.tup xs.reverse))
theorem pe_revT {e : Expr} {te : TE} {k : Nat} {p1 p2 p3 pos : Pos} (he : PE X e te) : PE X (.Subscript e (.Slice none none (some (.UnaryOp .USub (.Constant (.int 1) k p1) p2)) p3) pos) (tRevT X.K te) := by
  refine ⟨fun pins s σ H Q I h => ?_⟩
  refine Subscript_ (thn (he.run pins s σ H _ I h) fun v s1 ⟨x, H1, I1, r1, q1⟩ => ?_)
  obtain ⟨a, xs, ex, hx, q⟩ := q1
  subst ex
  cases r1
  have hst : PO X (some (.UnaryOp .USub (.Constant (.int 1) k p1) p2)) (tPart (tUn (rU fun i => .int (-i)) (tC (.int 1)))) := po_some (pe_un un_neg pe_int)
  refine wpAny_Slice (thn (po_none.run pins s1 σ H1 (fun o H2 => o = none ∧ H2 = H1) I1 ⟨rfl, rfl⟩) fun vl s2 ⟨l, H2, I2, pl, el, e2⟩ => ?_)
  subst el e2
  refine thn (po_none.run pins s2 σ H2 (fun o H3 => o = none ∧ H3 = H2) I2 ⟨rfl, rfl⟩) fun vu s3 ⟨u, H3, I3, pu, eu, e3⟩ => ?_
  subst eu e3
  refine thn (hst.run pins s3 σ H3 (fun o H4 => o = some (-1) ∧ H4 = H3) I3 ⟨1, rfl, -1, rfl, rfl, rfl⟩) fun vs s4 ⟨o, H4, I4, ps, eo, e4⟩ => ?_
  subst eo e4
  have I5 : Inv X pins σ H4 { s4 with heap := s4.heap.push { cls := .type "slice", data := .fields #[vl, vu, vs] } } := I4.kept (t' := s4.toks) fun b ob q => Heap.get?_push_of_some _ q
  obtain ⟨its, r, ht, hz⟩ := I5.tuple hx
  have hlen := r.length
  show wpAny (model X.prog X.w) X.A (subscriptTail e (.Slice none none (some (.UnaryOp .USub (.Constant (.int 1) k p1) p2)) p3) (.ref a) (.ref s4.heap.objs.size)) (EP X pins σ Q) X.xe { s4 with heap := s4.heap.push { cls := .type "slice", data := .fields #[vl, vu, vs] } }
  refine tail_any (ops := [.ref a, .ref s4.heap.objs.size]) ht.typeIs (PyProof.Rows.slot_tuple_getitem.lookup) ?_ (by with_unfolding_all rfl)
  refine getItem_tuple_rev ht (Heap.IsSliceOf.new _ vl vu vs) pl pu ps ?_ (by rw [List.size_toArray]; omega)
  refine ⟨.ref _, _, I5.laid (t' := s4.toks) (o := .tup xs.reverse) (fun b ob q => Heap.get?_push_of_some _ q) (Nat.le_refl _) ?_, rfl, q _ (I5.hok.fresh (Nat.le_refl _))⟩
  exact ⟨by rw [List.length_reverse]; exact hz, _, r.reverse, IsTup.new _ _⟩
end
end EL

/- part T3 -/
/-! data of a size; parts of tuples -/
namespace EL
open PySem PySem.Spec PyProof.Rows L2
open PySem.W (Frag)
/-- no dict, so big, so deep -/
structure Sz (n k : Nat) (d : PyData) : Prop where
  good : gd d = true
  bulk : d.bulk ≤ n
  depth : d.depth ≤ k
  nod : d.hasDict = false
theorem Sz.le {n k n' k' : Nat} {d : PyData} (h : Sz n k d) (a : n ≤ n') (b : k ≤ k') : Sz n' k' d := ⟨h.good, Nat.le_trans h.bulk a, Nat.le_trans h.depth b, h.nod⟩
theorem Sz.fine {n k : Nat} {d : PyData} (h : Sz n k d) (a : n ≤ 300000) (b : k ≤ 40) : Fine d := ⟨h.good, Nat.le_trans h.bulk a, Nat.le_trans h.depth b, fun z => by rw [h.nod] at z; cases z⟩
theorem sz_all {n k : Nat} : ∀ {ds : List PyData}, (∀ d ∈ ds, Sz n k d) → gdAll ds = true ∧ PyData.bulkAll ds ≤ ds.length * (n + 1) ∧ PyData.depthAll ds ≤ k ∧ PyData.hasDictAll ds = false
  | [], _ => ⟨rfl, Nat.zero_le _, Nat.zero_le _, rfl⟩
  | d :: ds, h => by
    have q := h d (List.mem_cons_self ..)
    obtain ⟨a, b, c, e⟩ := sz_all fun x hx => h x (List.mem_cons_of_mem _ hx)
    refine ⟨?_, ?_, ?_, ?_⟩
    · show (gd d && gdAll ds) = true
      rw [q.good, a]; rfl
    · show d.bulk + 1 + PyData.bulkAll ds ≤ (ds.length + 1) * (n + 1)
      have := q.bulk
      rw [Nat.add_mul, Nat.one_mul]
      omega
    · show max d.depth (PyData.depthAll ds) ≤ k
      exact Nat.max_le.mpr ⟨q.depth, c⟩
    · show (d.hasDict || PyData.hasDictAll ds) = false
      rw [q.nod, e]; rfl
theorem sz_tup {n k : Nat} {ds : List PyData} (h : ∀ d ∈ ds, Sz n k d) : Sz (ds.length * (n + 1)) (k + 1) (.tuple ds) := by
  obtain ⟨a, b, c, e⟩ := sz_all h
  exact ⟨a, b, Nat.succ_le_succ c, e⟩
theorem sz_lst {n k : Nat} {ds : List PyData} (h : ∀ d ∈ ds, Sz n k d) : Sz (ds.length * (n + 1)) (k + 1) (.list ds) := by
  obtain ⟨a, b, c, e⟩ := sz_all h
  exact ⟨a, b, Nat.succ_le_succ c, e⟩
theorem sz_non : Sz 0 0 .none := ⟨rfl, Nat.le_refl _, Nat.le_refl _, rfl⟩
theorem sz_bl {b : Bool} : Sz 0 0 (.bool b) := ⟨rfl, Nat.le_refl _, Nat.le_refl _, rfl⟩
theorem sz_int {i : Int} (h : i.natAbs < 10 ^ 40) : Sz 0 0 (.int i) := ⟨by show decide _ = true; exact decide_eq_true h, Nat.le_refl _, Nat.le_refl _, rfl⟩
theorem sz_str {s : Str} (h : gd (.str s) = true) : Sz s.cps.size 0 (.str s) := ⟨h, Nat.le_refl _, Nat.le_refl _, rfl⟩
/-- a value that is known apart from the bag, of a size -/
def NiS (n k : Nat) (b : Addr) (H : Hp) (v : V) : Prop := ∃ d, TkB b H v d ∧ Sz n k d
/-- a value that is known apart from the bag, and can be shown -/
def Nice (b : Addr) (H : Hp) (v : V) : Prop := ∃ d, TkB b H v d ∧ Fine d
section
variable {n k : Nat} {b : Addr} {H H' : Hp} {v : V}
theorem NiS.le {n' k' : Nat} (h : NiS n k b H v) (a : n ≤ n') (c : k ≤ k') : NiS n' k' b H v := by
  obtain ⟨d, t, z⟩ := h
  exact ⟨d, t, z.le a c⟩
theorem NiS.nice (h : NiS n k b H v) (a : n ≤ 300000) (c : k ≤ 40) : Nice b H v := by
  obtain ⟨d, t, z⟩ := h
  exact ⟨d, t, z.fine a c⟩
theorem NiS.kp (h : NiS n k b H v) (q : Kp b H H') : NiS n k b H' v := by
  obtain ⟨d, t, z⟩ := h
  exact ⟨d, t.kp q, z⟩
theorem Nice.kp (h : Nice b H v) (q : Kp b H H') : Nice b H' v := by
  obtain ⟨d, t, z⟩ := h
  exact ⟨d, t.kp q, z⟩
theorem NiS.same (h : NiS n k b H v) (q : Same H H') : NiS n k b H' v := h.kp (same_kp q)
theorem Nice.same (h : Nice b H v) (q : Same H H') : Nice b H' v := h.kp (same_kp q)
theorem ni_non : NiS 0 0 b H .non := ⟨_, .non, sz_non⟩
theorem ni_bl {x : Bool} : NiS 0 0 b H (.bl x) := ⟨_, .bl x, sz_bl⟩
theorem ni_int {i : Int} (h : i.natAbs < 10 ^ 40) : NiS 0 0 b H (.int i) := ⟨_, .int i, sz_int h⟩
theorem ni_str {s : Str} (h : gd (.str s) = true := by decide +kernel) : NiS s.cps.size 0 b H (.str s) := ⟨_, .str s, sz_str h⟩
theorem tk_pick {P : PyData → Prop} : ∀ {xs : List V}, (∀ v ∈ xs, ∃ d, TkB b H v d ∧ P d) → ∃ ds, TkAll (wo b H) xs ds ∧ ds.length = xs.length ∧ ∀ d ∈ ds, P d
  | [], _ => ⟨[], .nil, rfl, fun _ h => nomatch h⟩
  | x :: xs, h => by
    obtain ⟨ds, t, l, p⟩ := tk_pick fun v hv => h v (List.mem_cons_of_mem _ hv)
    obtain ⟨d, t1, p1⟩ := h x (List.mem_cons_self ..)
    exact ⟨d :: ds, .cons t1 t, by rw [List.length_cons, List.length_cons, l], fun y hy => (List.mem_cons.mp hy).elim (fun e => e ▸ p1) (p y)⟩
theorem ni_tup {p : Addr} {xs : List V} (hp : H p = some (.tup xs)) (nb : p ≠ b) (h : ∀ v ∈ xs, NiS n k b H v) : NiS (xs.length * (n + 1)) (k + 1) b H (.ref p) := by
  obtain ⟨ds, t, l, q⟩ := tk_pick (P := Sz n k) h
  exact ⟨.tuple ds, .tup (wo_ne nb hp) t, l ▸ sz_tup q⟩
theorem ni_lst {p : Addr} {xs : List V} (hp : H p = some (.lst xs)) (nb : p ≠ b) (h : ∀ v ∈ xs, NiS n k b H v) : NiS (xs.length * (n + 1)) (k + 1) b H (.ref p) := by
  obtain ⟨ds, t, l, q⟩ := tk_pick (P := Sz n k) h
  exact ⟨.list ds, .lst (wo_ne nb hp) t, l ▸ sz_lst q⟩
theorem nice_dct {p : Addr} (hp : H p = some (.dK [])) (nb : p ≠ b) : Nice b H (.ref p) := ⟨_, .dct (wo_ne nb hp), ⟨rfl, by decide, by decide, fun _ => rfl⟩⟩
/-- the items of a known tuple -/
theorem ni_at {p : Addr} {xs : List V} (h : NiS n (k + 1) b H (.ref p)) (hp : H p = some (.tup xs)) : ∀ v ∈ xs, NiS n k b H v := by
  obtain ⟨d, t, z⟩ := h
  cases t with
  | lst e _ => rw [wo_same _ _ e] at hp; cases hp
  | dct e => rw [wo_same _ _ e] at hp; cases hp
  | @tup _ ys ds e t =>
    rw [wo_same _ _ e] at hp
    cases hp
    intro v hv
    obtain ⟨d, hd, q⟩ := t.mem v hv
    refine ⟨d, q, ?_⟩
    have a : ∀ {ds : List PyData}, d ∈ ds → gdAll ds = true → PyData.bulkAll ds ≤ n → PyData.depthAll ds ≤ k → PyData.hasDictAll ds = false → Sz n k d := by
      intro ds
      induction ds with
      | nil => intro h; cases h
      | cons e r ih =>
        intro hm h1 h2 h3 h4
        have g1 : gd e = true ∧ gdAll r = true := by simpa [gdAll] using h1
        have g2 : e.bulk + 1 + PyData.bulkAll r ≤ n := h2
        have g3 : max e.depth (PyData.depthAll r) ≤ k := h3
        have g4 : e.hasDict = false ∧ PyData.hasDictAll r = false := by simpa [PyData.hasDictAll] using h4
        have g5 := Nat.max_le.mp g3
        rcases List.mem_cons.mp hm with rfl | hm
        · exact ⟨g1.1, by omega, g5.1, g4.1⟩
        · exact ih hm g1.2 (by omega) g5.2 g4.2
    have z3 : PyData.depthAll ds + 1 ≤ k + 1 := z.depth
    exact a hd z.good z.bulk (by omega) z.nod
end
/-! ### parts of tuples, joined tuples -/
section
variable {K : Frag} {H : Hp} {Q : VK}
theorem n_catT {a b : Addr} {xs ys : List V} (ha : H a = some (.tup xs)) (hb : H b = some (.tup ys)) (z : xs.length + ys.length ≤ sizeLine) (q : ∀ p H', Same H H' → H' p = some (.tup (xs ++ ys)) → Q (.ref p) H') : rAdd K (.ref a) (.ref b) H Q := by
  refine .inr (.inr ⟨a, b, xs, ys, rfl, rfl, SqT.of ha, SqT.of hb, z, fun e => ?_, fun e1 e2 => ?_, fun _ _ p hp => q p _ (L2.Same.nw (Same.refl _) hp) upd_same⟩)
  · subst e
    exact q b H (Same.refl _) hb
  · subst e2
    exact q a H (Same.refl _) (by rw [List.append_nil]; exact ha)
theorem n_slT {a : Addr} {xs : List V} {lo hi : Option Int} (ha : H a = some (.tup xs)) (q : ∀ p H', Same H H' → H' p = some (.tup (cutV xs lo hi)) → Q (.ref p) H') : rSlice K (.ref a) lo hi H Q := by
  refine .inr ⟨a, xs, rfl, SqT.of ha, fun e => ?_, fun _ p hp => q p _ (L2.Same.nw (Same.refl _) hp) upd_same⟩
  refine q a H (Same.refl _) ?_
  have w : cutV xs lo hi = xs := by
    unfold cutV
    rw [e.1, e.2, List.drop_zero, Nat.sub_zero, List.take_length]
  rw [w]
  exact ha
theorem a_spar3 {σ : L2.St} {D : Ends} {u : TS} {ta : TA} {i j l : Nat} (q : ta σ H fun vs H1 => ∃ x y z, vs = [x, y, z] ∧ u D (((σ.set i (some x)).set j (some y)).set l (some z)) H1) : tSeq (tPar3 i j l ta) u D σ H := q
theorem a_par3 {σ : L2.St} {D : Ends} {ta : TA} {i j l : Nat} (q : ta σ H fun vs H1 => ∃ x y z, vs = [x, y, z] ∧ D.nx (((σ.set i (some x)).set j (some y)).set l (some z)) H1) : tPar3 i j l ta D σ H := q
theorem a_three {R : V → V → V → Prop} {a b c : V} (q : R a b c) : ∃ x y z, [a, b, c] = [x, y, z] ∧ R x y z := ⟨a, b, c, rfl, q⟩
theorem a_revT {σ : L2.St} {te : TE} (q : te σ H fun x H1 => ∃ a xs, x = .ref a ∧ SqT K H1 a xs ∧ ∀ p, H1 p = none → Q (.ref p) (upd H1 p (.tup xs.reverse))) : tRevT K te σ H Q := q
end
theorem cut_mem {xs : List V} {lo hi : Option Int} {v : V} (h : v ∈ cutV xs lo hi) : v ∈ xs := by
  unfold cutV at h
  exact List.mem_of_mem_drop (List.mem_of_mem_take h)
theorem cut_le (xs : List V) (lo hi : Option Int) : (cutV xs lo hi).length ≤ xs.length := by
  unfold cutV
  rw [List.length_take, List.length_drop]
  omega
end EL

/- part A -/
namespace EL
open PySem PySem.Spec PyProof.Rows L2
open PySem.W (Frag)
def top (i : Nat) : Stmt := PySem.Challenge.pw_earlyorlate_k50_middles_reckoned.main.body.getD i (.Pass ⟨0, 0, 0, 0⟩)
abbrev s_take : Stmt := top 11
abbrev N_take : List Str := ["_law_bag_here", "_law_many", "_law_cell", "_law_mixed", "_law_drawn_here", "_law_early", "_law_second"]
theorem sc_take : FnScope N_take ["_law_bag_here", "_law_many"] (defScope s_take) := ⟨rfl, rfl, rfl, by decide +kernel, rfl, by decide +kernel, by decide +kernel⟩
structure Tb (mg : Str → Option Value) : Prop where
  b : Bi mg
local macro_rules | `(tactic| walk_at "el1") => `(tactic| with_reducible first
  | refine a_sasg ?_ | refine a_sdrop ?_ | refine a_saugS ?_ | refine a_spar ?_ | refine a_seq ?_ | refine a_asg ?_ | refine a_drop ?_ | refine a_ret ?_ | refine a_if ?_ | refine a_next ?_
  | refine a_op ?_ | refine a_cons ?_ | refine a_nil ?_ | refine a_cb ?_ | refine a_call ?_ | refine a_c ?_ | refine a_gn ?_ | refine a_nx ?_ | refine a_rt ?_ | refine a_un ?_
  | refine a_test ?_ | refine a_B ?_ | refine a_bl ?_ | refine a_and ?_ | refine a_or ?_ | refine a_not ?_ | refine a_andV ?_ | refine a_orV ?_ | refine a_notV ?_ | refine a_ifx ?_ | refine a_chain ?_
  | refine a_nT ?_ | refine a_nF ?_ | refine a_fld ?_ | refine a_getF ?_ | refine a_T ?_ | refine a_F ?_ | refine a_tup ?_ | refine a_lst ?_ | refine a_sub ?_ | refine a_augS ?_ | refine a_two ?_ | refine a_I0 ?_ | refine a_U ?_ | refine n_add ?_ | refine n_int ?_ | refine n_ib ?_ | refine a_ip ?_ | refine a_rng1 ?_ | refine a_rng2 ?_ | refine a_bm ?_ | refine a_abs ?_ | refine a_pairs ?_ | refine a_pairs0 ?_ | refine a_bk ?_ | refine a_prp ?_ | refine a_lc ?_ | refine a_yes ?_ | refine a_sl ?_ | refine a_nop ?_ | refine a_prt ?_ | refine a_ex1 ?_ | refine a_for ?_ | refine a_sfor ?_ | refine a_iE1 ?_ | refine a_iEs ?_ | refine a_iEz ?_ | refine a_iEnum ?_ | refine a_iTup ?_ | refine a_iList ?_ | refine a_gcons ?_ | refine a_gnil ?_ | refine a_revT ?_ | refine a_spar3 ?_ | refine a_par3 ?_ | refine a_three ?_)
local macro_rules | `(tactic| walk_at "el2") => `(tactic| first
  | (refine a_var (by rfl) ?_)
  | (refine n_ixL (SqL.of (by assumption)) (by rfl) ?_) | (refine n_ixT (SqT.of (by assumption)) (by rfl) ?_) | (refine n_eq (by rfl) ?_) | (refine n_ne (by rfl) ?_)
  | (refine n_isN ?_) | (refine n_notN ?_) | (refine n_isB ?_) | (refine n_notB ?_) | (refine n_isBI ?_) | (refine n_notBI ?_) | (refine n_len (.inl (SqL.of (by assumption))) ?_) | (refine n_len (.inr (SqT.of (by assumption))) ?_)
  | (refine a_getL (SqL.of (by assumption)) (by rfl) ?_)
  | (refine n_isInt (by assumption) ?_) | (refine n_isBool (by assumption) ?_) | (refine n_isStr (by assumption) ?_) | (refine n_isTup (by assumption) ?_) | (refine n_isLst (by assumption) ?_))
local macro_rules | `(tactic| walk_at "el") => `(tactic| repeat (first | walk_at "el1" | walk_at "el2"))

/-! ### the bag -/
def Bag (H : Hp) (b c : Addr) : Prop := ∃ (i j k : Int) (cs : List Int), H b = some (.lst [.int i, .int j, .int k, .ref c]) ∧ H c = some (.lst (cs.map V.int)) ∧ c ≠ b ∧ 0 ≤ i ∧ 0 ≤ j ∧ j < 2147483647 ∧ 0 ≤ k ∧ ∀ x ∈ cs, 0 ≤ x
/-- a draw: a number from 0 to many - 1, the bag changed -/
def spTake : Sp := fun vs H Q _ => ∃ (b c : Addr) (m : Int), vs = [.ref b, .int m] ∧ Bag H b c ∧ 0 < m ∧ m ≤ 1000000000 ∧ ∀ (r : Int) H', 0 ≤ r → r < m → Bag H' b c → Kp b H H' → Q (.int r) H'
theorem cell_at {cs : List Int} {k : Int} (h0 : 0 ≤ k) (h1 : k < (cs.map V.int).length) (hc : ∀ x ∈ cs, (0 : Int) ≤ x) : ∃ x, atI (cs.map V.int) k = some (V.int x) ∧ 0 ≤ x := by
  obtain ⟨n, rfl⟩ : ∃ n : Nat, k = n := ⟨k.toNat, by omega⟩
  have hn : n < cs.length := by rw [List.length_map] at h1; omega
  refine ⟨cs[n], atI_nat (by rw [List.getElem?_map, List.getElem?_eq_getElem hn]; rfl), hc _ (List.getElem_mem hn)⟩
section
variable {P : Program} {w : World} {K : Frag} {mg : Str → Option Value} {base : Heap} {f : Addr} {fd : FuncData}
theorem ok_take (F : Fun K "_law_take" "_law_take" s_take f fd) (T : Tb mg) : FnOk P w K mg base CX0 1 f fd ["_law_bag_here", "_law_many"] spTake := by
  refine F.ok sc_take (fun vs H Q E h => ?_) (fun cdv A outer s H vs Q E hr h => ?_)
  · obtain ⟨b, c, m, rfl, _⟩ := h
    rfl
  · obtain ⟨b, c, m, rfl, hB, hm0, hm1, k⟩ := h
    refine ⟨_, (Evl.pss_cut (ps_if (pt_cmpR (u_eq hr.units) (pe_ix ix_seq (pv 0) pe_int (fun _ _ => rfl)) pe_int (nomark _))
    (pss_cons (ps_set (i := 2) sc_take.nd rfl (Or.inl rfl) pe_int)
  (Evl.pss_cut (ps_if (pt_cmpR op_lt (pe_ix ix_seq (pv 0) pe_int (fun _ _ => rfl)) (pe_callB u_len rfl T.b.len_ boot_len (pa_cons (pe_ix ix_seq (pv 0) pe_int (fun _ _ => rfl)) pa_nil)) (nomark _))
    (pss_one (ps_set (i := 2) sc_take.nd rfl (Or.inl rfl) (pe_ix ix_seq (pe_ix ix_seq (pv 0) pe_int (fun _ _ => rfl)) (pe_ix ix_seq (pv 0) pe_int (fun _ _ => rfl)) (fun _ _ => rfl))))
    pss_nil)
  (pss_cons (ps_augS (pv 0) pe_int get_list pe_int ip_add set_list)
  (Evl.pss_cut (ps_if (pt_cmpR op_ge (pv 2) pe_int (nomark _))
    (pss_one (ps_asg (pv 2) (pg_sub (pv 0) pe_int set_list)))
    pss_nil)
  (pss_cons (ps_set (i := 3) sc_take.nd rfl (Or.inl rfl) (pe_op u_add (pe_op u_add (pe_op u_mul (pe_ix ix_seq (pv 0) pe_int (fun _ _ => rfl)) pe_int) (pe_op op_mod (pe_callTy u_int rfl T.b.int_ (by decide +kernel) (pa_cons (pv 2) pa_nil)) pe_int)) (pe_op u_mul pe_int (pe_ix ix_seq (pv 0) pe_int (fun _ _ => rfl)))))
  (pss_one (ps_asg (pe_op op_mod (pe_callTy u_int rfl T.b.int_ (by decide +kernel) (pa_cons (pv 3) pa_nil)) pe_int) (pg_sub (pv 0) pe_int set_list))))))))
    pss_nil)
  (pss_cons (ps_if (pt_cmpR op_gt (pe_ix ix_seq (pv 0) pe_int (fun _ _ => rfl)) pe_int (nomark _))
    (pss_cons (ps_set (i := 4) sc_take.nd rfl (Or.inl rfl) (pe_op op_mod (pe_callTy u_int rfl T.b.int_ (by decide +kernel) (pa_cons (pe_ix ix_seq (pv 0) pe_int (fun _ _ => rfl)) pa_nil)) (pv 1)))
  (pss_cons (ps_asg (pe_op op_fdiv (pe_callTy u_int rfl T.b.int_ (by decide +kernel) (pa_cons (pe_ix ix_seq (pv 0) pe_int (fun _ _ => rfl)) pa_nil)) (pv 1)) (pg_sub (pv 0) pe_int set_list))
  (pss_one (ps_ret (pv 4)))))
    pss_nil)
  (pss_cons (ps_set (i := 5) sc_take.nd rfl (Or.inl rfl) (pe_op op_mod (pe_callTy u_int rfl T.b.int_ (by decide +kernel) (pa_cons (pe_op u_mul (pe_op u_add (pe_ix ix_seq (pv 0) pe_int (fun _ _ => rfl)) pe_int) pe_int) pa_nil)) pe_int))
  (pss_cons (ps_set (i := 6) sc_take.nd rfl (Or.inl rfl) (pe_op op_mod (pe_callTy u_int rfl T.b.int_ (by decide +kernel) (pa_cons (pe_op u_mul (pe_op op_mod (pe_callTy u_int rfl T.b.int_ (by decide +kernel) (pa_cons (pe_op u_mul (pv 5) (pv 5)) pa_nil)) pe_int) pe_int) pa_nil)) pe_int))
  (pss_one (ps_ret (pe_op op_mod (pe_callTy u_int rfl T.b.int_ (by decide +kernel) (pa_cons (pe_op op_fdiv (pv 6) pe_int) pa_nil)) (pv 1)))))))), ?_⟩
    obtain ⟨i, j, n, cs, hb, hc, hcb, hi, hj, hj2, hn, hcs⟩ := hB
    -- the bag fed, or not
    refine a_cut (fun σ' H' => ∃ v2 v3, σ' = [some (.ref b), some (.int m), v2, v3, none, none, none] ∧ Bag H' b c ∧ Kp b H H') ?_ ?_
    · walk_at "el"
      walk_at "el"
      refine ite2 (fun h0 => ?_) (fun h0 => ?_)
      · walk_at "el"
        refine a_cut (fun σ' H' => ∃ x : Int, 0 ≤ x ∧ σ' = [some (.ref b), some (.int m), some (.int x), none, none, none, none] ∧ H' = H) ?_ ?_
        · walk_at "el"
          walk_at "el"
          refine ite2 (fun h1 => ?_) (fun h1 => ?_)
          · obtain ⟨x, hx, x0⟩ := cell_at hn (of_decide_eq_true h1) hcs
            walk_at "el"
            refine n_ixL (SqL.of hc) hx ?_
            walk_at "el"
            exact ⟨x, x0, rfl, rfl⟩
          · walk_at "el"
            exact ⟨0, by decide, rfl, rfl⟩
        · rintro σ' H' ⟨x, x0, rfl, rfl⟩
          walk_at "el"
          refine a_set hb rfl ?_
          refine a_cut (fun σ' H1 => ∃ i', 0 ≤ i' ∧ σ' = [some (.ref b), some (.int m), some (.int x), none, none, none, none] ∧ H1 b = some (.lst [.int i', .int j, .int (n + 1), .ref c]) ∧ ∀ a, a ≠ b → H1 a = H' a) ?_ ?_
          · walk_at "el"
            refine ite2 (fun h1 => ?_) (fun h1 => ?_)
            · walk_at "el"
              refine a_set upd_same rfl ?_
              walk_at "el"
              exact ⟨x, x0, rfl, upd_same, fun a h => by rw [upd_ne h, upd_ne h]⟩
            · walk_at "el"
              exact ⟨i, hi, rfl, upd_same, fun a h => upd_ne h⟩
          · rintro σ' H1 ⟨i', hi', rfl, hb', ho⟩
            have hc' : H1 c = some (.lst (cs.map V.int)) := (ho c hcb).trans hc
            walk_at "el"
            refine n_mul (.inr (by decide)) ?_
            walk_at "el"
            refine a_I (by show (0 : Int) < 2147483647; decide) ?_
            walk_at "el"
            refine n_mul (.inl (by decide)) ?_
            walk_at "el"
            refine a_I (by show (0 : Int) < 2147483647; decide) ?_
            walk_at "el"
            refine a_set hb' rfl ?_
            walk_at "el"
            refine ⟨_, _, rfl, ⟨i', _, n + 1, cs, upd_same, by rw [upd_ne hcb]; exact hc', hcb, hi', Int.emod_nonneg _ (by decide), Int.emod_lt_of_pos _ (by decide), by omega, hcs⟩, fun a o h e => ?_⟩
            rw [upd_ne h, ho a h]
            exact e
      · walk_at "el"
        exact ⟨_, _, rfl, ⟨i, j, n, cs, hb, hc, hcb, hi, hj, hj2, hn, hcs⟩, Kp.refl b H⟩
    · clear hb hc hcb hi hj hj2 hn hcs
      rintro σ' H1 ⟨v2, v3, rfl, ⟨i, j, n, cs, hb, hc, hcb, hi, hj, hj2, hn, hcs⟩, k1⟩
      walk_at "el"
      refine ite2 (fun h0 => ?_) (fun h0 => ?_)
      · walk_at "el"
        walk_at "el"
        refine a_I hm0 ?_
        walk_at "el"
        refine a_I ⟨hm0, by omega⟩ ?_
        walk_at "el"
        refine a_set hb rfl ?_
        walk_at "el"
        refine k _ _ (Int.emod_nonneg _ (by omega)) (Int.emod_lt_of_pos _ hm0) ?_ k1.bag
        exact ⟨_, j, n, cs, upd_same, by rw [upd_ne hcb]; exact hc, hcb, Int.ediv_nonneg hi (by omega), hj, hj2, hn, hcs⟩
      · walk_at "el"
        walk_at "el"
        refine n_mul (.inr (by decide)) ?_
        walk_at "el"
        refine a_I (by show (0 : Int) < 1000000007; decide) ?_
        have e0 := Int.emod_nonneg ((j + 1) * 39373) (show (1000000007 : Int) ≠ 0 by decide)
        have e1 := Int.emod_lt_of_pos ((j + 1) * 39373) (show (0 : Int) < 1000000007 by decide)
        walk_at "el"
        refine n_mul (.inl ⟨by omega, by omega⟩) ?_
        walk_at "el"
        refine a_I (by show (0 : Int) < 998244353; decide) ?_
        walk_at "el"
        refine n_mul (.inr (by decide)) ?_
        walk_at "el"
        refine a_I (by show (0 : Int) < 998244353; decide) ?_
        walk_at "el"
        refine a_I ⟨by decide, by decide⟩ ?_
        walk_at "el"
        refine a_I hm0 ?_
        walk_at "el"
        exact k _ _ (Int.emod_nonneg _ (by omega)) (Int.emod_lt_of_pos _ hm0) ⟨i, j, n, cs, hb, hc, hcb, hi, hj, hj2, hn, hcs⟩ k1
end
end EL

/- part B -/
namespace EL
open PySem PySem.Spec PyProof.Rows L2
open PySem.W (Frag)

structure Wo (K : Frag) (mg : Str → Option Value) : Prop where
  b : Bi mg
  k_GREATEST_NUMBER : ∃ u, mg "GREATEST_NUMBER" = some u ∧ L2.RelV (.int 1000000000000000) u
local macro_rules | `(tactic| walk_at "el1") => `(tactic| with_reducible first
  | refine a_sasg ?_ | refine a_sdrop ?_ | refine a_saugS ?_ | refine a_spar ?_ | refine a_seq ?_ | refine a_asg ?_ | refine a_drop ?_ | refine a_ret ?_ | refine a_if ?_ | refine a_next ?_
  | refine a_op ?_ | refine a_cons ?_ | refine a_nil ?_ | refine a_cb ?_ | refine a_call ?_ | refine a_c ?_ | refine a_gn ?_ | refine a_nx ?_ | refine a_rt ?_ | refine a_un ?_
  | refine a_test ?_ | refine a_B ?_ | refine a_bl ?_ | refine a_and ?_ | refine a_or ?_ | refine a_not ?_ | refine a_andV ?_ | refine a_orV ?_ | refine a_notV ?_ | refine a_ifx ?_ | refine a_chain ?_
  | refine a_nT ?_ | refine a_nF ?_ | refine a_fld ?_ | refine a_getF ?_ | refine a_T ?_ | refine a_F ?_ | refine a_tup ?_ | refine a_lst ?_ | refine a_sub ?_ | refine a_augS ?_ | refine a_two ?_ | refine a_I0 ?_ | refine a_U ?_ | refine n_add ?_ | refine n_int ?_ | refine n_ib ?_ | refine a_ip ?_ | refine a_rng1 ?_ | refine a_rng2 ?_ | refine a_bm ?_ | refine a_abs ?_ | refine a_pairs ?_ | refine a_pairs0 ?_ | refine a_bk ?_ | refine a_prp ?_ | refine a_lc ?_ | refine a_yes ?_ | refine a_sl ?_ | refine a_nop ?_ | refine a_prt ?_ | refine a_ex1 ?_ | refine a_for ?_ | refine a_sfor ?_ | refine a_iE1 ?_ | refine a_iEs ?_ | refine a_iEz ?_ | refine a_iEnum ?_ | refine a_iTup ?_ | refine a_iList ?_ | refine a_gcons ?_ | refine a_gnil ?_ | refine a_revT ?_ | refine a_spar3 ?_ | refine a_par3 ?_ | refine a_three ?_)
local macro_rules | `(tactic| walk_at "el2") => `(tactic| first
  | (refine a_var (by rfl) ?_)
  | (refine n_ixL (SqL.of (by assumption)) (by rfl) ?_) | (refine n_ixT (SqT.of (by assumption)) (by rfl) ?_) | (refine n_eq (by rfl) ?_) | (refine n_ne (by rfl) ?_)
  | (refine n_isN ?_) | (refine n_notN ?_) | (refine n_isB ?_) | (refine n_notB ?_) | (refine n_isBI ?_) | (refine n_notBI ?_) | (refine n_len (.inl (SqL.of (by assumption))) ?_) | (refine n_len (.inr (SqT.of (by assumption))) ?_)
  | (refine a_getL (SqL.of (by assumption)) (by rfl) ?_)
  | (refine n_isInt (by assumption) ?_) | (refine n_isBool (by assumption) ?_) | (refine n_isStr (by assumption) ?_) | (refine n_isTup (by assumption) ?_) | (refine n_isLst (by assumption) ?_))
local macro_rules | `(tactic| walk_at "el") => `(tactic| repeat (first | walk_at "el1" | walk_at "el2"))

/-! ### what the words mean -/
def intB : V → Bool | .int _ => true | _ => false
def numB : V → Bool | .int i => decide (-1000000000000000 ≤ i) && decide (i ≤ 1000000000000000) | _ => false
def kindB : V → Bool | .str s => decide (s = "early") || decide (s = "late") | _ => false
def otherK (s : Str) : Str := if s = "early" then "late" else "early"
def spB (f : V → Bool) (K : Frag) : Sp := fun vs H Q _ => ∃ x, vs = [x] ∧ Th K H x ∧ ∀ H', Same H H' → Q (.bl (f x)) H'
theorem intB_eq (x : V) : (if isI x = true then !isB x else false) = intB x := by cases x <;> rfl
/-- a tuple of so many -/
def tupN (H : Hp) (x : V) (n : Int) : Prop := ∃ a xs, x = .ref a ∧ H a = some (.tup xs) ∧ (xs.length : Int) = n
def spTu (K : Frag) : Sp := fun vs H Q _ => ∃ (x : V) (n : Int), vs = [x, .int n] ∧ Th K H x ∧ ∀ b, (b = true ↔ tupN H x n) → Q (.bl b) H
theorem isT_tup {K : Frag} {H : Hp} {x : V} (th : Th K H x) (e : isT H x = true) : ∃ a xs, x = .ref a ∧ H a = some (.tup xs) := by
  cases th with
  | tup h => exact ⟨_, _, rfl, h⟩
  | @lst a xs h => (exfalso; have q : obT (H a) = true := e; rw [h] at q; cases q)
  | @dct a xs h => (exfalso; have q : obT (H a) = true := e; rw [h] at q; cases q)
  | @ins a C dx fs h c => (exfalso; have q : obT (H a) = true := e; rw [h] at q; cases q)
  | @dtt a kvs h => (exfalso; have q : obT (H a) = true := e; rw [h] at q; cases q)
  | _ => cases e
theorem isT_of {H : Hp} {a : Addr} {xs : List V} (h : H a = some (.tup xs)) : isT H (.ref a) = true := by show obT (H a) = true; rw [h]; rfl
section
variable {P : Program} {w : World} {K : Frag} {mg : Str → Option Value} {base : Heap} {f : Addr} {fd : FuncData}
/-- a tuple of this word and one value more -/
def spHd (K : Frag) : Sp := fun vs H Q _ => ∃ (x : V) (wd : Str), vs = [x, .str wd] ∧ Th K H x ∧ (∀ q xs, x = .ref q → H q = some (.tup xs) → ∀ y ∈ xs, Th K H y) ∧ ∀ b, (b = true ↔ ∃ a y, x = .ref a ∧ H a = some (.tup [.str wd, y])) → Q (.bl b) H
def spTl : Sp := fun vs H Q _ => ∃ p x s, vs = [.ref p] ∧ H p = some (.tup [x, .str s]) ∧ ∀ r, H r = none → Q (.ref r) (upd H r (.tup [x, .str (otherK s)]))
end
end EL

/- part C -/
namespace EL
open PySem PySem.Spec PyProof.Rows L2
open PySem.W (Frag)

local macro_rules | `(tactic| walk_at "el1") => `(tactic| with_reducible first
  | refine a_sasg ?_ | refine a_sdrop ?_ | refine a_saugS ?_ | refine a_spar ?_ | refine a_seq ?_ | refine a_asg ?_ | refine a_drop ?_ | refine a_ret ?_ | refine a_if ?_ | refine a_next ?_
  | refine a_op ?_ | refine a_cons ?_ | refine a_nil ?_ | refine a_cb ?_ | refine a_call ?_ | refine a_c ?_ | refine a_gn ?_ | refine a_nx ?_ | refine a_rt ?_ | refine a_un ?_
  | refine a_test ?_ | refine a_B ?_ | refine a_bl ?_ | refine a_and ?_ | refine a_or ?_ | refine a_not ?_ | refine a_andV ?_ | refine a_orV ?_ | refine a_notV ?_ | refine a_ifx ?_ | refine a_chain ?_
  | refine a_nT ?_ | refine a_nF ?_ | refine a_fld ?_ | refine a_getF ?_ | refine a_T ?_ | refine a_F ?_ | refine a_tup ?_ | refine a_lst ?_ | refine a_sub ?_ | refine a_augS ?_ | refine a_two ?_ | refine a_I0 ?_ | refine a_U ?_ | refine n_add ?_ | refine n_int ?_ | refine n_ib ?_ | refine a_ip ?_ | refine a_rng1 ?_ | refine a_rng2 ?_ | refine a_bm ?_ | refine a_abs ?_ | refine a_pairs ?_ | refine a_pairs0 ?_ | refine a_bk ?_ | refine a_prp ?_ | refine a_lc ?_ | refine a_yes ?_ | refine a_sl ?_ | refine a_nop ?_ | refine a_prt ?_ | refine a_ex1 ?_ | refine a_for ?_ | refine a_sfor ?_ | refine a_iE1 ?_ | refine a_iEs ?_ | refine a_iEz ?_ | refine a_iEnum ?_ | refine a_iTup ?_ | refine a_iList ?_ | refine a_gcons ?_ | refine a_gnil ?_ | refine a_revT ?_ | refine a_spar3 ?_ | refine a_par3 ?_ | refine a_three ?_)
local macro_rules | `(tactic| walk_at "el2") => `(tactic| first
  | (refine a_var (by rfl) ?_)
  | (refine n_ixL (SqL.of (by assumption)) (by rfl) ?_) | (refine n_ixT (SqT.of (by assumption)) (by rfl) ?_) | (refine n_eq (by rfl) ?_) | (refine n_ne (by rfl) ?_)
  | (refine n_isN ?_) | (refine n_notN ?_) | (refine n_isB ?_) | (refine n_notB ?_) | (refine n_isBI ?_) | (refine n_notBI ?_) | (refine n_len (.inl (SqL.of (by assumption))) ?_) | (refine n_len (.inr (SqT.of (by assumption))) ?_)
  | (refine a_getL (SqL.of (by assumption)) (by rfl) ?_)
  | (refine n_isInt (by assumption) ?_) | (refine n_isBool (by assumption) ?_) | (refine n_isStr (by assumption) ?_) | (refine n_isTup (by assumption) ?_) | (refine n_isLst (by assumption) ?_))
local macro_rules | `(tactic| walk_at "el") => `(tactic| repeat (first | walk_at "el1" | walk_at "el2"))

/-! ### items -/
inductive Pt | tel | gap | sur | cla
  deriving DecidableEq
def Pt.name : Pt → Str | .tel => "tellings" | .gap => "gaps" | .sur => "sure" | .cla => "clauses"
def Pt.form : Pt → List Str
  | .tel => ["witness", "event", "number"]
  | .gap => ["event", "another event", "number"]
  | .sur => ["event", "side", "number"]
  | .cla => ["witness", "kind", "witness", "kind"]
def belowB (x : V) (n : Int) : Bool := match x with | .int i => decide (0 ≤ i) && decide (i < n) | _ => false
def sideB : V → Bool | .str s => decide (s = "least") || decide (s = "most") | _ => false
def turnS (s : Str) : Str := if s = "least" then "most" else "least"
structure It4 (K : Frag) (w : World) (mg : Str → Option Value) (aForms aParts : Addr) : Prop where
  b : Bi mg
  gForms : mg "FORMS" = some (.ref aForms)
  gParts : mg "PARTS" = some (.ref aParts)
  forms : ∀ p : Pt, ∃ a, KDct K w aForms p.name (.ref a) ∧ ∀ H, SqT K H a (p.form.map V.str)
  parts : ∀ H, SqT K H aParts [.str "tellings", .str "gaps", .str "sure", .str "clauses"]
def spBelow (K : Frag) : Sp := fun vs H Q _ => ∃ x n, vs = [x, .int n] ∧ Th K H x ∧ ∀ H', Same H H' → Q (.bl (belowB x n)) H'
section
variable {P : Program} {w : World} {K : Frag} {mg : Str → Option Value} {base : Heap} {f : Addr} {fd : FuncData} {aForms aParts : Addr}
/-- what may stand at a place -/
def standB (word : Str) (xs : List V) (i : Nat) (x : V) (ev wi : Int) : Bool :=
  if word = "witness" then belowB x wi else if word = "event" then belowB x ev else if word = "another event" then belowB x ev && !decide (some x = xs[i - 1]?)
  else if word = "side" then sideB x else if word = "kind" then kindB x else numB x
def spCan (K : Frag) : Sp := fun vs H Q _ => ∃ (word : Str) (a : Addr) (xs : List V) (i : Nat) (x : V) (ev wi : Int), vs = [.str word, .ref a, .int i, .int ev, .int wi] ∧ H a = some (.tup xs) ∧ xs[i]? = some x ∧ Th K H x ∧
  (word = "another event" → 1 ≤ i ∧ ∃ j, xs[i - 1]? = some (.int j)) ∧ ∀ H', Same H H' → Q (.bl (standB word xs i x ev wi)) H'
/-- the values that may stand in an item -/
def StandsTo (p : Pt) (xs : List V) (ev wi : Int) (n : Nat) : Prop := ∀ j, j < n → ∀ wd x, p.form[j]? = some wd → xs[j]? = some x → standB wd xs j x ev wi = true
def spFw (K : Frag) : Sp := fun vs H Q _ => ∃ (p : Pt) (a : Addr) (xs : List V) (ev wi : Int), vs = [.str p.name, .ref a, .int ev, .int wi] ∧ H a = some (.tup xs) ∧ xs.length = p.form.length ∧ (∀ x ∈ xs, Th K H x) ∧
  (StandsTo p xs ev wi p.form.length → ∀ H', Same H H' → Q .non H') ∧
  (∀ i wd x, StandsTo p xs ev wi i → p.form[i]? = some wd → xs[i]? = some x → standB wd xs i x ev wi = false → ∀ H', Same H H' → Q (.int i) H')
theorem another_at {p : Pt} {i : Nat} (h : p.form[i]? = some ("another event" : Str)) : p = .gap ∧ i = 1 := by
  cases p <;> (rcases i with _ | _ | _ | _ | i) <;> first | exact ⟨rfl, rfl⟩ | (exfalso; revert h; decide) | cases h
theorem below_int {x : V} {n : Int} (h : belowB x n = true) : ∃ j, x = .int j ∧ 0 ≤ j ∧ j < n := by
  cases x with
  | int j =>
    have q : (decide (0 ≤ j) && decide (j < n)) = true := h
    rw [Bool.and_eq_true, decide_eq_true_iff, decide_eq_true_iff] at q
    exact ⟨j, rfl, q⟩
  | _ => cases h
theorem stands_prev {p : Pt} {xs : List V} {ev wi : Int} {i : Nat} (hl : xs.length = p.form.length) (h : StandsTo p xs ev wi i) (hw : p.form[i]? = some ("another event" : Str)) : 1 ≤ i ∧ ∃ j, xs[i - 1]? = some (.int j) := by
  obtain ⟨rfl, rfl⟩ := another_at hw
  have l0 : 0 < xs.length := by rw [hl]; decide
  have e0 : xs[0]? = some xs[0] := List.getElem?_eq_getElem l0
  have q := h 0 (by decide) "event" _ rfl e0
  obtain ⟨j, hj, _⟩ := below_int (x := xs[0]) (n := ev) (by
    unfold standB at q
    rw [if_neg (by decide), if_pos rfl] at q
    exact q)
  exact ⟨by decide, j, by rw [← hj]; exact e0⟩
/-- an item of a part -/
def ItemOk (p : Pt) (H : Hp) (x : V) (ev wi : Int) : Prop := ∃ a xs, x = .ref a ∧ H a = some (.tup xs) ∧ xs.length = p.form.length ∧ StandsTo p xs ev wi p.form.length
def spItem (K : Frag) : Sp := fun vs H Q _ => ∃ (p : Pt) (x : V) (ev wi : Int), vs = [.str p.name, x, .int ev, .int wi] ∧ Th K H x ∧ (∀ a xs, x = .ref a → H a = some (.tup xs) → ∀ y ∈ xs, Th K H y) ∧ ∀ H' b, Same H H' → (b = true ↔ ItemOk p H x ev wi) → Q (.bl b) H'
end
end EL

/- part D -/
namespace EL
open PySem PySem.Spec PyProof.Rows L2
open PySem.W (Frag)

local macro_rules | `(tactic| walk_at "el1") => `(tactic| with_reducible first
  | refine a_sasg ?_ | refine a_sdrop ?_ | refine a_saugS ?_ | refine a_spar ?_ | refine a_seq ?_ | refine a_asg ?_ | refine a_drop ?_ | refine a_ret ?_ | refine a_if ?_ | refine a_next ?_
  | refine a_op ?_ | refine a_cons ?_ | refine a_nil ?_ | refine a_cb ?_ | refine a_call ?_ | refine a_c ?_ | refine a_gn ?_ | refine a_nx ?_ | refine a_rt ?_ | refine a_un ?_
  | refine a_test ?_ | refine a_B ?_ | refine a_bl ?_ | refine a_and ?_ | refine a_or ?_ | refine a_not ?_ | refine a_andV ?_ | refine a_orV ?_ | refine a_notV ?_ | refine a_ifx ?_ | refine a_chain ?_
  | refine a_nT ?_ | refine a_nF ?_ | refine a_fld ?_ | refine a_getF ?_ | refine a_T ?_ | refine a_F ?_ | refine a_tup ?_ | refine a_lst ?_ | refine a_sub ?_ | refine a_augS ?_ | refine a_two ?_ | refine a_I0 ?_ | refine a_U ?_ | refine n_add ?_ | refine n_int ?_ | refine n_ib ?_ | refine a_ip ?_ | refine a_rng1 ?_ | refine a_rng2 ?_ | refine a_bm ?_ | refine a_abs ?_ | refine a_pairs ?_ | refine a_pairs0 ?_ | refine a_bk ?_ | refine a_prp ?_ | refine a_lc ?_ | refine a_yes ?_ | refine a_sl ?_ | refine a_nop ?_ | refine a_prt ?_ | refine a_ex1 ?_ | refine a_for ?_ | refine a_sfor ?_ | refine a_iE1 ?_ | refine a_iEs ?_ | refine a_iEz ?_ | refine a_iEnum ?_ | refine a_iTup ?_ | refine a_iList ?_ | refine a_gcons ?_ | refine a_gnil ?_ | refine a_revT ?_ | refine a_spar3 ?_ | refine a_par3 ?_ | refine a_three ?_)
local macro_rules | `(tactic| walk_at "el2") => `(tactic| first
  | (refine a_var (by rfl) ?_)
  | (refine n_ixL (SqL.of (by assumption)) (by rfl) ?_) | (refine n_ixT (SqT.of (by assumption)) (by rfl) ?_) | (refine n_eq (by rfl) ?_) | (refine n_ne (by rfl) ?_)
  | (refine n_isN ?_) | (refine n_notN ?_) | (refine n_isB ?_) | (refine n_notB ?_) | (refine n_isBI ?_) | (refine n_notBI ?_) | (refine n_len (.inl (SqL.of (by assumption))) ?_) | (refine n_len (.inr (SqT.of (by assumption))) ?_)
  | (refine a_getL (SqL.of (by assumption)) (by rfl) ?_)
  | (refine n_isInt (by assumption) ?_) | (refine n_isBool (by assumption) ?_) | (refine n_isStr (by assumption) ?_) | (refine n_isTup (by assumption) ?_) | (refine n_isLst (by assumption) ?_))
local macro_rules | `(tactic| walk_at "el") => `(tactic| repeat (first | walk_at "el1" | walk_at "el2"))

/-! ### books -/
structure Bo (mg : Str → Option Value) : Prop where
  k_MOST_EVENTS : ∃ u, mg "MOST_EVENTS" = some u ∧ L2.RelV (.int 8) u
  k_MOST_WITNESSES : ∃ u, mg "MOST_WITNESSES" = some u ∧ L2.RelV (.int 8) u
  k_MOST_ITEMS : ∃ u, mg "MOST_ITEMS" = some u ∧ L2.RelV (.int 24) u
structure BoT (K : Frag) (w : World) (mg : Str → Option Value) (aForms aParts : Addr) : Prop extends It4 K w mg aForms aParts, Bo mg
theorem stand_th {K : Frag} {H : Hp} {wd : Str} {xs : List V} {j : Nat} {x : V} {ev wi : Int} (h : standB wd xs j x ev wi = true) : Th K H x := by
  cases x with
  | int i => exact .int i
  | str s => exact .str s
  | _ => (exfalso; simp [standB, belowB, sideB, kindB, numB] at h)
theorem ItemOk.th {K : Frag} {p : Pt} {H : Hp} {x : V} {ev wi : Int} (h : ItemOk p H x ev wi) : Th K H x ∧ ∀ a xs, x = .ref a → H a = some (.tup xs) → ∀ y ∈ xs, Th K H y := by
  obtain ⟨a, xs, rfl, ha, hl, hs⟩ := h
  refine ⟨.tup ha, fun a' xs' e ha' y hy => ?_⟩
  cases e
  rw [ha] at ha'
  cases ha'
  obtain ⟨j, hj, rfl⟩ := List.getElem_of_mem hy
  have h2 : j < p.form.length := by omega
  exact stand_th (hs j h2 _ _ (List.getElem?_eq_getElem h2) (List.getElem?_eq_getElem hj))
theorem ItemOk.same {p : Pt} {H H' : Hp} {x : V} {ev wi : Int} (h : ItemOk p H x ev wi) (s : Same H H') : ItemOk p H' x ev wi := by
  obtain ⟨a, xs, rfl, ha, hl, hs⟩ := h
  exact ⟨a, xs, rfl, s _ _ ha, hl, hs⟩
/-- a part that a book may have -/
structure PartOk (K : Frag) (p : Pt) (H : Hp) (a : Addr) (xs : List V) (ev wi : Int) : Prop where
  seq : SqA K H a xs
  len : xs.length ≤ 24
  items : ∀ x ∈ xs, ItemOk p H x ev wi
theorem PartOk.same {K : Frag} {p : Pt} {H H' : Hp} {a : Addr} {xs : List V} {ev wi : Int} (h : PartOk K p H a xs ev wi) (s : Same H H') : PartOk K p H' a xs ev wi := ⟨h.seq.same s, h.len, fun x hx => (h.items x hx).same s⟩
def spCa (K : Frag) : Sp := fun vs H Q _ => ∃ (ev wi : Int) (q t g s c : Addr) (ts gs ss cs : List V), vs = [.int ev, .int wi, .ref q] ∧ H q = some (.tup [.ref t, .ref g, .ref s, .ref c]) ∧ 0 ≤ ev ∧ ev ≤ 8 ∧ 0 ≤ wi ∧ wi ≤ 8 ∧ SqA K H t ts ∧ SqA K H g gs ∧ SqA K H s ss ∧ SqA K H c cs ∧ ∀ H', Same H H' → Q .non H'
def spCi (K : Frag) : Sp := fun vs H Q _ => ∃ (n : Int) (p : Pt) (a : Addr) (xs : List V) (ev wi : Int), vs = [.int n, .str p.name, .ref a, .int ev, .int wi] ∧ PartOk K p H a xs ev wi ∧ ∀ H', Same H H' → Q .non H'
section
variable {P : Program} {w : World} {K : Frag} {mg : Str → Option Value} {base : Heap} {f : Addr} {fd : FuncData} {aForms aParts : Addr}
theorem below_true {i n : Int} (h0 : 0 ≤ i) (h1 : i < n) : belowB (.int i) n = true := by show (decide _ && decide _) = true; rw [decide_eq_true h0, decide_eq_true h1]; rfl
/-- a book, its parts told by their addresses -/
def bookO (C dx : Addr) (ev wi : Int) (t g s c : Addr) : HO := .ins C dx [("_events", .int ev), ("_witnesses", .int wi), ("_tellings", .ref t), ("_gaps", .ref g), ("_sure", .ref s), ("_clauses", .ref c)]
structure BkC (K : Frag) (C : Addr) : Prop where
  own : OwnC K C
  n0 : NoAttr K C "_events"
  n1 : NoAttr K C "_witnesses"
  n2 : NoAttr K C "_tellings"
  n3 : NoAttr K C "_gaps"
  n4 : NoAttr K C "_sure"
  n5 : NoAttr K C "_clauses"
def spInit (K : Frag) (C : Addr) : Sp := fun vs H Q _ => ∃ (o dx : Addr) (ev wi : Int) (t g s c : Addr) (ts gs ss cs : List V), vs = [.ref o, .int ev, .int wi, .ref t, .ref g, .ref s, .ref c] ∧ H o = some (.ins C dx []) ∧ 0 ≤ ev ∧ ev ≤ 8 ∧ 0 ≤ wi ∧ wi ≤ 8 ∧
  PartOk K .tel H t ts ev wi ∧ PartOk K .gap H g gs ev wi ∧ PartOk K .sur H s ss ev wi ∧ PartOk K .cla H c cs ev wi ∧
  ∀ H' t' g' s' c', Kp o H H' → H' o = some (bookO C dx ev wi t' g' s' c') → SqT K H' t' ts → SqT K H' g' gs → SqT K H' s' ss → SqT K H' c' cs → Q .non H'
end
end EL

/- part L -/
namespace EL
open PySem PySem.Spec PyProof.Rows L2
open PySem.W (Frag)
abbrev s_bag : Stmt := top 10
abbrev N_bag : List Str := ["_law_script", "_law_cell"]
theorem sc_bag : FnScope N_bag ["_law_script"] (defScope s_bag) := ⟨rfl, rfl, rfl, by decide +kernel, rfl, by decide +kernel, by decide +kernel⟩
abbrev s_one : Stmt := top 12
abbrev N_one : List Str := ["_law_bag_here", "_law_menu"]
theorem sc_one : FnScope N_one ["_law_bag_here", "_law_menu"] (defScope s_one) := ⟨rfl, rfl, rfl, by decide +kernel, rfl, by decide +kernel, by decide +kernel⟩
local macro_rules | `(tactic| walk_at "el1") => `(tactic| with_reducible first
  | refine a_sasg ?_ | refine a_sdrop ?_ | refine a_saugS ?_ | refine a_spar ?_ | refine a_seq ?_ | refine a_asg ?_ | refine a_drop ?_ | refine a_ret ?_ | refine a_if ?_ | refine a_next ?_
  | refine a_op ?_ | refine a_cons ?_ | refine a_nil ?_ | refine a_cb ?_ | refine a_call ?_ | refine a_c ?_ | refine a_gn ?_ | refine a_nx ?_ | refine a_rt ?_ | refine a_un ?_
  | refine a_test ?_ | refine a_B ?_ | refine a_bl ?_ | refine a_and ?_ | refine a_or ?_ | refine a_not ?_ | refine a_andV ?_ | refine a_orV ?_ | refine a_notV ?_ | refine a_ifx ?_ | refine a_chain ?_
  | refine a_nT ?_ | refine a_nF ?_ | refine a_fld ?_ | refine a_getF ?_ | refine a_T ?_ | refine a_F ?_ | refine a_tup ?_ | refine a_lst ?_ | refine a_sub ?_ | refine a_augS ?_ | refine a_two ?_ | refine a_I0 ?_ | refine a_U ?_ | refine n_add ?_ | refine n_int ?_ | refine n_ib ?_ | refine a_ip ?_ | refine a_rng1 ?_ | refine a_rng2 ?_ | refine a_bm ?_ | refine a_abs ?_ | refine a_pairs ?_ | refine a_pairs0 ?_ | refine a_bk ?_ | refine a_prp ?_ | refine a_lc ?_ | refine a_yes ?_ | refine a_sl ?_ | refine a_nop ?_ | refine a_prt ?_ | refine a_ex1 ?_ | refine a_for ?_ | refine a_sfor ?_ | refine a_iE1 ?_ | refine a_iEs ?_ | refine a_iEz ?_ | refine a_iEnum ?_ | refine a_iTup ?_ | refine a_iList ?_ | refine a_gcons ?_ | refine a_gnil ?_ | refine a_revT ?_ | refine a_spar3 ?_ | refine a_par3 ?_ | refine a_three ?_)
local macro_rules | `(tactic| walk_at "el2") => `(tactic| first
  | (refine a_var (by rfl) ?_)
  | (refine n_ixL (SqL.of (by assumption)) (by rfl) ?_) | (refine n_ixT (SqT.of (by assumption)) (by rfl) ?_) | (refine n_eq (by rfl) ?_) | (refine n_ne (by rfl) ?_)
  | (refine n_isN ?_) | (refine n_notN ?_) | (refine n_isB ?_) | (refine n_notB ?_) | (refine n_isBI ?_) | (refine n_notBI ?_) | (refine n_len (.inl (SqL.of (by assumption))) ?_) | (refine n_len (.inr (SqT.of (by assumption))) ?_)
  | (refine a_getL (SqL.of (by assumption)) (by rfl) ?_)
  | (refine n_isInt (by assumption) ?_) | (refine n_isBool (by assumption) ?_) | (refine n_isStr (by assumption) ?_) | (refine n_isTup (by assumption) ?_) | (refine n_isLst (by assumption) ?_))
local macro_rules | `(tactic| walk_at "el") => `(tactic| repeat (first | walk_at "el1" | walk_at "el2"))

/-! ### the bag is made; one of a menu -/
def spBag (K : Frag) : Sp := fun vs H Q _ => ∃ (a : Addr) (ns : List Int), vs = [.ref a] ∧ SqL K H a (ns.map V.int) ∧ ∀ b c H', H b = none → H c = none → Bag H' b c → Same H H' → Q (.ref b) H'
def spOne (K : Frag) : Sp := fun vs H Q _ => ∃ (b c m : Addr) (xs : List V), vs = [.ref b, .ref m] ∧ Bag H b c ∧ m ≠ b ∧ SqA K H m xs ∧ 0 < xs.length ∧ xs.length ≤ 1000000000 ∧ ∀ x H', x ∈ xs → Bag H' b c → Kp b H H' → Q x H'
theorem cut_map {α : Type} (f : α → V) (ns : List α) (lo hi : Option Int) : ∃ ms : List α, cutV (ns.map f) lo hi = ms.map f ∧ ms.length ≤ ns.length := by
  unfold cutV
  refine ⟨(ns.drop (HT.sIx (ns.map f).length 0 lo)).take (HT.sIx (ns.map f).length (ns.map f).length hi - HT.sIx (ns.map f).length 0 lo), by rw [List.map_take, List.map_drop], ?_⟩
  rw [List.length_take, List.length_drop]
  omega
theorem atI_mem {xs : List V} {k : Int} {x : V} (h : atI xs k = some x) : x ∈ xs := by
  obtain ⟨j, h1, h2, _⟩ := atI_get h
  exact List.mem_of_getElem? h2
theorem cut_len63 (xs : List V) : (cutV xs none (some 63)).length ≤ 63 := by
  unfold cutV
  rw [List.length_take]
  refine Nat.le_trans (Nat.min_le_left _ _) ?_
  show min (63 : Int).toNat xs.length - 0 ≤ 63
  have q : (63 : Int).toNat = 63 := rfl
  omega
section
variable {P : Program} {w : World} {K : Frag} {mg : Str → Option Value} {base : Heap} {f : Addr} {fd : FuncData}
theorem ok_bag (F : Fun K "_law_bag" "_law_bag" s_bag f fd) (T : Tb mg) : FnOk P w K mg base CX0 1 f fd ["_law_script"] (spBag K) := by
  refine F.ok sc_bag (fun vs H Q E h => ?_) (fun cdv A outer s H vs Q E hr h => ?_)
  · obtain ⟨_, _, rfl, _⟩ := h
    rfl
  · obtain ⟨a, ns, rfl, ha, k⟩ := h
    refine ⟨_, (pss_one (ps_ret (pe_lst (pa_cons pe_int (pa_cons pe_int (pa_cons pe_int (pa_cons (pe_lc (own := [("_law_cell", 1)]) rfl sc_bag.nd (u_iter (pe_slice u_slice (pv 0) po_none (po_some pe_int))) (blkOk_by (own := [("_law_cell", 1)]) (N := N_bag) (sc := defScope s_bag) (by decide +kernel)) (fun _ _ _ _ _ => (pg_name (i := 1) sc_bag.nd rfl (Or.inl rfl))) (fun _ _ _ _ _ => pts_nil) (fun _ _ _ _ _ => (pe_callB call_abs rfl T.b.abs_ (by decide +kernel) (pa_cons (pv 1) pa_nil)))) pa_nil))))))), ?_⟩
    walk_at "el"
    refine a_iSeq (.inl ?_)
    walk_at "el"
    refine .inl ⟨a, _, rfl, ha, fun p hp => ?_⟩
    obtain ⟨ms, em, lm⟩ := cut_map V.int ns none (some 63)
    have l63 := cut_len63 (ns.map V.int)
    rw [em] at l63 ⊢
    rw [List.length_map] at l63
    have s1 := L2.Same.nw (o := .lst (ms.map V.int)) (Same.refl H) hp
    refine ⟨p, rfl, ⟨_, SqL.of upd_same⟩, fun D hD => ?_⟩
    have hDp : D ≠ p := fun z => by subst z; rw [upd_same] at hD; cases hD
    have hD0 : H D = none := s1.free hD
    refine lc_of (walk_list (xs := ms.map V.int)) (fun i H3 => Same H H3 ∧ H3 p = some (.lst (ms.map V.int)) ∧ ∃ cs : List Int, H3 D = some (.lst (cs.map V.int)) ∧ cs.length = i ∧ ∀ x ∈ cs, 0 ≤ x) ⟨s1.nw hD, by rw [upd_ne hDp.symm]; exact upd_same, [], upd_same, rfl, fun _ h => nomatch h⟩ (fun i H3 hi h => SqL.of h.2.1) ?_ ?_
    · rintro i x H3 H4 hi ⟨s3, hp3, cs, hD3, hl, hc⟩ ⟨rfl, hx⟩
      rw [List.length_map] at hi
      rw [List.getElem?_map, List.getElem?_eq_getElem hi] at hx
      cases hx
      walk_at "el"
      refine ⟨rfl, ?_⟩
      walk_at "el"
      refine ⟨_, hD3, by rw [List.length_map, hl]; exact Nat.lt_of_lt_of_le (m := 63) (by omega) (by decide), ?_⟩
      refine ⟨s3.mu hD0, by rw [upd_ne hDp.symm]; exact hp3, cs ++ [if ms[i] < 0 then -ms[i] else ms[i]], by rw [upd_same, List.map_append]; rfl, by rw [List.length_append, hl]; rfl, ?_⟩
      intro x hx
      rcases List.mem_append.mp hx with h | h
      · exact hc x h
      · cases List.mem_singleton.mp h
        split <;> omega
    · rintro H3 ⟨s3, hp3, cs, hD3, hl, hc⟩
      walk_at "el"
      refine ⟨by show 4 ≤ sizeLine; decide, fun b hb => ?_⟩
      have hbD : D ≠ b := fun z => by subst z; rw [hD3] at hb; cases hb
      exact k b D _ (s3.free hb) hD0 ⟨0, 1234567891, 0, cs, upd_same, by rw [upd_ne hbD]; exact hD3, hbD, by decide, by decide, by decide, by decide, hc⟩ (s3.nw hb)
theorem ok_one (F : Fun K "_law_one" "_law_one" s_one f fd) (T : Tb mg) (c_take : Cal P w K mg base CX0 1 "_law_take" ["_law_bag_here", "_law_many"] spTake) : FnOk P w K mg base CX0 2 f fd ["_law_bag_here", "_law_menu"] (spOne K) := by
  refine F.ok sc_one (fun vs H Q E h => ?_) (fun cdv A outer s H vs Q E hr h => ?_)
  · obtain ⟨_, _, _, _, rfl, _⟩ := h
    rfl
  · obtain ⟨b, c, m, xs, rfl, hb, hm, hs, h0, h1, k⟩ := h
    refine ⟨_, (pss_one (ps_ret (pe_ix ix_seq (pv 1) (pe_cal c_take (hr.mono (by decide)) pass0 (pa_cons (pv 0) (pa_cons (pe_callB u_len rfl T.b.len_ boot_len (pa_cons (pv 1) pa_nil)) pa_nil))) (fun _ _ => rfl)))), ?_⟩
    walk_at "el"
    refine n_len hs.len ?_
    walk_at "el"
    refine ⟨b, c, xs.length, rfl, hb, by omega, by omega, fun r H1 r0 r1 hb1 k1 => ?_⟩
    obtain ⟨x, hx⟩ : ∃ x, atI xs r = some x := by
      obtain ⟨n, rfl⟩ : ∃ n : Nat, r = n := ⟨r.toNat, by omega⟩
      have hn : n < xs.length := by omega
      exact ⟨xs[n], atI_nat (List.getElem?_eq_getElem hn)⟩
    have hm1 : SqA K H1 m xs := by
      rcases hs with h | (h | ⟨o, h⟩) | h
      · exact .inl (k1 _ _ hm h)
      · exact .inr (.inl (.inl (k1 _ _ hm h)))
      · exact .inr (.inl (.inr ⟨o, k1 _ _ hm h⟩))
      · exact .inr (.inr h)
    walk_at "el"
    rcases hm1 with h | h
    · refine n_ixL (SqL.of h) hx ?_
      exact k x _ (atI_mem hx) hb1 k1
    · refine n_ixT h hx ?_
      exact k x _ (atI_mem hx) hb1 k1
end
end EL

/- part G -/
namespace EL
open PySem PySem.Spec PyProof.Rows L2
open PySem.W (Frag)
/-! ### Book(..) as a call -/
abbrev psBook : List Str := ["self", "events", "witnesses", "tellings", "gaps", "sure", "clauses"]
structure BookD where
  f : Addr
  fd : FuncData
  d1 : Addr
  d2 : Addr
  d3 : Addr
  d4 : Addr
  ds : List Value
  ds4 : List Value
  ds3 : List Value
structure BookG (P : Program) (w : World) (K : Frag) (mg : Str → Option Value) (base : Heap) (C : Addr) (D : BookD) : Prop where
  made : Mk K C D.f
  fn : FnOk P w K mg base CX0 7 D.f D.fd psBook (spInit K C)
  b6 : L2.Binds K D.fd psBook []
  v2 : Vals [.ref D.d1, .ref D.d2, .ref D.d3, .ref D.d4] D.ds
  b2 : L2.Binds K D.fd psBook D.ds
  v4 : Vals [.ref D.d3, .ref D.d4] D.ds4
  b4 : L2.Binds K D.fd psBook D.ds4
  v3 : Vals [.ref D.d2, .ref D.d3, .ref D.d4] D.ds3
  b3 : L2.Binds K D.fd psBook D.ds3
  dflt : ∀ H, SqT K H D.d1 [] ∧ SqT K H D.d2 [] ∧ SqT K H D.d3 [] ∧ SqT K H D.d4 []
  g : mg "Book" = some (.ref C)
  c : BkC K C
/-- a new book, its parts tuples -/
def NewBook (K : Frag) (C : Addr) (ev wi : Int) (ts gs ss cs : List V) (H1 : Hp) (Q : VK) : Prop :=
  ∀ o dx t g s c H', Same H1 H' → H1 o = none → H' o = some (bookO C dx ev wi t g s c) → SqT K H' t ts → SqT K H' g gs → SqT K H' s ss → SqT K H' c cs → Q (.ref o) H'
theorem made_same {H1 H' : Hp} {x dx C : Addr} (nx : H1 x = none) (nd : H1 dx = none) (k : Kp x (upd (upd H1 dx (.own x)) x (.ins C dx [])) H') : Same H1 H' := fun a o e =>
  k a o (ne_of_none e nx) (by rw [upd_ne (ne_of_none e nx), upd_ne (ne_of_none e nd)]; exact e)
/-- what a making asks -/
def MkB (K : Frag) (C : Addr) (dvs vs : List V) (H1 : Hp) (Q : VK) : Prop := ∀ x dx, H1 x = none → H1 dx = none → dx ≠ x → spInit K C (.ref x :: (vs ++ dvs)) (upd (upd H1 dx (.own x)) x (.ins C dx [])) (fun v H2 => v = .non ∧ Q (.ref x) H2) E0
def tBk (K : Frag) (C : Addr) (dvs : List V) (t : TA) : TE := fun σ H Q => t σ H fun vs H1 => MkB K C dvs vs H1 Q
section
variable {X : Cx} {C : Addr} {D : BookD} {pos p : Pos} {e : Expr} {es : List Expr} {t : TA}
theorem pe_bk2 (B : BookG X.prog X.w X.K X.mg X.base C D) (hr : Room 8 X.A) (hg : Gl X "Book") (ha : PA X (e :: es) t) (he : starEach (e :: es) X.env = (false, eval e X.env) :: starEach es X.env := by rfl) (hpl : (backTo pos (starEach es X.env)).any (·.1) = false := by rfl) :
    PE X (.Call (.Name "Book" p) (e :: es) [] pos) (tBk X.K C [.ref D.d1, .ref D.d2, .ref D.d3, .ref D.d4] t) := pe_make (p := p) (pos := pos) B.made B.fn hr hg B.g B.b2 B.v2 pass0 ha (by decide) he hpl
theorem pe_bk6 (B : BookG X.prog X.w X.K X.mg X.base C D) (hr : Room 8 X.A) (hg : Gl X "Book") (ha : PA X (e :: es) t) (he : starEach (e :: es) X.env = (false, eval e X.env) :: starEach es X.env := by rfl) (hpl : (backTo pos (starEach es X.env)).any (·.1) = false := by rfl) :
    PE X (.Call (.Name "Book" p) (e :: es) [] pos) (tBk X.K C [] t) := pe_make (p := p) (pos := pos) B.made B.fn hr hg B.g B.b6 .nil pass0 ha (by decide) he hpl
theorem pe_bk4 (B : BookG X.prog X.w X.K X.mg X.base C D) (hr : Room 8 X.A) (hg : Gl X "Book") (ha : PA X (e :: es) t) (he : starEach (e :: es) X.env = (false, eval e X.env) :: starEach es X.env := by rfl) (hpl : (backTo pos (starEach es X.env)).any (·.1) = false := by rfl) :
    PE X (.Call (.Name "Book" p) (e :: es) [] pos) (tBk X.K C [.ref D.d3, .ref D.d4] t) := pe_make (p := p) (pos := pos) B.made B.fn hr hg B.g B.b4 B.v4 pass0 ha (by decide) he hpl
theorem pe_bk3 (B : BookG X.prog X.w X.K X.mg X.base C D) (hr : Room 8 X.A) (hg : Gl X "Book") (ha : PA X (e :: es) t) (he : starEach (e :: es) X.env = (false, eval e X.env) :: starEach es X.env := by rfl) (hpl : (backTo pos (starEach es X.env)).any (·.1) = false := by rfl) :
    PE X (.Call (.Name "Book" p) (e :: es) [] pos) (tBk X.K C [.ref D.d2, .ref D.d3, .ref D.d4] t) := pe_make (p := p) (pos := pos) B.made B.fn hr hg B.g B.b3 B.v3 pass0 ha (by decide) he hpl
end
section
variable {K : Frag} {C : Addr} {σ : L2.St} {H : Hp} {Q : VK} {dvs : List V} {t : TA}
theorem a_bk (q : t σ H fun vs H1 => MkB K C dvs vs H1 Q) : tBk K C dvs t σ H Q := q
theorem PartOk.nil {p : Pt} {a : Addr} {ev wi : Int} (h : SqT K H a []) : PartOk K p H a [] ev wi := ⟨.inr h, by decide, fun _ h => nomatch h⟩
theorem new_same {x dx : Addr} (nx : H x = none) (nd : H dx = none) (ne : dx ≠ x) : Same H (upd (upd H dx (.own x)) x (.ins C dx [])) := L2.Same.nw (L2.Same.nw (Same.refl H) nd) (by rw [upd_ne ne.symm]; exact nx)
theorem n_bk6 {ev wi : Int} {t g s c : Addr} {ts gs ss cs : List V} (e0 : 0 ≤ ev) (e8 : ev ≤ 8) (w0 : 0 ≤ wi) (w8 : wi ≤ 8) (ht : PartOk K .tel H t ts ev wi) (hg : PartOk K .gap H g gs ev wi) (hs : PartOk K .sur H s ss ev wi) (hc : PartOk K .cla H c cs ev wi)
    (q : NewBook K C ev wi ts gs ss cs H Q) : MkB K C [] [.int ev, .int wi, .ref t, .ref g, .ref s, .ref c] H Q := fun x dx nx nd ne => by
  have s0 := new_same (C := C) nx nd ne
  exact ⟨x, dx, ev, wi, t, g, s, c, ts, gs, ss, cs, rfl, upd_same, e0, e8, w0, w8, ht.same s0, hg.same s0, hs.same s0, hc.same s0, fun H' t' g' s' c' k ho h1 h2 h3 h4 => ⟨rfl, q x dx t' g' s' c' H' (made_same nx nd k) nx ho h1 h2 h3 h4⟩⟩
theorem n_bk4 {D : BookD} {ev wi : Int} {t g : Addr} {ts gs : List V} (hd : ∀ H, SqT K H D.d1 [] ∧ SqT K H D.d2 [] ∧ SqT K H D.d3 [] ∧ SqT K H D.d4 []) (e0 : 0 ≤ ev) (e8 : ev ≤ 8) (w0 : 0 ≤ wi) (w8 : wi ≤ 8) (ht : PartOk K .tel H t ts ev wi) (hg : PartOk K .gap H g gs ev wi)
    (q : NewBook K C ev wi ts gs [] [] H Q) : MkB K C [.ref D.d3, .ref D.d4] [.int ev, .int wi, .ref t, .ref g] H Q := fun x dx nx nd ne => by
  have s0 := new_same (C := C) nx nd ne
  exact ⟨x, dx, ev, wi, t, g, D.d3, D.d4, ts, gs, [], [], rfl, upd_same, e0, e8, w0, w8, ht.same s0, hg.same s0, .nil (hd _).2.2.1, .nil (hd _).2.2.2,
    fun H' t' g' s' c' k ho h1 h2 h3 h4 => ⟨rfl, q x dx t' g' s' c' H' (made_same nx nd k) nx ho h1 h2 h3 h4⟩⟩
theorem n_bk3 {D : BookD} {ev wi : Int} {t : Addr} {ts : List V} (hd : ∀ H, SqT K H D.d1 [] ∧ SqT K H D.d2 [] ∧ SqT K H D.d3 [] ∧ SqT K H D.d4 []) (e0 : 0 ≤ ev) (e8 : ev ≤ 8) (w0 : 0 ≤ wi) (w8 : wi ≤ 8) (ht : PartOk K .tel H t ts ev wi)
    (q : NewBook K C ev wi ts [] [] [] H Q) : MkB K C [.ref D.d2, .ref D.d3, .ref D.d4] [.int ev, .int wi, .ref t] H Q := fun x dx nx nd ne => by
  have s0 := new_same (C := C) nx nd ne
  exact ⟨x, dx, ev, wi, t, D.d2, D.d3, D.d4, ts, [], [], [], rfl, upd_same, e0, e8, w0, w8, ht.same s0, .nil (hd _).2.1, .nil (hd _).2.2.1, .nil (hd _).2.2.2,
    fun H' t' g' s' c' k ho h1 h2 h3 h4 => ⟨rfl, q x dx t' g' s' c' H' (made_same nx nd k) nx ho h1 h2 h3 h4⟩⟩
theorem n_bk2 {D : BookD} {ev wi : Int} (hd : ∀ H, SqT K H D.d1 [] ∧ SqT K H D.d2 [] ∧ SqT K H D.d3 [] ∧ SqT K H D.d4 []) (e0 : 0 ≤ ev) (e8 : ev ≤ 8) (w0 : 0 ≤ wi) (w8 : wi ≤ 8)
    (q : NewBook K C ev wi [] [] [] [] H Q) : MkB K C [.ref D.d1, .ref D.d2, .ref D.d3, .ref D.d4] [.int ev, .int wi] H Q := fun x dx nx nd ne => by
  exact ⟨x, dx, ev, wi, D.d1, D.d2, D.d3, D.d4, [], [], [], [], rfl, upd_same, e0, e8, w0, w8, .nil (hd _).1, .nil (hd _).2.1, .nil (hd _).2.2.1, .nil (hd _).2.2.2,
    fun H' t' g' s' c' k ho h1 h2 h3 h4 => ⟨rfl, q x dx t' g' s' c' H' (made_same nx nd k) nx ho h1 h2 h3 h4⟩⟩
end
theorem Bag.same {H H' : Hp} {b c : Addr} (h : Bag H b c) (s : Same H H') : Bag H' b c := by
  obtain ⟨i, j, k, cs, h1, h2, r⟩ := h
  exact ⟨i, j, k, cs, s _ _ h1, s _ _ h2, r⟩
theorem Bag.ne {H : Hp} {b c p : Addr} (h : Bag H b c) (hp : H p = none) : p ≠ b := fun z => by
  obtain ⟨i, j, k, cs, h1, _⟩ := h
  subst z
  rw [h1] at hp
  cases hp
theorem Th.kp {K : Frag} {b c : Addr} {H H' : Hp} {x : V} (h : Th K H x) (hb : Bag H b c) (hb' : Bag H' b c) (k : Kp b H H') : Th K H' x := by
  obtain ⟨_, _, _, _, h1, _⟩ := hb
  obtain ⟨_, _, _, _, h2, _⟩ := hb'
  exact h.stay h1 h2 k
theorem all_nil {α : Type} {p : α → Prop} : ∀ x ∈ ([] : List α), p x := fun _ h => nomatch h
theorem all_cons {α : Type} {p : α → Prop} {a : α} {l : List α} (h : p a) (t : ∀ x ∈ l, p x) : ∀ x ∈ a :: l, p x := fun x hx => (List.mem_cons.mp hx).elim (fun e => e ▸ h) (t x)
theorem all_app {α : Type} {p : α → Prop} {l m : List α} (h : ∀ x ∈ l, p x) (t : ∀ x ∈ m, p x) : ∀ x ∈ l ++ m, p x := fun x hx => (List.mem_append.mp hx).elim (h x) (t x)
/-- what is new -/
def Nw (H : Hp) (p : Addr) : Prop := ∀ o, Same H (upd H p o)
theorem nw_of {H : Hp} {p : Addr} (h : H p = none) : Nw H p := fun o => L2.Same.nw (Same.refl H) h
theorem Nw.to {H : Hp} {p a : Addr} {o u : HO} (n : Nw H p) (h : H a = some u) : upd H p o a = some u := n o a u h
theorem Th.kpK {K : Frag} {b c : Addr} {H H' : Hp} {x : V} (k : Kp b H H') (hb' : Bag H' b c) (hb : Bag H b c) (h : Th K H x) : Th K H' x := h.kp hb hb' k
theorem Kp.into {b : Addr} {H H1 H2 : Hp} (q : Kp b H1 H2) (p : Same H H1) : Kp b H H2 := (same_kp p).trans q
theorem eqv_is (r : Int) (s : Str) : PyData.eqv (.tuple [.int r, .str s]) (.tuple [.int r, .str s]) = true := by simp [PyData.eqv, PyData.eqvAll]
theorem shp_is {r : Int} {s : Str} (h : PyData.strOk s = true) : SeqAt.shaped (.tuple [.int r, .str s]) = true := by
  simp [SeqAt.shaped, PyData.canLay0, PyData.canLayAll0, PyData.depth, PyData.depthAll]
  exact h
/-- what a law promises: True for each script -/
def spLaw (K : Frag) : Sp := fun vs H Q _ => ∃ (a : Addr) (ns : List Int), vs = [.ref a] ∧ SqL K H a (ns.map V.int) ∧ ∀ H', Q (.bl true) H'
theorem walk_all {l : PySem.W.OpenLaw} {k : Nat} {q : Program} {loose : List Str} {XP : (Str → Option Value) → Heap → Prop} {YP : World → Heap → Prop} {d : DefRec} {K : Params → Frag} (hn : l.most = some 63) (hdf : d.params.defaults = []) (hr : Room k PySem.callerA)
    (hY : ∀ (w : World) (h : Heap), YP w h → (K w.params).In h)
    (F : ∀ (w : World) (mg : Str → Option Value) (fa : Addr) (h : Heap), (K w.params).In h → h.Ns mainGlobals mg → mg d.name = some (.ref fa) →
      ∃ fd : FuncData, (∀ (s : Shared) (u : Value), BindsTo s fd ⟨[u], []⟩ [("_law_script", u)]) ∧ ∀ base : Heap, (K w.params).In base → base.Ns mainGlobals mg → FnG l.prog w (K w.params) mg base CX0 k fa fd ["_law_script"] (spLaw (K w.params))) :
    PySem.W.WalkO q loose XP YP l.row.toRowW d [] (fun f vs => PySem.call f vs) :=
  walk_law (n := 63) (x := "_law_script") (CX := fun _ => CX0) (sp := fun w => spLaw (K w.params)) hn (by decide) hdf hr hY F (fun _ _ a ns hl _ hS => ⟨a, ns, rfl, hS, fun _ => rfl⟩) fun _ _ _ _ _ z => z
theorem own_kit {K : PySem.W.Frag} {C : Addr} {T : String} (hm : PySem.W.kitMeta T = true) (h : PySem.W.mroIn K C (.type T) = some false) : PySem.W.kitOne K (.ref C) (.type T) = some false := by
  unfold PySem.W.kitOne
  rw [if_neg (by simp)]
  show (if PySem.W.kitMeta T = true then PySem.W.subIn K (.ref C) (.type T) else none) = _
  rw [if_pos hm]
  exact h
/-! ### the properties of a book -/
def spGet (C : Addr) (fld : Str) : Sp := fun vs H Q _ => ∃ (a dx : Addr) (fs : List (Str × V)) (v : V), vs = [.ref a] ∧ H a = some (.ins C dx fs) ∧ fs.lookup fld = some v ∧ Q v H
structure PrpG (P : Program) (w : World) (K : Frag) (mg : Str → Option Value) (base : Heap) (C : Addr) (f fld : Str) : Prop where
  ex : ∃ p g fd, PropOf K C f p g ∧ FnOk P w K mg base CX0 1 g fd ["self"] (spGet C fld) ∧ L2.Binds K fd ["self"] []
  cl : Cls K C
theorem pe_prp {X : Cx} {C : Addr} {f fld : Str} {e : Expr} {ta : TE} {pos : Pos} (G : PrpG X.prog X.w X.K X.mg X.base C f fld) (hr : Room 2 X.A) (ha : PE X e ta) (hab : attributeBase e f X.env (eval e X.env) = eval e X.env := by rfl) :
    PE X (.Attribute e f pos) (tProp C (spGet C fld) [] E0 ta) := by
  obtain ⟨p, g, fd, hp, F, hb⟩ := G.ex
  exact pe_prop ha G.cl hp F hr hb .nil pass0 hab
def PrpR (C : Addr) (fld : Str) (x : V) (H : Hp) (Q : VK) : Prop := ∃ a dx fs, x = V.ref a ∧ H a = some (.ins C dx fs) ∧ spGet C fld (V.ref a :: []) H Q E0
theorem a_prp {C : Addr} {fld : Str} {ta : TE} {σ : L2.St} {H : Hp} {Q : VK} (q : ta σ H fun x H1 => PrpR C fld x H1 Q) : tProp C (spGet C fld) [] E0 ta σ H Q := q
theorem n_prp {C a dx : Addr} {fld : Str} {fs : List (Str × V)} {v : V} {H : Hp} {Q : VK} (h : H a = some (.ins C dx fs)) (hv : fs.lookup fld = some v) (q : Q v H) : PrpR C fld (.ref a) H Q := ⟨a, dx, fs, rfl, h, a, dx, fs, v, rfl, h, hv, q⟩
theorem nn {H : Hp} {a q : Addr} {o : HO} (h : upd H a o q = none) : q ≠ a ∧ H q = none := by
  by_cases e : q = a
  · subst e
    rw [upd_same] at h
    cases h
  · rw [upd_ne e] at h
    exact ⟨e, h⟩
theorem isI_cases {x : V} (h : isI x = true) : (∃ z, x = .int z) ∨ ∃ z, x = .bl z := by
  cases x with
  | int z => exact .inl ⟨z, rfl⟩
  | bl z => exact .inr ⟨z, rfl⟩
  | _ => cases h
theorem shp_ints : ∀ (js : List Int), SeqAt.shaped (.list (js.map PyData.int)) = true := by
  intro js
  simp only [SeqAt.shaped, Bool.and_eq_true, decide_eq_true_iff]
  refine ⟨?_, ?_⟩
  · show PyData.canLayAll0 (js.map PyData.int) = true
    induction js with
    | nil => rfl
    | cons j r ih => simp only [List.map_cons, PyData.canLayAll0, PyData.canLay0, ih, Bool.and_true]
  · have q : PyData.depthAll (js.map PyData.int) ≤ 1 := by
      induction js with
      | nil => decide
      | cons j r ih => simp [PyData.depthAll, PyData.depth]; omega
    simp [PyData.depth]; omega
theorem eqv_nil (ds : List PyData) : PyData.eqv (.list ds) (.list []) = decide (ds = []) := by
  cases ds with
  | nil => simp [PyData.eqv, PyData.eqvAll]
  | cons d r => simp [PyData.eqv, PyData.eqvAll]
theorem dp_ints {K : Frag} {H : Hp} : ∀ (js : List Int), DpAll K H (js.map V.int) (js.map PyData.int)
  | [] => .nil
  | j :: r => .cons (.int j) (dp_ints r)
/-! ### data stays -/
mutual
theorem dp_same {K : Frag} {H H' : Hp} (s : Same H H') : ∀ (d : PyData) (v : V), Dp K H v d → Dp K H' v d
  | .none, _, h => by cases h; exact .non
  | .bool _, _, h => by cases h; exact .bl _
  | .int _, _, h => by cases h; exact .int _
  | .str _, _, h => by cases h; exact .str _
  | .list ds, _, h => by
    cases h with
    | lst a ha => exact .lst (Same.seq s a) (dp_sameAll s ds _ ha)
  | .tuple ds, _, h => by
    cases h with
    | tup a ha => exact .tup (a.same s) (dp_sameAll s ds _ ha)
  | .dict _, _, h => by cases h
theorem dp_sameAll {K : Frag} {H H' : Hp} (s : Same H H') : ∀ (ds : List PyData) (vs : List V), DpAll K H vs ds → DpAll K H' vs ds
  | [], _, h => by cases h; exact .nil
  | d :: ds, _, h => by
    cases h with
    | cons h1 h2 => exact .cons (dp_same s d _ h1) (dp_sameAll s ds _ h2)
end
end EL

/- part R -/
namespace EL
open PySem PySem.Spec PyProof.Rows L2
open PySem.W (Frag)

local macro_rules | `(tactic| walk_at "el1") => `(tactic| with_reducible first
  | refine a_sasg ?_ | refine a_sdrop ?_ | refine a_saugS ?_ | refine a_spar ?_ | refine a_seq ?_ | refine a_asg ?_ | refine a_drop ?_ | refine a_ret ?_ | refine a_if ?_ | refine a_next ?_
  | refine a_op ?_ | refine a_cons ?_ | refine a_nil ?_ | refine a_cb ?_ | refine a_call ?_ | refine a_c ?_ | refine a_gn ?_ | refine a_nx ?_ | refine a_rt ?_ | refine a_un ?_
  | refine a_test ?_ | refine a_B ?_ | refine a_bl ?_ | refine a_and ?_ | refine a_or ?_ | refine a_not ?_ | refine a_andV ?_ | refine a_orV ?_ | refine a_notV ?_ | refine a_ifx ?_ | refine a_chain ?_
  | refine a_nT ?_ | refine a_nF ?_ | refine a_fld ?_ | refine a_getF ?_ | refine a_T ?_ | refine a_F ?_ | refine a_tup ?_ | refine a_lst ?_ | refine a_sub ?_ | refine a_augS ?_ | refine a_two ?_ | refine a_I0 ?_ | refine a_U ?_ | refine n_add ?_ | refine n_int ?_ | refine n_ib ?_ | refine a_ip ?_ | refine a_rng1 ?_ | refine a_rng2 ?_ | refine a_bm ?_ | refine a_abs ?_ | refine a_pairs ?_ | refine a_pairs0 ?_ | refine a_bk ?_ | refine a_prp ?_ | refine a_lc ?_ | refine a_yes ?_ | refine a_sl ?_ | refine a_nop ?_ | refine a_prt ?_ | refine a_ex1 ?_ | refine a_for ?_ | refine a_sfor ?_ | refine a_iE1 ?_ | refine a_iEs ?_ | refine a_iEz ?_ | refine a_iEnum ?_ | refine a_iTup ?_ | refine a_iList ?_ | refine a_gcons ?_ | refine a_gnil ?_ | refine a_revT ?_ | refine a_spar3 ?_ | refine a_par3 ?_ | refine a_three ?_)
local macro_rules | `(tactic| walk_at "el2") => `(tactic| first
  | (refine a_var (by rfl) ?_)
  | (refine n_ixL (SqL.of (by assumption)) (by rfl) ?_) | (refine n_ixT (SqT.of (by assumption)) (by rfl) ?_) | (refine n_eq (by rfl) ?_) | (refine n_ne (by rfl) ?_)
  | (refine n_isN ?_) | (refine n_notN ?_) | (refine n_isB ?_) | (refine n_notB ?_) | (refine n_isBI ?_) | (refine n_notBI ?_) | (refine n_len (.inl (SqL.of (by assumption))) ?_) | (refine n_len (.inr (SqT.of (by assumption))) ?_)
  | (refine a_getL (SqL.of (by assumption)) (by rfl) ?_)
  | (refine n_isInt (by assumption) ?_) | (refine n_isBool (by assumption) ?_) | (refine n_isStr (by assumption) ?_) | (refine n_isTup (by assumption) ?_) | (refine n_isLst (by assumption) ?_))
local macro_rules | `(tactic| walk_at "el") => `(tactic| repeat (first | walk_at "el1" | walk_at "el2"))

/-! ### ways -/
/-- the gaps of a book, as numbers -/
structure GapsAre (K : Frag) (H : Hp) (g : Addr) (gs : List V) (G : List (Int × Int × Int)) : Prop where
  seq : SqA K H g gs
  len : gs.length = G.length
  at_ : ∀ (i : Nat) (v : V), gs[i]? = some v → ∃ (q : Addr) (x : Int × Int × Int), v = .ref q ∧ G[i]? = some x ∧ H q = some (.tup [.int x.1, .int x.2.1, .int x.2.2])
theorem GapsAre.same {K : Frag} {H H' : Hp} {g : Addr} {gs : List V} {G : List (Int × Int × Int)} (h : GapsAre K H g gs G) (s : Same H H') : GapsAre K H' g gs G :=
  ⟨h.seq.same s, h.len, fun i v hv => by
    obtain ⟨q, x, e, hx, hq⟩ := h.at_ i v hv
    exact ⟨q, x, e, hx, s _ _ hq⟩⟩
theorem num_int {x : V} (h : numB x = true) : ∃ n, x = .int n := by
  cases x with
  | int n => exact ⟨n, rfl⟩
  | _ => cases h
theorem item_gap_inv {H : Hp} {x : V} {ev wi : Int} (h : ItemOk .gap H x ev wi) : ∃ (q : Addr) (a e n : Int), x = .ref q ∧ H q = some (.tup [.int a, .int e, .int n]) ∧ 0 ≤ a ∧ a < ev ∧ 0 ≤ e ∧ e < ev ∧ e ≠ a := by
  obtain ⟨q, xs, rfl, hq, hl, hs⟩ := h
  match xs, hl with
  | [x0, x1, x2], _ =>
    have h0 : belowB x0 ev = true := by
      have z := hs 0 (by decide) "event" x0 rfl rfl
      unfold standB at z
      rw [if_neg (by decide), if_pos rfl] at z
      exact z
    have h1 : (belowB x1 ev && !decide (some x1 = [x0, x1, x2][1 - 1]?)) = true := by
      have z := hs 1 (by decide) "another event" x1 rfl rfl
      unfold standB at z
      rw [if_neg (by decide), if_neg (by decide), if_pos rfl] at z
      exact z
    have h2 : numB x2 = true := by
      have z := hs 2 (by decide) "number" x2 rfl rfl
      unfold standB at z
      rw [if_neg (by decide), if_neg (by decide), if_neg (by decide), if_neg (by decide), if_neg (by decide)] at z
      exact z
    rw [Bool.and_eq_true] at h1
    obtain ⟨a, rfl, a0, a1⟩ := below_int h0
    obtain ⟨e, rfl, e0, e1⟩ := below_int h1.1
    obtain ⟨n, rfl⟩ := num_int h2
    refine ⟨q, a, e, n, rfl, hq, a0, a1, e0, e1, fun z => ?_⟩
    have w := h1.2
    rw [z] at w
    simp at w
theorem gaps_of {H : Hp} {ev wi : Int} : ∀ (gs : List V), (∀ x ∈ gs, ItemOk .gap H x ev wi) → ∃ G : List (Int × Int × Int), gs.length = G.length ∧ (∀ x ∈ G, 0 ≤ x.1 ∧ x.1 < ev ∧ 0 ≤ x.2.1 ∧ x.2.1 < ev) ∧
    ∀ (i : Nat) (v : V), gs[i]? = some v → ∃ (q : Addr) (x : Int × Int × Int), v = .ref q ∧ G[i]? = some x ∧ H q = some (.tup [.int x.1, .int x.2.1, .int x.2.2])
  | [], _ => ⟨[], rfl, (fun _ h => nomatch h), fun i v h => by cases h⟩
  | y :: r, h => by
    obtain ⟨G, hl, hb, hG⟩ := gaps_of r fun x hx => h x (List.mem_cons_of_mem _ hx)
    obtain ⟨q, a, e, n, rfl, hq, a0, a1, e0, e1, _⟩ := item_gap_inv (h y (List.mem_cons_self ..))
    refine ⟨(a, e, n) :: G, by rw [List.length_cons, List.length_cons, hl], ?_, fun i v hv => ?_⟩
    · intro x hx
      rcases List.mem_cons.mp hx with rfl | hx
      · exact ⟨a0, a1, e0, e1⟩
      · exact hb x hx
    · cases i with
      | zero =>
        cases hv
        exact ⟨q, (a, e, n), rfl, rfl, hq⟩
      | succ i => exact hG i v hv
/-- one step further -/
def stepW (G : List (Int × Int × Int)) (here : Int) (v : V) : Option Int :=
  match v with
  | .int i => if 0 ≤ i ∧ i < G.length then (G[i.toNat]?).bind fun x => if x.1 = here then some x.2.1 else none else none
  | _ => none
def wayTo (G : List (Int × Int × Int)) (a : Int) (xs : List V) : Option Int := xs.foldl (fun o v => o.bind fun h => stepW G h v) (some a)
theorem way_snoc {G : List (Int × Int × Int)} {a : Int} {xs : List V} {v : V} : wayTo G a (xs ++ [v]) = (wayTo G a xs).bind fun h => stepW G h v := by
  unfold wayTo
  rw [List.foldl_append]
  rfl
theorem way_lost {G : List (Int × Int × Int)} : ∀ (xs : List V), xs.foldl (fun o v => o.bind fun h => stepW G h v) none = none
  | [] => rfl
  | _ :: r => way_lost r
theorem way_off {G : List (Int × Int × Int)} {a : Int} {xs ys : List V} (h : wayTo G a xs = none) : wayTo G a (xs ++ ys) = none := by
  unfold wayTo at h ⊢
  rw [List.foldl_append, h]
  exact way_lost ys
theorem step_off {G : List (Int × Int × Int)} {h : Int} {v : V} (q : belowB v G.length = false) : stepW G h v = none := by
  cases v with
  | int i =>
    have e : (decide (0 ≤ i) && decide (i < (G.length : Int))) = false := q
    show (if 0 ≤ i ∧ i < (G.length : Int) then _ else none) = none
    rw [if_neg]
    rintro ⟨a, b⟩
    rw [decide_eq_true a, decide_eq_true b] at e
    cases e
  | _ => rfl
theorem step_at {G : List (Int × Int × Int)} {h : Int} {j : Nat} {x : Int × Int × Int} (q : G[j]? = some x) : stepW G h (.int j) = if x.1 = h then some x.2.1 else none := by
  have l := (List.getElem?_eq_some_iff.mp q).1
  show (if 0 ≤ (j : Int) ∧ (j : Int) < (G.length : Int) then _ else none) = _
  rw [if_pos ⟨by omega, by omega⟩, Int.toNat_natCast, q]
  rfl
/-- a way between two events -/
def isWay (H : Hp) (G : List (Int × Int × Int)) (a b : Int) (x : V) : Prop := ∃ (q : Addr) (xs : List V), x = .ref q ∧ H q = some (.tup xs) ∧ wayTo G a xs = some b
def spWay (K : Frag) (C : Addr) : Sp := fun vs H Q _ => ∃ (bk dx : Addr) (ev wi : Int) (t g s c : Addr) (gs : List V) (G : List (Int × Int × Int)) (a b : Int) (x : V), vs = [.ref bk, .int a, .int b, x] ∧ H bk = some (bookO C dx ev wi t g s c) ∧ GapsAre K H g gs G ∧
  Th K H x ∧ (∀ q xs, x = .ref q → H q = some (.tup xs) → ∀ y ∈ xs, Th K H y) ∧ ∀ H' r, Same H H' → (r = true ↔ isWay H G a b x) → Q (.bl r) H'
section
variable {P : Program} {w : World} {K : Frag} {mg : Str → Option Value} {base : Heap} {f : Addr} {fd : FuncData} {C : Addr}
end
end EL

/- part N -/
namespace EL
open PySem PySem.Spec PyProof.Rows L2
open PySem.W (Frag)
abbrev s_number : Stmt := top 13
abbrev N_number : List Str := ["_law_bag_here", "_law_mode", "_law_small"]
theorem sc_number : FnScope N_number ["_law_bag_here"] (defScope s_number) := ⟨rfl, rfl, rfl, by decide +kernel, rfl, by decide +kernel, by decide +kernel⟩
abbrev s_kind : Stmt := top 14
abbrev N_kind : List Str := ["_law_bag_here"]
theorem sc_kind : FnScope N_kind ["_law_bag_here"] (defScope s_kind) := ⟨rfl, rfl, rfl, by decide +kernel, rfl, by decide +kernel, by decide +kernel⟩
local macro_rules | `(tactic| walk_at "el1") => `(tactic| with_reducible first
  | refine a_sasg ?_ | refine a_sdrop ?_ | refine a_saugS ?_ | refine a_spar ?_ | refine a_seq ?_ | refine a_asg ?_ | refine a_drop ?_ | refine a_ret ?_ | refine a_if ?_ | refine a_next ?_
  | refine a_op ?_ | refine a_cons ?_ | refine a_nil ?_ | refine a_cb ?_ | refine a_call ?_ | refine a_c ?_ | refine a_gn ?_ | refine a_nx ?_ | refine a_rt ?_ | refine a_un ?_
  | refine a_test ?_ | refine a_B ?_ | refine a_bl ?_ | refine a_and ?_ | refine a_or ?_ | refine a_not ?_ | refine a_andV ?_ | refine a_orV ?_ | refine a_notV ?_ | refine a_ifx ?_ | refine a_chain ?_
  | refine a_nT ?_ | refine a_nF ?_ | refine a_fld ?_ | refine a_getF ?_ | refine a_T ?_ | refine a_F ?_ | refine a_tup ?_ | refine a_lst ?_ | refine a_sub ?_ | refine a_augS ?_ | refine a_two ?_ | refine a_I0 ?_ | refine a_U ?_ | refine n_add ?_ | refine n_int ?_ | refine n_ib ?_ | refine a_ip ?_ | refine a_rng1 ?_ | refine a_rng2 ?_ | refine a_bm ?_ | refine a_abs ?_ | refine a_pairs ?_ | refine a_pairs0 ?_ | refine a_bk ?_ | refine a_prp ?_ | refine a_lc ?_ | refine a_yes ?_ | refine a_sl ?_ | refine a_nop ?_ | refine a_prt ?_ | refine a_ex1 ?_ | refine a_for ?_ | refine a_sfor ?_ | refine a_iE1 ?_ | refine a_iEs ?_ | refine a_iEz ?_ | refine a_iEnum ?_ | refine a_iTup ?_ | refine a_iList ?_ | refine a_gcons ?_ | refine a_gnil ?_ | refine a_revT ?_ | refine a_spar3 ?_ | refine a_par3 ?_ | refine a_three ?_)
local macro_rules | `(tactic| walk_at "el2") => `(tactic| first
  | (refine a_var (by rfl) ?_)
  | (refine n_ixL (SqL.of (by assumption)) (by rfl) ?_) | (refine n_ixT (SqT.of (by assumption)) (by rfl) ?_) | (refine n_eq (by rfl) ?_) | (refine n_ne (by rfl) ?_)
  | (refine n_isN ?_) | (refine n_notN ?_) | (refine n_isB ?_) | (refine n_notB ?_) | (refine n_isBI ?_) | (refine n_notBI ?_) | (refine n_len (.inl (SqL.of (by assumption))) ?_) | (refine n_len (.inr (SqT.of (by assumption))) ?_)
  | (refine a_getL (SqL.of (by assumption)) (by rfl) ?_)
  | (refine n_isInt (by assumption) ?_) | (refine n_isBool (by assumption) ?_) | (refine n_isStr (by assumption) ?_) | (refine n_isTup (by assumption) ?_) | (refine n_isLst (by assumption) ?_))
local macro_rules | `(tactic| walk_at "el") => `(tactic| repeat (first | walk_at "el1" | walk_at "el2"))

/-! ### numbers, kinds, parts as a law draws them -/
def spNum : Sp := fun vs H Q _ => ∃ b c, vs = [.ref b] ∧ Bag H b c ∧ ∀ (r : Int) H', -1000000000000 ≤ r → r ≤ 1000000000000 → Bag H' b c → Kp b H H' → Q (.int r) H'
def spKnd : Sp := fun vs H Q _ => ∃ b c, vs = [.ref b] ∧ Bag H b c ∧ ∀ (s : Str) H', s = "early" ∨ s = "late" → Bag H' b c → Kp b H H' → Q (.str s) H'
/-- the lists of four parts, new since H0 -/
structure PSt (b c p : Addr) (l : Pt → Addr) (H0 : Hp) : Prop where
  inj : ∀ t u, t ≠ u → l t ≠ l u
  lb : ∀ t, l t ≠ b
  lc : ∀ t, l t ≠ c
  pl : ∀ t, p ≠ l t
  pb : p ≠ b
  fl : ∀ t, H0 (l t) = none
  fp : H0 p = none
/-- no number in an item is near the end of the numbers -/
def Below (H : Hp) (x : V) : Prop := ∀ (q : Addr) (ys : List V) (n : Int), x = .ref q → H q = some (.tup ys) → V.int n ∈ ys → -10000000000000 ≤ n ∧ n ≤ 10000000000000
/-- the number of a gap is small -/
def GapSm (H : Hp) (x : V) : Prop := ∀ (q : Addr) (a e : V) (n : Int), x = .ref q → H q = some (.tup [a, e, .int n]) → -4 ≤ n ∧ n ≤ 4
structure PIv (b c p : Addr) (l : Pt → Addr) (H0 H : Hp) (ev wi : Int) (xs : Pt → List V) : Prop where
  bag : Bag H b c
  kp : Kp b H0 H
  hp : H p = some (.lst [.ref (l .tel), .ref (l .gap), .ref (l .sur), .ref (l .cla)])
  hl : ∀ t, H (l t) = some (.lst (xs t))
  it : ∀ t, ∀ x ∈ xs t, ItemOk t H x ev wi
  nb : ∀ t, ∀ x ∈ xs t, Below H x
  ng : ∀ x ∈ xs .gap, GapSm H x
theorem GapSm.of {H H' : Hp} {x : V} (h : GapSm H x) (hi : ∃ a ys, x = .ref a ∧ H a = some (.tup ys) ∧ H' a = some (.tup ys)) : GapSm H' x := fun q a e n ex hq => by
  obtain ⟨a', zs, ex', h1, h2⟩ := hi
  cases (ex'.symm.trans ex)
  rw [h2] at hq
  cases hq
  exact h _ _ _ n ex h1
theorem gapsm3 {H : Hp} {q : Addr} {a e x : Int} (hx : -4 ≤ x ∧ x ≤ 4) : GapSm (upd H q (.tup [.int a, .int e, .int x])) (.ref q) := fun q' a' e' n e hq => by
  cases e
  rw [upd_same] at hq
  cases hq
  exact hx
theorem Below.of {H H' : Hp} {x : V} (h : Below H x) (hi : ∃ a ys, x = .ref a ∧ H a = some (.tup ys) ∧ H' a = some (.tup ys)) : Below H' x := fun q ys n e hq hn => by
  obtain ⟨a, zs, ex, h1, h2⟩ := hi
  cases (ex.symm.trans e)
  rw [h2] at hq
  cases hq
  exact h _ _ n e h1 hn
theorem below_tup {H : Hp} {q : Addr} {ys : List V} (hq : H q = some (.tup ys)) (h : ∀ n, V.int n ∈ ys → -10000000000000 ≤ n ∧ n ≤ 10000000000000) : Below H (.ref q) := fun q' zs n e hq' hn => by
  cases e
  rw [hq] at hq'
  cases hq'
  exact h n hn
theorem below3 {H : Hp} {q : Addr} {a e x : Int} (ha : 0 ≤ a ∧ a ≤ 8) (he : 0 ≤ e ∧ e ≤ 8) (hx : -10000000000000 ≤ x ∧ x ≤ 10000000000000) : Below (upd H q (.tup [.int a, .int e, .int x])) (.ref q) := below_tup upd_same fun n hn => by
  rcases List.mem_cons.mp hn with z | hn
  · cases z; omega
  rcases List.mem_cons.mp hn with z | hn
  · cases z; omega
  cases List.mem_singleton.mp hn
  exact hx
theorem belowS {H : Hp} {q : Addr} {a x : Int} {s : Str} (ha : 0 ≤ a ∧ a ≤ 8) (hx : -10000000000000 ≤ x ∧ x ≤ 10000000000000) : Below (upd H q (.tup [.int a, .str s, .int x])) (.ref q) := below_tup upd_same fun n hn => by
  rcases List.mem_cons.mp hn with z | hn
  · cases z; omega
  rcases List.mem_cons.mp hn with z | hn
  · cases z
  cases List.mem_singleton.mp hn
  exact hx
theorem belowC {H : Hp} {q : Addr} {a v : Int} {s r : Str} (ha : 0 ≤ a ∧ a ≤ 8) (hv : 0 ≤ v ∧ v ≤ 8) : Below (upd H q (.tup [.int a, .str s, .int v, .str r])) (.ref q) := below_tup upd_same fun n hn => by
  rcases List.mem_cons.mp hn with z | hn
  · cases z; omega
  rcases List.mem_cons.mp hn with z | hn
  · cases z
  rcases List.mem_cons.mp hn with z | hn
  · cases z; omega
  cases List.mem_singleton.mp hn
theorem ItemOk.kp {t : Pt} {b c : Addr} {H H' : Hp} {x : V} {ev wi : Int} (h : ItemOk t H x ev wi) (hb : Bag H b c) (k : Kp b H H') : ItemOk t H' x ev wi := by
  obtain ⟨a, xs, rfl, ha, hl, hs⟩ := h
  refine ⟨a, xs, rfl, k _ _ (fun z => ?_) ha, hl, hs⟩
  subst z
  obtain ⟨_, _, _, _, q, _⟩ := hb
  rw [q] at ha
  cases ha
theorem ItemOk.lst {t : Pt} {a : Addr} {ys zs : List V} {H : Hp} {x : V} {ev wi : Int} (h : ItemOk t H x ev wi) (hb : H a = some (.lst ys)) : ItemOk t (upd H a (.lst zs)) x ev wi := by
  obtain ⟨c, xs, rfl, ha, hl, hs⟩ := h
  refine ⟨c, xs, rfl, ?_, hl, hs⟩
  rw [upd_ne (fun z => by subst z; rw [hb] at ha; cases ha)]
  exact ha
theorem PIv.kp' {b c p : Addr} {l : Pt → Addr} {H0 H H' : Hp} {ev wi : Int} {xs : Pt → List V} (S : PSt b c p l H0) (h : PIv b c p l H0 H ev wi xs) (hb : Bag H' b c) (k : Kp b H H') : PIv b c p l H0 H' ev wi xs :=
  ⟨hb, h.kp.trans k, k _ _ S.pb h.hp, fun t => k _ _ (S.lb t) (h.hl t), fun t x hx => (h.it t x hx).kp h.bag k, fun t x hx => (h.nb t x hx).of (by
    obtain ⟨a, ys, e, ha, _, _⟩ := h.it t x hx
    refine ⟨a, ys, e, ha, k _ _ (fun z => ?_) ha⟩
    subst z
    obtain ⟨_, _, _, _, q, _⟩ := h.bag
    rw [q] at ha
    cases ha), fun x hx => (h.ng x hx).of (by
    obtain ⟨a, ys, e, ha, _, _⟩ := h.it .gap x hx
    refine ⟨a, ys, e, ha, k _ _ (fun z => ?_) ha⟩
    subst z
    obtain ⟨_, _, _, _, q, _⟩ := h.bag
    rw [q] at ha
    cases ha)⟩
theorem PIv.nw {b c p : Addr} {l : Pt → Addr} {H0 H H' : Hp} {ev wi : Int} {xs : Pt → List V} (S : PSt b c p l H0) (h : PIv b c p l H0 H ev wi xs) (s : Same H H') : PIv b c p l H0 H' ev wi xs := h.kp' S (h.bag.same s) (same_kp s)
def setP (xs : Pt → List V) (t : Pt) (ys : List V) : Pt → List V := fun u => if u = t then ys else xs u
theorem setP_at {xs : Pt → List V} {t : Pt} {ys : List V} : setP xs t ys t = ys := if_pos rfl
theorem setP_ne {xs : Pt → List V} {t u : Pt} {ys : List V} (h : u ≠ t) : setP xs t ys u = xs u := if_neg h
theorem PIv.app {b c p : Addr} {l : Pt → Addr} {H0 H : Hp} {ev wi : Int} {xs : Pt → List V} (S : PSt b c p l H0) (h : PIv b c p l H0 H ev wi xs) (t : Pt) {x : V} (hx : ItemOk t H x ev wi) (hn : Below H x) (hg : t = .gap → GapSm H x) : PIv b c p l H0 (upd H (l t) (.lst (xs t ++ [x]))) ev wi (setP xs t (xs t ++ [x])) := by
  refine ⟨?_, h.kp.mut (S.fl t), by rw [upd_ne (S.pl t)]; exact h.hp, fun u => ?_, fun u y hy => ?_, fun u y hy => ?_, fun y hy => ?_⟩
  · obtain ⟨i, j, n, cs, h1, h2, r⟩ := h.bag
    exact ⟨i, j, n, cs, by rw [upd_ne (S.lb t).symm]; exact h1, by rw [upd_ne (S.lc t).symm]; exact h2, r⟩
  · by_cases e : u = t
    · subst e
      rw [upd_same, setP_at]
    · rw [upd_ne (S.inj u t e), setP_ne e]
      exact h.hl u
  · by_cases e : u = t
    · subst e
      rw [setP_at] at hy
      rcases List.mem_append.mp hy with q | q
      · exact (h.it u y q).lst (h.hl u)
      · cases List.mem_singleton.mp q
        exact hx.lst (h.hl u)
    · rw [setP_ne e] at hy
      exact (h.it u y hy).lst (h.hl t)
  · have mv : ∀ {v : V} {w : Pt}, ItemOk w H v ev wi → Below H v → Below (upd H (l t) (.lst (xs t ++ [x]))) v := fun {v w} hi hb => hb.of (by
      obtain ⟨a, ys, e, ha, _, _⟩ := hi
      refine ⟨a, ys, e, ha, ?_⟩
      rw [upd_ne (fun z => by rw [z, h.hl t] at ha; cases ha)]
      exact ha)
    by_cases e : u = t
    · subst e
      rw [setP_at] at hy
      rcases List.mem_append.mp hy with q | q
      · exact mv (h.it u y q) (h.nb u y q)
      · cases List.mem_singleton.mp q
        exact mv hx hn
    · rw [setP_ne e] at hy
      exact mv (h.it u y hy) (h.nb u y hy)
  · have mv : ∀ {v : V} {w : Pt}, ItemOk w H v ev wi → GapSm H v → GapSm (upd H (l t) (.lst (xs t ++ [x]))) v := fun {v w} hi hb => hb.of (by
      obtain ⟨a, ys, e, ha, _, _⟩ := hi
      refine ⟨a, ys, e, ha, ?_⟩
      rw [upd_ne (fun z => by rw [z, h.hl t] at ha; cases ha)]
      exact ha)
    by_cases e : Pt.gap = t
    · subst e
      rw [setP_at] at hy
      rcases List.mem_append.mp hy with q | q
      · exact mv (h.it .gap y q) (h.ng y q)
      · cases List.mem_singleton.mp q
        exact mv hx (hg rfl)
    · rw [setP_ne e] at hy
      exact mv (h.it .gap y hy) (h.ng y hy)
def spParts : Sp := fun vs H Q _ => ∃ (ev wi most : Int) (b c : Addr), vs = [.ref b, .int ev, .int wi, .int most] ∧ Bag H b c ∧ 0 ≤ ev ∧ ev ≤ 8 ∧ 0 ≤ wi ∧ wi ≤ 8 ∧ 0 ≤ most ∧ most ≤ 1000 ∧
  ∀ p l H' xs, PSt b c p l H → PIv b c p l H H' ev wi xs → ((xs .tel).length : Int) ≤ most → ((xs .gap).length : Int) ≤ most / 2 + 1 → (xs .sur).length ≤ 3 → (xs .cla).length ≤ 3 → Q (.ref p) H'
def lOf (l0 l1 l2 l3 : Addr) : Pt → Addr | .tel => l0 | .gap => l1 | .sur => l2 | .cla => l3
theorem parts_start {b c l0 l1 l2 l3 p : Addr} {H : Hp} {ev wi : Int} (hb : Bag H b c) (h0 : H l0 = none) (h1 : upd H l0 (.lst []) l1 = none) (h2 : upd (upd H l0 (.lst [])) l1 (.lst []) l2 = none) (h3 : upd (upd (upd H l0 (.lst [])) l1 (.lst [])) l2 (.lst []) l3 = none)
    (hp : upd (upd (upd (upd H l0 (.lst [])) l1 (.lst [])) l2 (.lst [])) l3 (.lst []) p = none) :
    PSt b c p (lOf l0 l1 l2 l3) H ∧ PIv b c p (lOf l0 l1 l2 l3) H (upd (upd (upd (upd (upd H l0 (.lst [])) l1 (.lst [])) l2 (.lst [])) l3 (.lst [])) p (.lst [.ref l0, .ref l1, .ref l2, .ref l3])) ev wi (fun _ => []) := by
  obtain ⟨n10, h1⟩ := nn h1
  obtain ⟨n21, h2⟩ := nn h2
  obtain ⟨n20, h2⟩ := nn h2
  obtain ⟨n32, h3⟩ := nn h3
  obtain ⟨n31, h3⟩ := nn h3
  obtain ⟨n30, h3⟩ := nn h3
  obtain ⟨m3, hp⟩ := nn hp
  obtain ⟨m2, hp⟩ := nn hp
  obtain ⟨m1, hp⟩ := nn hp
  obtain ⟨m0, hp⟩ := nn hp
  have hc : ∀ q, H q = none → q ≠ c := fun q h z => by
    obtain ⟨_, _, _, _, _, w, _⟩ := hb
    subst z
    rw [w] at h
    cases h
  refine ⟨⟨?_, ?_, ?_, ?_, hb.ne hp, ?_, hp⟩, ⟨?_, ?_, upd_same, ?_, fun t x h => (nomatch h), fun t x h => (nomatch h), fun x h => (nomatch h)⟩⟩
  · intro t u h
    cases t <;> cases u <;> first | exact absurd rfl h | assumption | exact Ne.symm (by assumption)
  · intro t
    cases t
    · exact hb.ne h0
    · exact hb.ne h1
    · exact hb.ne h2
    · exact hb.ne h3
  · intro t
    cases t
    · exact hc _ h0
    · exact hc _ h1
    · exact hc _ h2
    · exact hc _ h3
  · intro t
    cases t <;> assumption
  · intro t
    cases t <;> assumption
  · obtain ⟨i, j, n, cs, w1, w2, r⟩ := hb
    have q : ∀ a o, H a = some o → upd (upd (upd (upd (upd H l0 (.lst [])) l1 (.lst [])) l2 (.lst [])) l3 (.lst [])) p (.lst [.ref l0, .ref l1, .ref l2, .ref l3]) a = some o := fun a o h => by
      rw [upd_ne (ne_of_none h hp), upd_ne (ne_of_none h h3), upd_ne (ne_of_none h h2), upd_ne (ne_of_none h h1), upd_ne (ne_of_none h h0)]
      exact h
    exact ⟨i, j, n, cs, q _ _ w1, q _ _ w2, r⟩
  · intro a o _ h
    rw [upd_ne (ne_of_none h hp), upd_ne (ne_of_none h h3), upd_ne (ne_of_none h h2), upd_ne (ne_of_none h h1), upd_ne (ne_of_none h h0)]
    exact h
  · intro t
    cases t
    · show upd _ _ _ l0 = _
      rw [upd_ne m0.symm, upd_ne n30.symm, upd_ne n20.symm, upd_ne n10.symm, upd_same]
    · show upd _ _ _ l1 = _
      rw [upd_ne m1.symm, upd_ne n31.symm, upd_ne n21.symm, upd_same]
    · show upd _ _ _ l2 = _
      rw [upd_ne m2.symm, upd_ne n32.symm, upd_same]
    · show upd _ _ _ l3 = _
      rw [upd_ne m3.symm, upd_same]
theorem stands3 {p : Pt} {x0 x1 x2 : V} {w0 w1 w2 : Str} {ev wi : Int} (hf : p.form = [w0, w1, w2]) (h0 : standB w0 [x0, x1, x2] 0 x0 ev wi = true) (h1 : standB w1 [x0, x1, x2] 1 x1 ev wi = true) (h2 : standB w2 [x0, x1, x2] 2 x2 ev wi = true) : StandsTo p [x0, x1, x2] ev wi p.form.length := by
  intro j hj wd x hw hx
  rw [hf] at hw hj
  rcases j with _ | _ | _ | j
  · cases hw; cases hx; exact h0
  · cases hw; cases hx; exact h1
  · cases hw; cases hx; exact h2
  · simp only [List.length_cons, List.length_nil] at hj; omega
theorem num_true {i : Int} (h0 : -1000000000000000 ≤ i) (h1 : i ≤ 1000000000000000) : numB (.int i) = true := by
  show (decide _ && decide _) = true
  rw [decide_eq_true h0, decide_eq_true h1]
  rfl
section
variable {xs : List V} {i : Nat} {x : V} {ev wi : Int}
theorem st_w : standB "witness" xs i x ev wi = belowB x wi := by unfold standB; rw [if_pos rfl]
theorem st_e : standB "event" xs i x ev wi = belowB x ev := by unfold standB; rw [if_neg (by decide), if_pos rfl]
theorem st_a : standB "another event" xs i x ev wi = (belowB x ev && !decide (some x = xs[i - 1]?)) := by unfold standB; rw [if_neg (by decide), if_neg (by decide), if_pos rfl]
theorem st_s : standB "side" xs i x ev wi = sideB x := by unfold standB; rw [if_neg (by decide), if_neg (by decide), if_neg (by decide), if_pos rfl]
theorem st_k : standB "kind" xs i x ev wi = kindB x := by unfold standB; rw [if_neg (by decide), if_neg (by decide), if_neg (by decide), if_neg (by decide), if_pos rfl]
theorem st_n : standB "number" xs i x ev wi = numB x := by unfold standB; rw [if_neg (by decide), if_neg (by decide), if_neg (by decide), if_neg (by decide), if_neg (by decide)]
end
theorem item_tel {H : Hp} {q : Addr} {ev wi a e x : Int} (h : H q = some (.tup [.int a, .int e, .int x])) (a0 : 0 ≤ a) (a1 : a < wi) (e0 : 0 ≤ e) (e1 : e < ev) (x0 : -1000000000000000 ≤ x) (x1 : x ≤ 1000000000000000) : ItemOk .tel H (.ref q) ev wi :=
  ⟨q, _, rfl, h, rfl, stands3 rfl (st_w.trans (below_true a0 a1)) (st_e.trans (below_true e0 e1)) (st_n.trans (num_true x0 x1))⟩
theorem item_gap {H : Hp} {q : Addr} {ev wi a e x : Int} (h : H q = some (.tup [.int a, .int e, .int x])) (a0 : 0 ≤ a) (a1 : a < ev) (e0 : 0 ≤ e) (e1 : e < ev) (ne : e ≠ a) (x0 : -1000000000000000 ≤ x) (x1 : x ≤ 1000000000000000) : ItemOk .gap H (.ref q) ev wi :=
  ⟨q, _, rfl, h, rfl, stands3 rfl (st_e.trans (below_true a0 a1)) (st_a.trans (by
    rw [below_true e0 e1, Bool.true_and, decide_eq_false]
    · rfl
    · intro z
      cases z
      exact ne rfl)) (st_n.trans (num_true x0 x1))⟩
theorem item_sur {H : Hp} {q : Addr} {ev wi a x : Int} {s : Str} (h : H q = some (.tup [.int a, .str s, .int x])) (a0 : 0 ≤ a) (a1 : a < ev) (hs : s = "least" ∨ s = "most") (x0 : -1000000000000000 ≤ x) (x1 : x ≤ 1000000000000000) : ItemOk .sur H (.ref q) ev wi :=
  ⟨q, _, rfl, h, rfl, stands3 rfl (st_e.trans (below_true a0 a1)) (st_s.trans (by rcases hs with rfl | rfl <;> decide)) (st_n.trans (num_true x0 x1))⟩
theorem item_cla {H : Hp} {q : Addr} {ev wi a v : Int} {s r : Str} (h : H q = some (.tup [.int a, .str s, .int v, .str r])) (a0 : 0 ≤ a) (a1 : a < wi) (hs : s = "early" ∨ s = "late") (v0 : 0 ≤ v) (v1 : v < wi) (hr : r = "early" ∨ r = "late") : ItemOk .cla H (.ref q) ev wi := by
  refine ⟨q, _, rfl, h, rfl, ?_⟩
  intro j hj wd x hw hx
  rcases j with _ | _ | _ | _ | j
  · cases hw; cases hx; exact st_w.trans (below_true a0 a1)
  · cases hw; cases hx; exact st_k.trans (by rcases hs with rfl | rfl <;> decide)
  · cases hw; cases hx; exact st_w.trans (below_true v0 v1)
  · cases hw; cases hx; exact st_k.trans (by rcases hr with rfl | rfl <;> decide)
  · exact absurd hj (by show ¬ (j + 1 + 1 + 1 + 1 < 4); omega)
theorem gap_ne {a t ev : Int} (a0 : 0 ≤ a) (a1 : a < ev) (t0 : 0 ≤ t) (t1 : t < ev - 1) (e8 : ev ≤ 8) : (a + 1 + t) % ev ≠ a := by
  have h : ev = 2 ∨ ev = 3 ∨ ev = 4 ∨ ev = 5 ∨ ev = 6 ∨ ev = 7 ∨ ev = 8 := by omega
  rcases h with rfl | rfl | rfl | rfl | rfl | rfl | rfl <;> omega
theorem pos2 {x y : Int} (x0 : 0 ≤ x) (y0 : 0 ≤ y) (h : 0 < x * y) : 0 < x ∧ 0 < y := by
  constructor
  · rcases Int.lt_or_eq_of_le x0 with q | q
    · exact q
    · rw [← q, Int.zero_mul] at h; omega
  · rcases Int.lt_or_eq_of_le y0 with q | q
    · exact q
    · rw [← q, Int.mul_zero] at h; omega
theorem size1k {n : Nat} (h : n ≤ 1001) : n < sizeLine := Nat.lt_of_le_of_lt h (by decide)
theorem mul8 {x y : Int} (x0 : 0 ≤ x) (x8 : x ≤ 8) (y0 : 0 ≤ y) (y8 : y ≤ 8) : CMul x y := .inl ⟨by omega, by omega⟩
theorem cnt01 {r : Int} {p : Prop} [Decidable p] (h0 : 0 ≤ r) : 0 ≤ r * (if decide p = true then 1 else 0) ∧ r * (if decide p = true then 1 else 0) ≤ r ∧ (0 < r * (if decide p = true then 1 else 0) → p) := by
  by_cases h : p
  · rw [if_pos (decide_eq_true h)]
    exact ⟨by omega, by omega, fun _ => h⟩
  · rw [if_neg (by rw [decide_eq_false h]; exact Bool.false_ne_true)]
    exact ⟨by omega, by omega, fun z => absurd z (by omega)⟩
section
variable {P : Program} {w : World} {K : Frag} {mg : Str → Option Value} {base : Heap} {f : Addr} {fd : FuncData}
theorem ok_number (F : Fun K "_law_number" "_law_number" s_number f fd) (T : Tb mg) (c_take : Cal P w K mg base CX0 1 "_law_take" ["_law_bag_here", "_law_many"] spTake) : FnOk P w K mg base CX0 2 f fd ["_law_bag_here"] spNum := by
  refine F.ok sc_number (fun vs H Q E h => ?_) (fun cdv A outer s H vs Q E hr h => ?_)
  · obtain ⟨_, _, rfl, _⟩ := h
    rfl
  · obtain ⟨b, c, rfl, hb, k⟩ := h
    refine ⟨_, (pss_cons (ps_par (i := 1) (j := 2) rfl sc_number.nd rfl rfl (by decide) rfl rfl (pa_cons (pe_cal c_take (hr.mono (by decide)) pass0 (pa_cons (pv 0) (pa_cons pe_int pa_nil))) (pa_cons (pe_op op_sub (pe_cal c_take (hr.mono (by decide)) pass0 (pa_cons (pv 0) (pa_cons pe_int pa_nil))) pe_int) pa_nil)) (by with_unfolding_all rfl))
  (pss_cons (ps_if (pt_cmpR op_lt (pv 1) pe_int (nomark _))
    (pss_one (ps_ret (pv 2)))
    pss_nil)
  (pss_one (ps_ret (pe_ifExp (pt_cmpR (u_eq hr.units) (pv 1) pe_int (nomark _)) (pe_op u_add pe_int (pv 2)) (pe_op op_sub (pv 2) pe_int)))))), ?_⟩
    walk_at "el"
    refine ⟨b, c, 10, rfl, hb, by decide, by decide, fun r1 H1 _ _ hb1 k1 => ?_⟩
    walk_at "el"
    refine ⟨b, c, 12, rfl, hb1, by decide, by decide, fun r2 H2 _ _ hb2 k2 => ?_⟩
    have k12 := k1.trans k2
    walk_at "el"
    refine ite2 (fun h0 => ?_) (fun h0 => ?_)
    · walk_at "el"
      exact k _ _ (by omega) (by omega) hb2 k12
    · walk_at "el"
      refine ite2 (fun h0 => ?_) (fun h0 => ?_)
      · walk_at "el"
        exact k _ _ (by omega) (by omega) hb2 k12
      · walk_at "el"
        exact k _ _ (by omega) (by omega) hb2 k12
theorem ok_kind (F : Fun K "_law_kind" "_law_kind" s_kind f fd) (T : Tb mg) (c_take : Cal P w K mg base CX0 1 "_law_take" ["_law_bag_here", "_law_many"] spTake) : FnOk P w K mg base CX0 2 f fd ["_law_bag_here"] spKnd := by
  refine F.ok sc_kind (fun vs H Q E h => ?_) (fun cdv A outer s H vs Q E hr h => ?_)
  · obtain ⟨_, _, rfl, _⟩ := h
    rfl
  · obtain ⟨b, c, rfl, hb, k⟩ := h
    refine ⟨_, (pss_one (ps_ret (pe_ix ix_seq (pe_lst (pa_cons pe_str (pa_cons pe_str pa_nil))) (pe_cal c_take (hr.mono (by decide)) pass0 (pa_cons (pv 0) (pa_cons pe_int pa_nil))) (fun _ _ => rfl)))), ?_⟩
    walk_at "el"
    refine ⟨by decide, fun p hp => ?_⟩
    have e1 := nw_of hp
    have n1 := hb.ne hp
    walk_at "el"
    refine ⟨b, c, 2, rfl, hb.same (e1 _), by decide, by decide, fun r1 H1 r0 r2 hb1 k1 => ?_⟩
    have hp1 := k1 _ _ n1 upd_same
    have r3 : r1 = 0 ∨ r1 = 1 := by omega
    have kF : Kp b H H1 := Kp.into k1 (e1 _)
    rcases r3 with rfl | rfl
    · walk_at "el"
      exact k _ _ (.inl rfl) hb1 kF
    · walk_at "el"
      exact k _ _ (.inr rfl) hb1 kF
end
end EL

/- part S -/
namespace EL
open PySem PySem.Spec PyProof.Rows L2
open PySem.W (Frag)

local macro_rules | `(tactic| walk_at "el1") => `(tactic| with_reducible first
  | refine a_sasg ?_ | refine a_sdrop ?_ | refine a_saugS ?_ | refine a_spar ?_ | refine a_seq ?_ | refine a_asg ?_ | refine a_drop ?_ | refine a_ret ?_ | refine a_if ?_ | refine a_next ?_
  | refine a_op ?_ | refine a_cons ?_ | refine a_nil ?_ | refine a_cb ?_ | refine a_call ?_ | refine a_c ?_ | refine a_gn ?_ | refine a_nx ?_ | refine a_rt ?_ | refine a_un ?_
  | refine a_test ?_ | refine a_B ?_ | refine a_bl ?_ | refine a_and ?_ | refine a_or ?_ | refine a_not ?_ | refine a_andV ?_ | refine a_orV ?_ | refine a_notV ?_ | refine a_ifx ?_ | refine a_chain ?_
  | refine a_nT ?_ | refine a_nF ?_ | refine a_fld ?_ | refine a_getF ?_ | refine a_T ?_ | refine a_F ?_ | refine a_tup ?_ | refine a_lst ?_ | refine a_sub ?_ | refine a_augS ?_ | refine a_two ?_ | refine a_I0 ?_ | refine a_U ?_ | refine n_add ?_ | refine n_int ?_ | refine n_ib ?_ | refine a_ip ?_ | refine a_rng1 ?_ | refine a_rng2 ?_ | refine a_bm ?_ | refine a_abs ?_ | refine a_pairs ?_ | refine a_pairs0 ?_ | refine a_bk ?_ | refine a_prp ?_ | refine a_lc ?_ | refine a_yes ?_ | refine a_sl ?_ | refine a_nop ?_ | refine a_prt ?_ | refine a_ex1 ?_ | refine a_for ?_ | refine a_sfor ?_ | refine a_iE1 ?_ | refine a_iEs ?_ | refine a_iEz ?_ | refine a_iEnum ?_ | refine a_iTup ?_ | refine a_iList ?_ | refine a_gcons ?_ | refine a_gnil ?_ | refine a_revT ?_ | refine a_spar3 ?_ | refine a_par3 ?_ | refine a_three ?_)
local macro_rules | `(tactic| walk_at "el2") => `(tactic| first
  | (refine a_var (by rfl) ?_)
  | (refine n_ixL (SqL.of (by assumption)) (by rfl) ?_) | (refine n_ixT (SqT.of (by assumption)) (by rfl) ?_) | (refine n_eq (by rfl) ?_) | (refine n_ne (by rfl) ?_)
  | (refine n_isN ?_) | (refine n_notN ?_) | (refine n_isB ?_) | (refine n_notB ?_) | (refine n_isBI ?_) | (refine n_notBI ?_) | (refine n_len (.inl (SqL.of (by assumption))) ?_) | (refine n_len (.inr (SqT.of (by assumption))) ?_)
  | (refine a_getL (SqL.of (by assumption)) (by rfl) ?_)
  | (refine n_isInt (by assumption) ?_) | (refine n_isBool (by assumption) ?_) | (refine n_isStr (by assumption) ?_) | (refine n_isTup (by assumption) ?_) | (refine n_isLst (by assumption) ?_))
local macro_rules | `(tactic| walk_at "el") => `(tactic| repeat (first | walk_at "el1" | walk_at "el2"))

/-! ### a law's own look at ways -/
def spYes : Sp := fun vs H Q _ => ∃ x y : Bool, vs = [.bl x, .bl y] ∧ Q (.bl (decide (x = y))) H
def spWayL (K : Frag) : Sp := fun vs H Q _ => ∃ (g : Addr) (gs : List V) (G : List (Int × Int × Int)) (a b : Int) (x : V), vs = [.ref g, .int a, .int b, x] ∧ GapsAre K H g gs G ∧
  Th K H x ∧ (∀ (q : Addr) (xs : List V), x = .ref q → H q = some (.tup xs) → ∀ y ∈ xs, Th K H y) ∧ ∀ r, (r = true ↔ isWay H G a b x) → Q (.bl r) H
def spWalk (K : Frag) : Sp := fun vs H Q _ => ∃ (b c g : Addr) (gs : List V) (G : List (Int × Int × Int)) (a many : Int), vs = [.ref b, .ref g, .int a, .int many] ∧ Bag H b c ∧ g ≠ b ∧ H g = some (.lst gs) ∧ GapsAre K H g gs G ∧ gs.length ≤ 1000 ∧ 0 ≤ many ∧ many ≤ 1000 ∧
  ∀ H' r q (is : List Int) h, Bag H' b c → Kp b H H' → H' r = some (.tup [.ref q, .int h]) → H' q = some (.tup (is.map V.int)) → wayTo G a (is.map V.int) = some h → (is.length : Int) ≤ many → (∀ z ∈ is, 0 ≤ z ∧ z < G.length) → Q (.ref r) H'
section
variable {P : Program} {w : World} {K : Frag} {mg : Str → Option Value} {base : Heap} {f : Addr} {fd : FuncData} {C : Addr}
end
end EL

/- part X -/
namespace EL
open PySem PySem.Spec PyProof.Rows L2
open PySem.W (Frag)
abbrev s_Unequal_init : Stmt := inClass (top 2) 0
abbrev N_Unequal_init : List Str := ["self", "one", "other"]
theorem sc_Unequal_init : FnScope N_Unequal_init ["self", "one", "other"] (defScope s_Unequal_init) := ⟨rfl, rfl, rfl, by decide +kernel, rfl, by decide +kernel, by decide +kernel⟩
local macro_rules | `(tactic| walk_at "el1") => `(tactic| with_reducible first
  | refine a_sasg ?_ | refine a_sdrop ?_ | refine a_saugS ?_ | refine a_spar ?_ | refine a_seq ?_ | refine a_asg ?_ | refine a_drop ?_ | refine a_ret ?_ | refine a_if ?_ | refine a_next ?_
  | refine a_op ?_ | refine a_cons ?_ | refine a_nil ?_ | refine a_cb ?_ | refine a_call ?_ | refine a_c ?_ | refine a_gn ?_ | refine a_nx ?_ | refine a_rt ?_ | refine a_un ?_
  | refine a_test ?_ | refine a_B ?_ | refine a_bl ?_ | refine a_and ?_ | refine a_or ?_ | refine a_not ?_ | refine a_andV ?_ | refine a_orV ?_ | refine a_notV ?_ | refine a_ifx ?_ | refine a_chain ?_
  | refine a_nT ?_ | refine a_nF ?_ | refine a_fld ?_ | refine a_getF ?_ | refine a_T ?_ | refine a_F ?_ | refine a_tup ?_ | refine a_lst ?_ | refine a_sub ?_ | refine a_augS ?_ | refine a_two ?_ | refine a_I0 ?_ | refine a_U ?_ | refine n_add ?_ | refine n_int ?_ | refine n_ib ?_ | refine a_ip ?_ | refine a_rng1 ?_ | refine a_rng2 ?_ | refine a_bm ?_ | refine a_abs ?_ | refine a_pairs ?_ | refine a_pairs0 ?_ | refine a_bk ?_ | refine a_prp ?_ | refine a_lc ?_ | refine a_yes ?_ | refine a_sl ?_ | refine a_nop ?_ | refine a_prt ?_ | refine a_ex1 ?_ | refine a_for ?_ | refine a_sfor ?_ | refine a_iE1 ?_ | refine a_iEs ?_ | refine a_iEz ?_ | refine a_iEnum ?_ | refine a_iTup ?_ | refine a_iList ?_ | refine a_gcons ?_ | refine a_gnil ?_ | refine a_revT ?_ | refine a_spar3 ?_ | refine a_par3 ?_ | refine a_three ?_)
local macro_rules | `(tactic| walk_at "el2") => `(tactic| first
  | (refine a_var (by rfl) ?_)
  | (refine n_ixL (SqL.of (by assumption)) (by rfl) ?_) | (refine n_ixT (SqT.of (by assumption)) (by rfl) ?_) | (refine n_eq (by rfl) ?_) | (refine n_ne (by rfl) ?_)
  | (refine n_isN ?_) | (refine n_notN ?_) | (refine n_isB ?_) | (refine n_notB ?_) | (refine n_isBI ?_) | (refine n_notBI ?_) | (refine n_len (.inl (SqL.of (by assumption))) ?_) | (refine n_len (.inr (SqT.of (by assumption))) ?_)
  | (refine a_getL (SqL.of (by assumption)) (by rfl) ?_)
  | (refine n_isInt (by assumption) ?_) | (refine n_isBool (by assumption) ?_) | (refine n_isStr (by assumption) ?_) | (refine n_isTup (by assumption) ?_) | (refine n_isLst (by assumption) ?_))
local macro_rules | `(tactic| walk_at "el") => `(tactic| repeat (first | walk_at "el1" | walk_at "el2"))

/-! ### errors that keep what they were made of -/
def spErr1 (C : Addr) (fld : Str) : Sp := fun vs H Q _ => ∃ (a : Addr) (y : V), vs = [.ref a, y] ∧ H a = some (exo a C none) ∧ ∀ dx, H dx = none → dx ≠ a → Q .non (upd (upd H dx (exd dx [(fld, y)])) a (exo a C (some dx)))
def spErr2 (C : Addr) (f1 f2 : Str) : Sp := fun vs H Q _ => ∃ (a : Addr) (y z : V), vs = [.ref a, y, z] ∧ H a = some (exo a C none) ∧ ∀ dx, H dx = none → dx ≠ a → Q .non (upd (upd (upd H dx (exd dx [(f1, y)])) a (exo a C (some dx))) dx (exd dx [(f2, z), (f1, y)]))
theorem err_heap {H : Hp} {a d C : Addr} {e1 e2 : HO} (ha : H a = none) (hd : d ≠ a) (fs : List (Str × V)) : upd (del (upd (upd (upd H a e1) d e2) a (exo a C (some d))) a) d (.xd fs) = upd H d (.xd fs) := by
  funext b
  by_cases e : b = d
  · subst e
    rw [upd_same, upd_same]
  · rw [upd_ne e, upd_ne e]
    by_cases z : b = a
    · subst z
      show (if b = b then none else _) = _
      rw [if_pos rfl, ha]
    · show (if b = a then none else _) = _
      rw [if_neg z, upd_ne z, upd_ne e, upd_ne z]
/-- what the making of an error asks -/
def ErrR (C : Addr) (sp : Sp) (vs : List V) (H1 : Hp) (Q : XK) : Prop := vs.length ≤ 1000 ∧ ∀ a : Addr, H1 a = none → sp (.ref a :: (vs ++ [])) (upd H1 a (exo a C none)) (fun v H2 => v = .non ∧ ∃ (d : Addr) (fs : List (Str × V)), H2 a = some (exo a C (some d)) ∧ H2 d = some (exd d fs) ∧ H1 d = none ∧ Q (.ref C) (some d) (upd (del H2 a) d (.xd fs))) (fun _ _ _ => False)
def tRz (C : Addr) (sp : Sp) (ta : TA) (W : WX) : TS := fun _ σ H => ta σ H fun vs H1 => ErrR C sp vs H1 fun cls d H' => W cls d σ H'
theorem a_rz {C : Addr} {sp : Sp} {ta : TA} {W : WX} {D : Ends} {σ : L2.St} {H : Hp} (q : ta σ H fun vs H1 => ErrR C sp vs H1 fun cls d H' => W cls d σ H') : tRz C sp ta W D σ H := q
theorem n_err1 {C : Addr} {fld : Str} {y : V} {H : Hp} {Q : XK} (q : ∀ d, H d = none → Q (.ref C) (some d) (upd H d (.xd [(fld, y)]))) : ErrR C (spErr1 C fld) [y] H Q := by
  refine ⟨by show 1 ≤ 1000; decide, fun a ha => ⟨a, y, rfl, upd_same, fun d hd ne => ⟨rfl, d, [(fld, y)], upd_same, by rw [upd_ne ne]; exact upd_same, (nn hd).2, ?_⟩⟩⟩
  rw [err_heap ha ne]
  exact q d (nn hd).2
theorem err_heap2 {H : Hp} {a d C : Addr} {e1 e2 e3 : HO} (ha : H a = none) (hd : d ≠ a) (fs : List (Str × V)) : upd (del (upd (upd (upd (upd H a e1) d e2) a (exo a C (some d))) d e3) a) d (.xd fs) = upd H d (.xd fs) := by
  funext b
  by_cases e : b = d
  · subst e
    rw [upd_same, upd_same]
  · rw [upd_ne e, upd_ne e]
    by_cases z : b = a
    · subst z
      show (if b = b then none else _) = _
      rw [if_pos rfl, ha]
    · show (if b = a then none else _) = _
      rw [if_neg z, upd_ne e, upd_ne z, upd_ne e, upd_ne z]
theorem n_err2 {C : Addr} {f1 f2 : Str} {y z : V} {H : Hp} {Q : XK} (q : ∀ d, H d = none → Q (.ref C) (some d) (upd H d (.xd [(f2, z), (f1, y)]))) : ErrR C (spErr2 C f1 f2) [y, z] H Q := by
  refine ⟨by show 2 ≤ 1000; decide, fun a ha => ⟨a, y, z, rfl, upd_same, fun d hd ne => ⟨rfl, d, [(f2, z), (f1, y)], by rw [upd_ne ne.symm]; exact upd_same, upd_same, (nn hd).2, ?_⟩⟩⟩
  rw [err_heap2 ha ne]
  exact q d (nn hd).2
structure ErrG (P : Program) (w : World) (K : Frag) (mg : Str → Option Value) (base : Heap) (x : Str) (C : Addr) (ps : List Str) (sp : Sp) : Prop where
  ex : ∃ fI fd, PySem.W.findIn K (.ref C) "__init__" = some (some (.ref fI)) ∧ PySem.W.typeIn K (.ref fI) = some (.type "function") ∧ FnOk P w K mg base CX0 1 fI fd ps sp ∧ L2.Binds K fd ps []
  o : OexC K C
  g : mg x = some (.ref C)
theorem ps_rz {X : Cx} {W : WX} {x : Str} {C : Addr} {ps : List Str} {sp : Sp} {e : Expr} {es : List Expr} {ta : TA} {p pos pos' : Pos} (G : ErrG X.prog X.w X.K X.mg X.base x C ps sp) (hr : Room 2 X.A) (hc : X.calm = true) (tk : Takes X W) (ha : PA X (e :: es) ta)
    (hg : Gl X x := by rfl) (hb : (x == ("__debug__" : Str)) = false := by decide) (he : starEach (e :: es) X.env = (false, eval e X.env) :: starEach es X.env := by rfl) (hpl : (backTo pos (starEach es X.env)).any (·.1) = false := by rfl) :
    PS X (.Raise (some (.Call (.Name x p) (e :: es) [] pos)) none pos') (tRz C sp ta W) := by
  obtain ⟨fI, fd, i, t, F, b⟩ := G.ex
  exact ps_raise hc tk (pmk_oex (pos := pos) (p := p) G.o i t F hr b .nil pass0 hg G.g ha hb he hpl)
/-! ### errors on their way through a call -/
theorem passE {X : Cx} {E : XK} (tk : Takes X fun cls d _ H => E cls d H) : Passes (L2.CX X.prog X.w) X E := fun pins σ H s e s' I hz => passAt tk σ pins H s e s' I hz
theorem pe_calX {X : Cx} {W : WX} {k : Nat} {x : Str} {ps : List Str} {sp : Sp} {p pos : Pos} {e : Expr} {es : List Expr} {t : TA} (C : Cal X.prog X.w X.K X.mg X.base (L2.CX X.prog X.w) k x ps sp) (hr : Room k X.A) (tk : Takes X W) (ha : PA X (e :: es) t)
    (hg : Gl X x := by rfl) (hdb : (x == ("__debug__" : Str)) = false := by decide) (he : starEach (e :: es) X.env = (false, eval e X.env) :: starEach es X.env := by rfl) (hpl : (backTo pos (starEach es X.env)).any (·.1) = false := by rfl) :
    PE X (.Call (.Name x p) (e :: es) [] pos) (tCallS sp (WE W) t) := by
  obtain ⟨f, fd, h1, h2, h3, h4⟩ := C.ex
  exact pe_callS h4 hr hg h1 h2 h3 (fun σ => passAt tk σ) ha hdb he hpl
section
variable {P : Program} {w : World} {K : Frag} {mg : Str → Option Value} {base : Heap} {f C aForms aParts : Addr} {fd : FuncData}
/-- items that are looked at: the error of the first that is none -/
def spCiX (K : Frag) (CT CB : Addr) : Sp := fun vs H Q E => ∃ (n : Int) (p : Pt) (a : Addr) (xs : List V) (ev wi : Int), vs = [.int n, .str p.name, .ref a, .int ev, .int wi] ∧ SqA K H a xs ∧ (∀ x ∈ xs, Th K H x ∧ ∀ (q : Addr) (ys : List V), x = .ref q → H q = some (.tup ys) → ∀ y ∈ ys, Th K H y) ∧
  (24 < xs.length → ∀ d, H d = none → E (.ref CT) (some d) (upd H d (.xd [("limit", .int 24)]))) ∧
  (xs.length ≤ 24 → (∀ x ∈ xs, ItemOk p H x ev wi) → ∀ H', Same H H' → Q .non H') ∧
  (xs.length ≤ 24 → ∀ i x, xs[i]? = some x → (∀ (j : Nat) y, j < i → xs[j]? = some y → ItemOk p H y ev wi) → ¬ ItemOk p H x ev wi → ∀ H' d, Same H H' → H' d = none → E (.ref CB) (some d) (upd H' d (.xd [("index", .int i), ("place", .int n)])))
theorem ItemOk.back {K : Frag} {p : Pt} {H H' : Hp} {x : V} {ev wi : Int} (h : ItemOk p H' x ev wi) (th : Th K H x) (s : Same H H') : ItemOk p H x ev wi := by
  obtain ⟨a, xs, rfl, ha, hl, hs⟩ := h
  refine ⟨a, xs, rfl, ?_, hl, hs⟩
  have go : ∀ u, H a = some u → H a = some (.tup xs) := fun u hu => by
    have q := s _ _ hu
    rw [ha] at q
    rw [hu, ← q]
  cases th with
  | lst h => exact go _ h
  | tup h => exact go _ h
  | dct h => exact go _ h
  | ins h c => exact go _ h
  | dtt h => exact go _ h
theorem th_at {K : Frag} {H H' : Hp} {xs : List V} {x : V} (th : ∀ x ∈ xs, Th K H x ∧ ∀ (q : Addr) (ys : List V), x = .ref q → H q = some (.tup ys) → ∀ y ∈ ys, Th K H y) (s : Same H H') (hx : x ∈ xs) {q : Addr} {ys : List V} (e : x = .ref q) (hq : H' q = some (.tup ys)) : ∀ y ∈ ys, Th K H' y := by
  obtain ⟨t1, t2⟩ := th x hx
  have go : ∀ u, H q = some u → H q = some (.tup ys) := fun u hu => by
    have w := s _ _ hu
    rw [hq] at w
    rw [hu, ← w]
  intro y hy
  subst e
  have h0 : H q = some (.tup ys) := by
    cases t1 with
    | lst h => exact go _ h
    | tup h => exact go _ h
    | dct h => exact go _ h
    | ins h c => exact go _ h
    | dtt h => exact go _ h
  exact (t2 q ys rfl h0 y hy).same s
end
end EL

/- part XC -/
/-! a caught error that keeps fields: isinstance of it, its fields; the class told by the reading -/
namespace EL
open PySem PySem.Spec PyProof.Rows L2
open PySem.W (Frag)
def rIsX (K : Frag) (a : Addr) (cls : Value) (d : Option Addr) : List V → Hp → VK → Prop := fun xs H Q => ∃ (D : Addr) (c : V) (cv : Value) (b : Bool) (dd : Addr) (fs : List (Str × V)), xs = [.ref a, c] ∧ cls = .ref D ∧ ExcC K D ∧ d = some dd ∧ H dd = some (.xd fs) ∧ (∀ u, RelV c u → u = cv) ∧ PySem.W.kitOne K (.ref D) cv = some b ∧ Q (.bl b) H
theorem call_isX {X : Cx} {a : Addr} {oe : Obj} {cls : Value} {d : Option Addr} {pn : List (Addr × Obj)} (hz : Zc cls d oe) (hf : ∃ vs, oe.data = .fields vs) : CallR (X.suite a ((a, oe) :: pn)) (.builtin "isinstance") (rIsX X.K a cls d) := by
  intro pins s σ H xs us Q I r h
  obtain ⟨D, c, cv, b, dd, fs, rfl, ecl, C, ed, ea, hcv, e, q⟩ := h
  cases r with
  | cons rx rr =>
    cases rr with
    | cons rt rr =>
      cases rr
      cases rx
      have ec := hcv _ rt
      subst ec
      subst ecl
      subst ed
      obtain ⟨hget, _⟩ := I.pin (a, oe) (List.mem_append.mpr (.inl List.mem_cons_self))
      obtain ⟨vs, hv⟩ := hf
      have hx : ObjOk X.prog X.w H s.heap dd (.xd fs) := I.hok dd _ ea
      obtain ⟨mA, hns, hr⟩ := hx
      obtain ⟨od, ho, hl⟩ := lookIn_ns hns
      have J : PySem.W.InstAt s.heap a oe D (some od) := ⟨hget, hz.1, by unfold PySem.W.notCls; rw [hv] <;> rfl, by rw [hz.2]; exact ho⟩
      have hcl : (PySem.W.clsIn X.K D).isSome = true := by
        obtain ⟨cd, hc, _⟩ := PySem.W.any_some C.hd
        rw [hc]; rfl
      exact PySem.W.kia_one (PySem.W.kitx_exc hcl C.hg C.hk C.hs C.ha C.hn C.ht C.hm) I.kIn J e (fun z => nomatch z) fun tk => ⟨.bl b, H, I.kept (t' := tk) fun _ _ z => z, rfl, q⟩
/-- the reading of e.f: a the caught error, cls its class, d its dict -/
def tXfR (K : Frag) (a : Addr) (cls : Value) (d : Option Addr) (f : Str) (te : TE) : TE := fun σ H Q => te σ H fun x H1 => x = .ref a ∧ ∃ (C dd : Addr) (fs : List (Str × V)) (v : V), cls = .ref C ∧ XfC K C ∧ PySem.W.findIn K (.ref C) f = some none ∧ d = some dd ∧ H1 dd = some (.xd fs) ∧ fs.lookup f = some v ∧ Q v H1
theorem pe_xfR {X : Cx} {a : Addr} {oe : Obj} {cls : Value} {d : Option Addr} {pn : List (Addr × Obj)} {e : Expr} {te : TE} {pos : Pos} {n : Str}
    (hz : Zc cls d oe) (hf : ∃ vs, oe.data = .fields vs) (he : PE (X.suite a ((a, oe) :: pn)) e te) (hb : attributeBase e n X.env (eval e X.env) = eval e X.env := by rfl) :
    PE (X.suite a ((a, oe) :: pn)) (.Attribute e n pos) (tXfR X.K a cls d n te) := by
  refine ⟨fun pins s σ H Q I h => ?_⟩
  refine attr_of hb (thn (he.run pins s σ H _ I h) fun u s1 hh => ?_)
  obtain ⟨x, H1, I1, rx, ex, C, dd, fs, v, ec, T, hno, ed, ea, l, q⟩ := hh
  subst ex
  obtain rfl : u = Value.ref a := rx
  subst ec
  subst ed
  obtain ⟨ha, _⟩ := I1.pin (a, oe) (List.mem_append_left _ List.mem_cons_self)
  obtain ⟨vs, hd⟩ := hf
  have hx : ObjOk X.prog X.w H1 s1.heap dd (.xd fs) := I1.hok dd _ ea
  obtain ⟨mA, hns, hr⟩ := hx
  obtain ⟨od, ho, hl⟩ := lookIn_ns hns
  obtain ⟨u, hu, ru⟩ := RelO.some_of (v := v) (o := mA n) (by rw [← l]; exact hr n)
  have J : PySem.W.InstAt s1.heap a oe C (some od) := ⟨ha, hz.1, by unfold PySem.W.notCls; rw [hd] <;> rfl, by rw [hz.2]; exact ho⟩
  exact HandSPX.exc_get I1.kIn J T.ga T.gg T.exC (PySem.W.findObj_own T.hdC hno rfl (by rw [hl, hu])) (handed_of ru) ⟨v, H1, I1.tok _, ru, q⟩
theorem a_xfR {K : Frag} {a : Addr} {cls : Value} {d : Option Addr} {f : Str} {te : TE} {σ : L2.St} {H : Hp} {Q : VK} (q : te σ H fun x H1 => x = .ref a ∧ ∃ (C dd : Addr) (fs : List (Str × V)) (v : V), cls = .ref C ∧ XfC K C ∧ PySem.W.findIn K (.ref C) f = some none ∧ d = some dd ∧ H1 dd = some (.xd fs) ∧ fs.lookup f = some v ∧ Q v H1) : tXfR K a cls d f te σ H Q := q
end EL

/- part LC -/
/-! xs.count(x) of a list of plain data -/
namespace EL
open PySem PySem.Spec PyProof.Rows L2
open PySem.W (Frag)
def rCntD (K : Frag) : V → List V → Hp → VK → Prop := fun x xs H Q => ∃ (p : Addr) (items : List V) (ds : List PyData) (y : V) (d : PyData), x = .ref p ∧ xs = [y] ∧ SqL K H p items ∧ DpAll K H items ds ∧ Dp K H y d ∧ PyData.plainAll ds = true ∧ d.plain = true ∧ d.depth ≤ 60 ∧ Q (.int ((ds.countP fun z => PyData.eqv z d : Nat) : Int)) H
theorem mt_lcountD {X : Cx} (hu : X.A.units + 64 < cLine) : MtR X "list.count" (rCntD X.K) := by
  intro pins s σ H x xs v us Q I rx rxs h
  obtain ⟨p, items, ds, y, d, rfl, rfl, hs, ha, hd, pl, pd, dl, q⟩ := h
  cases rx
  obtain ⟨u, rfl, ru⟩ := rxs.one
  obtain ⟨as, rd⟩ := Dp.reads I (.list ds) (.ref p) (.ref p) (.lst hs ha) rfl
  obtain ⟨bs, rx⟩ := Dp.reads I d y u hd ru
  cases rd with
  | list h1 h2 h3 h4 => exact PySem.SeqAt.count_list_data ⟨_, h1, h2, _, h3⟩ h4 rx pl pd (by have := Nat.min_le_right (PyData.depthAll ds) d.depth; omega) ⟨.int _, H, I.tok _, ⟨_, rfl⟩, q⟩
end EL

/- part ZN -/
/-! for p in zip(t, u) over two tuples: the target is one name -/
namespace EL
open PySem PySem.Spec PyProof.Rows L2
open PySem.W (Frag)
/-- each turn: a new pair of the two items -/
def Itzn (K : Frag) (a b : Addr) : It :=
  ⟨fun i H => ∃ (xs ys : List V) (x y : V), SqT K H a xs ∧ SqT K H b ys ∧ xs[i]? = some x ∧ ys[i]? = some y,
    fun i H v H' => ∃ (T : Addr) (x y : V), v = .ref T ∧ H T = none ∧ H' = upd H T (.tup [x, y]) ∧ (∀ xs, SqT K H a xs → xs[i]? = some x) ∧ ∀ ys, SqT K H b ys → ys[i]? = some y,
    fun i H => ∃ xs ys : List V, SqT K H a xs ∧ SqT K H b ys ∧ xs.length ≤ i⟩
def TurnZn (z TI TO i1 i2 t1 t2 : Addr) (i : Nat) (h : Heap) : Prop :=
  ZipAt h z TI TO ∧ IsTupOf2 h TI (.ref i1) (.ref i2) ∧ (∃ a b, IsTupOf2 h TO a b) ∧ h.IsTupleIter i1 t1 i ∧ h.IsTupleIter i2 t2 i
theorem fq_mem {z TI TO i1 i2 b : Addr} (h : b ∈ [z, TI, TO, i1, i2]) : b = z ∨ b = TI ∨ b = TO ∨ b = i1 ∨ b = i2 := by simpa using h
theorem turn_zn {P : Program} {w : World} {K : Frag} {tn : Str} {tpos : Pos} {z TI TO i1 i2 t1 t2 : Addr} (ap : Apart z TI TO i1 i2 t1 t2) :
    Turn P w K (.Name tn tpos) (Itzn K t1 t2) [z, TI, TO, i1, i2] z (TurnZn z TI TO i1 i2 t1 t2) where
  mem := by simp
  obj := fun i h st b hb => by
    obtain ⟨⟨f0, b0, hz, _⟩, hti, ⟨a1, a2, hto⟩, ⟨o1, q1, _, d1⟩, ⟨o2, q2, _, d2⟩⟩ := st
    rcases fq_mem hb with q | q | q | q | q <;> subst q
    · exact ⟨_, hz, fun v q => nomatch q⟩
    · exact ⟨_, hti, fun v q => nomatch q⟩
    · exact ⟨_, hto, fun v q => nomatch q⟩
    · exact ⟨o1, q1, fun v q => by rw [d1] at q; cases q⟩
    · exact ⟨o2, q2, fun v q => by rw [d2] at q; cases q⟩
  keep := fun i h h' st kp => by
    obtain ⟨⟨f0, b0, hz, m⟩, hti, ⟨a1, a2, hto⟩, h1, h2⟩ := st
    exact ⟨⟨f0, b0, kp z (by simp) _ hz, m⟩, kp TI (by simp) _ hti, ⟨a1, a2, kp TO (by simp) _ hto⟩, h1.at fun o q => kp i1 (by simp) o q, h2.at fun o q => kp i2 (by simp) o q⟩
  item := by
    intro X hP hw hK hc i pins s σ H E I hf st hg
    subst hP hw hK
    obtain ⟨hz, hti, hto, h1, h2⟩ := st
    obtain ⟨xs, ys, x, y, hqx, hqy, hx, hy⟩ := hg
    obtain ⟨its, rv, p, _⟩ := I.tuple hqx
    obtain ⟨its2, rv2, p2, _⟩ := I.tuple hqy
    obtain ⟨u, hu, ru⟩ := rv.get hx
    obtain ⟨u2, hu2, ru2⟩ := rv2.get hy
    have old_lt : ∀ {b o}, s.heap.get? b = some o → b < s.heap.objs.size := fun q => Heap.lt_size q
    have typ : s.TypeIs (.ref z) "zip" := let ⟨_, _, e, _⟩ := hz; zipType e
    unfold pyNext
    refine wpAny_bind (wpAny_attempt (wpAny_callSpecial?_slot (name := Str.ofString "__next__") typ F.slot_zip_next (wpAny_call_entry F.slot_zip_next typ F.entry_zip_next
      (wpAny_mono (zip_turn (Q := fun v s' => ∃ x H', Inv X pins σ H' s' ∧ RelV x v ∧ (Itzn X.K t1 t2).yld i H x H' ∧ TurnZn z TI TO i1 i2 t1 t2 (i + 1) s'.heap ∧ ∀ b ∈ [z, TI, TO, i1, i2], H' b = none)
        ap ⟨hz, hti, hto, h1, h2, p, p2⟩ (by simpa using hu) (by simpa using hu2) fun h' tk st' t' z' k' => ?_) ?_ (fun _ _ q => q)) (F.args_zip_next_1 _))))
    · have I1 : Inv X pins σ (upd H s.heap.objs.size (.tup [x, y])) { s with heap := h', toks := tk } :=
        I.turnedNew (ch := [z, TO, i1, i2]) (fun c o hc q => k' c o (fun q' => hc (by simp [q'])) (fun q' => hc (by simp [q'])) (fun q' => hc (by simp [q'])) (fun q' => hc (by simp [q'])) q)
          (fun b hb => hf b (by
            have q : b = z ∨ b = TO ∨ b = i1 ∨ b = i2 := by simpa using hb
            rcases q with q | q | q | q <;> simp [q])) (Nat.le_refl _)
          ⟨by show 2 ≤ sizeLine; decide, [u, u2], .cons ru (.cons ru2 .nil), ⟨_, t', rfl, _, rfl⟩⟩
      have lz : ∀ b ∈ [z, TI, TO, i1, i2], b < s.heap.objs.size := by
        intro b hb
        rcases fq_mem hb with q | q | q | q | q <;> subst q
        · exact let ⟨_, _, q, _⟩ := hz; old_lt q
        · exact old_lt hti
        · exact let ⟨_, _, q⟩ := hto; old_lt q
        · exact let ⟨_, q, _⟩ := h1; old_lt q
        · exact let ⟨_, q, _⟩ := h2; old_lt q
      refine ⟨.ref s.heap.objs.size, _, I1, rfl, ⟨s.heap.objs.size, x, y, rfl, I.hok.fresh (Nat.le_refl _), rfl, fun l hl => by rw [I.tuple_inj hl hqx]; exact hx, fun l hl => by rw [I.tuple_inj hl hqy]; exact hy⟩, ⟨st'.zip, st'.ti, st'.to, st'.it1, st'.it2⟩, fun b hb => ?_⟩
      rw [upd_ne (Nat.ne_of_lt (lz b hb))]
      exact (hf b hb).1
    · rintro fin s' ⟨v, rfl, q⟩
      exact ⟨v, rfl, wpAny_pure ⟨v, rfl, wpAny_pure q⟩⟩
  done := by
    intro X hP hw hK hc i pins s σ H E I hf st hg
    subst hP hw hK
    obtain ⟨hz, hti, hto, h1, h2⟩ := st
    obtain ⟨xs, ys, hqx, hqy, hx⟩ := hg
    obtain ⟨its, rv, p, _⟩ := I.tuple hqx
    obtain ⟨its2, rv2, p2, _⟩ := I.tuple hqy
    have l1 := rv.length
    have typ : s.TypeIs (.ref z) "zip" := let ⟨_, _, e, _⟩ := hz; zipType e
    unfold pyNext
    refine wpAny_bind (wpAny_attempt (wpAny_callSpecial?_slot (name := Str.ofString "__next__") typ F.slot_zip_next (wpAny_call_entry F.slot_zip_next typ F.entry_zip_next ?_ (F.args_zip_next_1 _))))
    refine zip_over (I.ok.hd hc) ap ⟨hz, hti, hto, h1, h2, p, p2⟩ (by simp; omega) fun h' x k' hx' => ?_
    obtain ⟨o, ho, hcls⟩ := hx'
    refine wpAny_bind (wpAny_isInstance (T := "StopIteration") (b := true) ⟨o, ho, hcls⟩ isSubtype_stop (wpAny_pure ⟨rfl, ?_⟩))
    exact I.turnedL (t' := s.toks) (ch := [z, TO, i1, i2]) (fun c o hc q => k' c o (fun q' => hc (by simp [q'])) (fun q' => hc (by simp [q'])) (fun q' => hc (by simp [q'])) (fun q' => hc (by simp [q'])) q)
      (fun b hb => hf b (by
        have q : b = z ∨ b = TO ∨ b = i1 ∨ b = i2 := by simpa using hb
        rcases q with q | q | q | q <;> simp [q]))
  self := fun A i s Q E st h => zip_itself st.1 h
def iZn (K : Frag) (ta : TA) : TI := fun σ H R => ta σ H fun vs H1 => ∃ a b xs ys, vs = [.ref a, .ref b] ∧ SqT K H1 a xs ∧ SqT K H1 b ys ∧ R (Itzn K a b) H1
theorem pi_zn {X : Cx} {e e2 : Expr} {ta : TA} {p2 pos2 tpos : Pos} {tn : Str} (hg2 : Gl X "zip") (hm2 : X.mg "zip" = none) (ha : PA X [e, e2] ta)
    (hs : starEach [e, e2] X.env = (false, eval e X.env) :: starEach [e2] X.env := by rfl) (hpl : (backTo pos2 (starEach [e2] X.env)).any (·.1) = false := by rfl) :
    PI X (.Name tn tpos) (.Call (.Name "zip" p2) [e, e2] [] pos2) (iZn X.K ta) := by
  refine ⟨fun pins s σ H R I h => ?_⟩
  refine Call_ (ld_blt I hg2 hm2 PyProof.Rows.boot_zip (PyProof.Rows.callWith_type1 (thn (ha.run pos2 pins s σ H _ I h) ?_) hs hpl))
  rintro us s1 ⟨vs, H1, I1, r1, a, b, xs, ys, rfl, hqx, hqy, q⟩
  obtain ⟨ua, ub, rfl, ra, rb⟩ := vals2 r1
  cases (show ua = Value.ref a from ra)
  cases (show ub = Value.ref b from rb)
  obtain ⟨its, rv, pa, _⟩ := I1.tuple hqx
  obtain ⟨its2, rv2, pb, _⟩ := I1.tuple hqy
  refine zip_begins2 (begins_tuple a its.toArray) (begins_tuple b its2.toArray) pa pb fun h' hz hti hto hi1 hi2 hsz hk => ?_
  have I2 : Inv X pins σ H1 { s1 with heap := h' } := I1.kept (t' := s1.toks) hk
  have za : ZipAt h' (s1.heap.objs.size + 4) (s1.heap.objs.size + 2) (s1.heap.objs.size + 3) := ⟨.none, false, hz, .inl rfl⟩
  refine zip_itself (s := { s1 with heap := h' }) za ?_
  have la : a < s1.heap.objs.size := pa.lt
  have lb : b < s1.heap.objs.size := pb.lt
  refine ⟨s1.heap.objs.size + 4, [s1.heap.objs.size + 4, s1.heap.objs.size + 2, s1.heap.objs.size + 3, s1.heap.objs.size, s1.heap.objs.size + 1], _, _, H1, rfl, I2,
    turn_zn (zip_apart s1.heap.objs.size a b la lb), ⟨za, hti, ⟨_, _, hto⟩, ⟨_, hi1, rfl, rfl⟩, ⟨_, hi2, rfl, rfl⟩⟩, fun c hc => ?_, q⟩
  have q := fq_mem hc
  have hle : s1.heap.objs.size ≤ c := by
    simp only [Addr] at *
    omega
  exact I1.fpOk hle (I1.hok.fresh hle)
theorem a_iZn {K : Frag} {ta : TA} {σ : L2.St} {H : Hp} {R : It → Hp → Prop} (q : ta σ H fun vs H1 => ∃ a b xs ys, vs = [.ref a, .ref b] ∧ SqT K H1 a xs ∧ SqT K H1 b ys ∧ R (Itzn K a b) H1) : iZn K ta σ H R := q
end EL

/- part ZN3 -/
/-! for p in zip(t, u, v) over three tuples: the target is one name -/
namespace EL
open PySem PySem.Spec PyProof.Rows L2
open PySem.W (Frag)
structure Apart3 (z TI TO i1 i2 i3 t1 t2 t3 : Addr) : Prop where
  zTI : z ≠ TI
  zTO : z ≠ TO
  zi1 : z ≠ i1
  zi2 : z ≠ i2
  zi3 : z ≠ i3
  TITO : TI ≠ TO
  TIi1 : TI ≠ i1
  TIi2 : TI ≠ i2
  TIi3 : TI ≠ i3
  TOi1 : TO ≠ i1
  TOi2 : TO ≠ i2
  TOi3 : TO ≠ i3
  i1i2 : i1 ≠ i2
  i1i3 : i1 ≠ i3
  i2i3 : i2 ≠ i3
  zt1 : z ≠ t1
  zt2 : z ≠ t2
  zt3 : z ≠ t3
  TOt1 : TO ≠ t1
  TOt2 : TO ≠ t2
  TOt3 : TO ≠ t3
  i1t1 : i1 ≠ t1
  i1t2 : i1 ≠ t2
  i1t3 : i1 ≠ t3
  i2t1 : i2 ≠ t1
  i2t2 : i2 ≠ t2
  i2t3 : i2 ≠ t3
  i3t1 : i3 ≠ t1
  i3t2 : i3 ≠ t2
  i3t3 : i3 ≠ t3

structure ZipSt3 (h : Heap) (z TI TO i1 i2 i3 t1 t2 t3 : Addr) (xs ys zs : Array Value) (i : Nat) : Prop where
  zip : ZipAt h z TI TO
  ti : IsTupOf3 h TI (.ref i1) (.ref i2) (.ref i3)
  to : ∃ a b c, IsTupOf3 h TO a b c
  it1 : h.IsTupleIter i1 t1 i
  it2 : h.IsTupleIter i2 t2 i
  it3 : h.IsTupleIter i3 t3 i
  tu1 : h.IsTuple t1 xs
  tu2 : h.IsTuple t2 ys
  tu3 : h.IsTuple t3 zs
section
variable {prog : Program} {w : World} {A : Around} {E : Value → Shared → Prop} {s : Shared} {z TI TO i1 i2 i3 t1 t2 t3 : Addr} {xs ys zs : Array Value} {i : Nat}
theorem zip_turn3 {x y v : Value} {Q : Value → Shared → Prop} (ap : Apart3 z TI TO i1 i2 i3 t1 t2 t3) (st : ZipSt3 s.heap z TI TO i1 i2 i3 t1 t2 t3 xs ys zs i) (hx : xs[i]? = some x) (hy : ys[i]? = some y) (hv : zs[i]? = some v)
    (hQ : ∀ h' tk, ZipSt3 h' z TI TO i1 i2 i3 t1 t2 t3 xs ys zs (i + 1) → IsTupOf3 h' s.heap.objs.size x y v → h'.objs.size = s.heap.objs.size + 1 →
      (∀ c o, c ≠ z → c ≠ TO → c ≠ i1 → c ≠ i2 → c ≠ i3 → s.heap.get? c = some o → h'.get? c = some o) → Q (.ref s.heap.objs.size) { s with heap := h', toks := tk }) :
    wpAny (model prog w) A (Builtin.«zip.__next__» ⟨[.ref z], []⟩) (fun fin s' => ∃ v, fin = .done (.ret v) ∧ Q v s') E s := by
  obtain ⟨⟨f0, b, hz, mark⟩, hti, ⟨a0, b0, c0, hto⟩, h1, h2, h3, u1, u2, u3⟩ := st
  obtain ⟨hp, g, d, tk0, os⟩ := s
  replace hz : hp.get? z = some (zipObj f0 b TI TO) := hz
  replace hti : IsTupOf3 hp TI (.ref i1) (.ref i2) (.ref i3) := hti
  replace hto : IsTupOf3 hp TO a0 b0 c0 := hto
  replace h1 : hp.IsTupleIter i1 t1 i := h1
  replace h2 : hp.IsTupleIter i2 t2 i := h2
  replace h3 : hp.IsTupleIter i3 t3 i := h3
  replace u1 : hp.IsTuple t1 xs := u1
  replace u2 : hp.IsTuple t2 ys := u2
  replace u3 : hp.IsTuple t3 zs := u3
  refine wpAny_bind (m := field (.ref z) 2) (wpAny_field hz rfl (x := .bool false) rfl ?_)
  refine wpAny_bind (m := field (.ref z) 3) (wpAny_field hz rfl (x := .ref TI) rfl ?_)
  refine wpAny_bind (wpAny_seqItems hti rfl ?_)
  have lz : z < hp.objs.size := Heap.lt_size hz
  refine wpAny_bind (free_or hz mark ?_ ?_)
  · rw [if_pos rfl]
    refine wpAny_bind (wpAny_rule (wpAny_bind (wpAny_field hz rfl (x := .ref TO) rfl (wpAny_bind (wpAny_setField_rec hz (by simp) fun g0 z0 k0 => ?_)))))
    replace z0 : g0.get? z = some (zipObj .ellipsis b TI TO) := z0
    replace k0 : Heap.SameBut z hp g0 := k0
    refine wpAny_bind ?_
    simp only [List.zipIdx_cons, List.zipIdx_nil, List.forIn_cons, List.forIn_nil]
    -- first
    refine wpAny_bind (wpAny_bind (wpAny_onRaise ?_))
    show wpAny _ _ (Builtin.SmallTypes.nextOf (.ref i1) >>= _) _ _ ⟨g0, g, d, tk0, os⟩
    refine wpAny_bind (drawn (s := ⟨g0, g, d, tk0, os⟩) (h1.at fun o q => ext_of k0 _ _ ap.zi1.symm q) (u1.at fun o q => ext_of k0 _ _ ap.zt1.symm q) hx fun g1 n1 k1 => wpAny_pure ?_)
    replace k1 : Heap.SameBut i1 g0 g1 := k1
    have to1 : IsTupOf3 g1 TO a0 b0 c0 := ext_of k1 _ _ ap.TOi1 (ext_of k0 _ _ ap.zTO.symm hto)
    refine wpAny_bind (wpAny_seqItems (s := ⟨g1, g, d, tk0, os⟩) to1 rfl ?_)
    refine wpAny_bind (updateSeq_IsTupOf3 (s := ⟨g1, g, d, tk0, os⟩) to1 fun g2 to2 k2 => ?_)
    replace k2 : Heap.SameBut TO g1 g2 := k2
    replace to2 : IsTupOf3 g2 TO x b0 c0 := to2
    refine wpAny_bind (wpAny_letGo (wpAny_pure ?_))
    have kA : ∀ c o, c ≠ z → c ≠ TO → c ≠ i1 → hp.get? c = some o → g2.get? c = some o := fun c o cz cT c1 q => ext_of k2 _ _ cT (ext_of k1 _ _ c1 (ext_of k0 _ _ cz q))
    have zz2 : g2.get? z = some (zipObj .ellipsis b TI TO) := ext_of k2 _ _ ap.zTO (ext_of k1 _ _ ap.zi1 z0)
    have nn1 : g2.IsTupleIter i1 t1 (i + 1) := n1.at fun o q => ext_of k2 _ _ ap.TOi1.symm q
    have s2 : g2.objs.size = hp.objs.size := by rw [k2.1, k1.1, k0.1]
    clear to1 k2 n1 k1 z0 k0
    -- second
    refine wpAny_bind (wpAny_bind (wpAny_onRaise ?_))
    show wpAny _ _ (Builtin.SmallTypes.nextOf (.ref i2) >>= _) _ _ ⟨g2, g, d, tk0, os⟩
    refine wpAny_bind (drawn (s := ⟨g2, g, d, tk0, os⟩) (h2.at fun o q => kA _ _ ap.zi2.symm ap.TOi2.symm ap.i1i2.symm q) (u2.at fun o q => kA _ _ ap.zt2.symm ap.TOt2.symm ap.i1t2.symm q) hy fun g3 n3 k3 => wpAny_pure ?_)
    replace k3 : Heap.SameBut i2 g2 g3 := k3
    have to3 : IsTupOf3 g3 TO x b0 c0 := ext_of k3 _ _ ap.TOi2 to2
    refine wpAny_bind (wpAny_seqItems (s := ⟨g3, g, d, tk0, os⟩) to3 rfl ?_)
    refine wpAny_bind (updateSeq_IsTupOf3 (s := ⟨g3, g, d, tk0, os⟩) to3 fun g4 to4 k4 => ?_)
    replace k4 : Heap.SameBut TO g3 g4 := k4
    replace to4 : IsTupOf3 g4 TO x y c0 := to4
    refine wpAny_bind (wpAny_letGo (wpAny_pure ?_))
    have kB : ∀ c o, c ≠ TO → c ≠ i2 → g2.get? c = some o → g4.get? c = some o := fun c o cT c2 q => ext_of k4 _ _ cT (ext_of k3 _ _ c2 q)
    have zz4 : g4.get? z = some (zipObj .ellipsis b TI TO) := kB _ _ ap.zTO ap.zi2 zz2
    have nn1' : g4.IsTupleIter i1 t1 (i + 1) := nn1.at fun o q => kB _ _ ap.TOi1.symm ap.i1i2 q
    have nn2 : g4.IsTupleIter i2 t2 (i + 1) := n3.at fun o q => ext_of k4 _ _ ap.TOi2.symm q
    have s4 : g4.objs.size = hp.objs.size := by rw [k4.1, k3.1, s2]
    clear to3 to2 k4 n3 k3 zz2 nn1
    -- third
    refine wpAny_bind (wpAny_bind (wpAny_onRaise ?_))
    show wpAny _ _ (Builtin.SmallTypes.nextOf (.ref i3) >>= _) _ _ ⟨g4, g, d, tk0, os⟩
    refine wpAny_bind (drawn (s := ⟨g4, g, d, tk0, os⟩) (h3.at fun o q => kB _ _ ap.TOi3.symm ap.i2i3.symm (kA _ _ ap.zi3.symm ap.TOi3.symm ap.i1i3.symm q)) (u3.at fun o q => kB _ _ ap.TOt3.symm ap.i2t3.symm (kA _ _ ap.zt3.symm ap.TOt3.symm ap.i1t3.symm q)) hv fun g5 n5 k5 => wpAny_pure ?_)
    replace k5 : Heap.SameBut i3 g4 g5 := k5
    have to5 : IsTupOf3 g5 TO x y c0 := ext_of k5 _ _ ap.TOi3 to4
    refine wpAny_bind (wpAny_seqItems (s := ⟨g5, g, d, tk0, os⟩) to5 rfl ?_)
    refine wpAny_bind (updateSeq_IsTupOf3 (s := ⟨g5, g, d, tk0, os⟩) to5 fun g6 to6 k6 => ?_)
    replace k6 : Heap.SameBut TO g5 g6 := k6
    replace to6 : IsTupOf3 g6 TO x y v := to6
    refine wpAny_bind (wpAny_letGo (wpAny_pure (wpAny_pure ?_)))
    have kC : ∀ c o, c ≠ TO → c ≠ i3 → g4.get? c = some o → g6.get? c = some o := fun c o cT c2 q => ext_of k6 _ _ cT (ext_of k5 _ _ c2 q)
    have zz6 : g6.get? z = some (zipObj .ellipsis b TI TO) := kC _ _ ap.zTO ap.zi3 zz4
    have m1 : g6.IsTupleIter i1 t1 (i + 1) := nn1'.at fun o q => kC _ _ ap.TOi1.symm ap.i1i3 q
    have m2 : g6.IsTupleIter i2 t2 (i + 1) := nn2.at fun o q => kC _ _ ap.TOi2.symm ap.i2i3 q
    have m3 : g6.IsTupleIter i3 t3 (i + 1) := n5.at fun o q => ext_of k6 _ _ ap.TOi3.symm q
    have s6 : g6.objs.size = hp.objs.size := by rw [k6.1, k5.1, s4]
    have kD : ∀ c o, c ≠ z → c ≠ TO → c ≠ i1 → c ≠ i2 → c ≠ i3 → hp.get? c = some o → g6.get? c = some o := fun c o cz cT c1 c2 c3 q => kC _ _ cT c3 (kB _ _ cT c2 (kA _ _ cz cT c1 q))
    clear to5 to4 k6 n5 k5 zz4 nn1' nn2
    refine wpAny_bind (wpAny_seqItems (s := ⟨g6, g, d, tk0, os⟩) to6 rfl (wpAny_bind (wpAny_newTuple ?_)))
    generalize e7 : g6.push { cls := .type "tuple", data := .seq (#[x, y, v] : Array Value) } = g7
    have up7 : ∀ c o, g6.get? c = some o → g7.get? c = some o := fun c o q => by rw [← e7]; exact Heap.get?_push_of_some _ q
    have tt7 : IsTupOf3 g7 hp.objs.size x y v := by rw [← e7, ← s6]; exact Heap.get?_push_size _ rfl
    have z7 : g7.objs.size = hp.objs.size + 1 := by rw [← e7, Heap.size_push, s6]
    refine wpAny_bind ?_
    show wpAny _ _ (Builtin.SmallTypes.ownedTupleHandOut (.ref z) (.ref g6.objs.size)) _ _ _
    unfold Builtin.SmallTypes.ownedTupleHandOut
    have zz7 : g7.get? z = some (zipObj .ellipsis b TI TO) := up7 _ _ zz6
    refine wpAny_bind (wpAny_setField_rec zz7 (by simp) fun g8 z8 k8 => ?_)
    replace k8 : Heap.SameBut z g7 g8 := k8
    refine wpAny_setField_rec z8 (by simp) fun g9 z9 k9 => ?_
    replace k9 : Heap.SameBut z g8 g9 := k9
    have up9 : ∀ c o, c ≠ z → g6.get? c = some o → g9.get? c = some o := fun c o cz q => ext_of k9 _ _ cz (ext_of k8 _ _ cz (up7 _ _ q))
    have nz : hp.objs.size ≠ z := Nat.ne_of_gt lz
    refine wpAny_pure ⟨_, rfl, ?_⟩
    show Q (.ref g6.objs.size) ⟨g9, g, d, tk0, os⟩
    rw [s6]
    refine hQ g9 tk0 ⟨⟨rawInt g6.objs.size, false, z9, .inr ⟨_, rfl⟩⟩, ?_, ⟨x, y, v, up9 _ _ ap.zTO.symm to6⟩, ?_, ?_, ?_, ?_, ?_, ?_⟩ ?_ ?_ ?_
    · exact up9 _ _ ap.zTI.symm (kD _ _ ap.zTI.symm ap.TITO ap.TIi1 ap.TIi2 ap.TIi3 hti)
    · exact m1.at fun o q => up9 _ _ ap.zi1.symm q
    · exact m2.at fun o q => up9 _ _ ap.zi2.symm q
    · exact m3.at fun o q => up9 _ _ ap.zi3.symm q
    · exact u1.at fun o q => up9 _ _ ap.zt1.symm (kD _ _ ap.zt1.symm ap.TOt1.symm ap.i1t1.symm ap.i2t1.symm ap.i3t1.symm q)
    · exact u2.at fun o q => up9 _ _ ap.zt2.symm (kD _ _ ap.zt2.symm ap.TOt2.symm ap.i1t2.symm ap.i2t2.symm ap.i3t2.symm q)
    · exact u3.at fun o q => up9 _ _ ap.zt3.symm (kD _ _ ap.zt3.symm ap.TOt3.symm ap.i1t3.symm ap.i2t3.symm ap.i3t3.symm q)
    · exact ext_of k9 _ _ nz (ext_of k8 _ _ nz tt7)
    · rw [k9.1, k8.1, z7]
    · exact fun c o cz cT c1 c2 c3 q => up9 _ _ cz (kD c o cz cT c1 c2 c3 q)
  · intro h0 b' z0 s0 k0
    replace s0 : h0.objs.size = hp.objs.size := s0
    replace k0 : ∀ c o, c ≠ z → hp.get? c = some o → h0.get? c = some o := k0
    rw [if_neg (by decide)]
    refine wpAny_bind ?_
    simp only [List.forIn_toArray, List.forIn_cons, List.forIn_nil]
    refine wpAny_bind (wpAny_bind (wpAny_holding ?_))
    show wpAny _ _ (Builtin.SmallTypes.nextOf (.ref i1) >>= _) _ _ ⟨h0, g, d, tk0, os⟩
    refine wpAny_bind (drawn (s := ⟨h0, g, d, tk0, os⟩) (h1.at fun o q => k0 _ _ ap.zi1.symm q) (u1.at fun o q => k0 _ _ ap.zt1.symm q) hx fun g1 n1 k1 => wpAny_pure ?_)
    replace k1 : Heap.SameBut i1 h0 g1 := k1
    refine wpAny_pure ?_
    refine wpAny_bind (wpAny_bind (wpAny_holding ?_))
    show wpAny _ _ (Builtin.SmallTypes.nextOf (.ref i2) >>= _) _ _ ⟨g1, g, d, tk0, os⟩
    refine wpAny_bind (drawn (s := ⟨g1, g, d, tk0, os⟩) (h2.at fun o q => ext_of k1 _ _ ap.i1i2.symm (k0 _ _ ap.zi2.symm q)) (u2.at fun o q => ext_of k1 _ _ ap.i1t2.symm (k0 _ _ ap.zt2.symm q)) hy fun g2 n2 k2 => wpAny_pure ?_)
    replace k2 : Heap.SameBut i2 g1 g2 := k2
    refine wpAny_pure ?_
    refine wpAny_bind (wpAny_bind (wpAny_holding ?_))
    show wpAny _ _ (Builtin.SmallTypes.nextOf (.ref i3) >>= _) _ _ ⟨g2, g, d, tk0, os⟩
    refine wpAny_bind (drawn (s := ⟨g2, g, d, tk0, os⟩) (h3.at fun o q => ext_of k2 _ _ ap.i2i3.symm (ext_of k1 _ _ ap.i1i3.symm (k0 _ _ ap.zi3.symm q))) (u3.at fun o q => ext_of k2 _ _ ap.i2t3.symm (ext_of k1 _ _ ap.i1t3.symm (k0 _ _ ap.zt3.symm q))) hv fun g3 n3 k3 => wpAny_pure ?_)
    replace k3 : Heap.SameBut i3 g2 g3 := k3
    refine wpAny_pure (wpAny_pure ?_)
    refine wpAny_bind (wpAny_newTuple ?_ (by show 3 ≤ sizeLine; decide))
    have z2 : g3.objs.size = hp.objs.size := by rw [k3.1, k2.1, k1.1, s0]
    have up : ∀ c o, c ≠ z → c ≠ i1 → c ≠ i2 → c ≠ i3 → hp.get? c = some o → (g3.push { cls := .type "tuple", data := .seq (#[x, y, v] : Array Value) }).get? c = some o := fun c o cz c1 c2 c3 q =>
      Heap.get?_push_of_some _ (ext_of k3 _ _ c3 (ext_of k2 _ _ c2 (ext_of k1 _ _ c1 (k0 _ _ cz q))))
    refine wpAny_pure ⟨_, rfl, ?_⟩
    show Q (.ref g3.objs.size) ⟨g3.push { cls := .type "tuple", data := .seq (#[x, y, v] : Array Value) }, g, d, tk0, os⟩
    rw [z2]
    refine hQ _ tk0 ⟨⟨f0, b', Heap.get?_push_of_some _ (ext_of k3 _ _ ap.zi3 (ext_of k2 _ _ ap.zi2 (ext_of k1 _ _ ap.zi1 z0))), mark⟩, up _ _ ap.zTI.symm ap.TIi1 ap.TIi2 ap.TIi3 hti, ⟨a0, b0, c0, up _ _ ap.zTO.symm ap.TOi1 ap.TOi2 ap.TOi3 hto⟩, ?_, ?_, ?_, ?_, ?_, ?_⟩ ?_ ?_ ?_
    · exact n1.at fun o q => Heap.get?_push_of_some _ (ext_of k3 _ _ ap.i1i3 (ext_of k2 _ _ ap.i1i2 q))
    · exact n2.at fun o q => Heap.get?_push_of_some _ (ext_of k3 _ _ ap.i2i3 q)
    · exact n3.at fun o q => Heap.get?_push_of_some _ q
    · exact u1.at fun o q => up _ _ ap.zt1.symm ap.i1t1.symm ap.i2t1.symm ap.i3t1.symm q
    · exact u2.at fun o q => up _ _ ap.zt2.symm ap.i1t2.symm ap.i2t2.symm ap.i3t2.symm q
    · exact u3.at fun o q => up _ _ ap.zt3.symm ap.i1t3.symm ap.i2t3.symm ap.i3t3.symm q
    · have q := Heap.get?_push_size g3 (o := { cls := .type "tuple", data := .seq (#[x, y, v] : Array Value) }) rfl
      rw [z2] at q
      exact q
    · rw [Heap.size_push, z2]
    · exact fun c o cz cT c1 c2 c3 q => up c o cz c1 c2 c3 q
theorem zip_over3 {Q : Fin → Shared → Prop} (hh : A.handled = none) (ap : Apart3 z TI TO i1 i2 i3 t1 t2 t3) (st : ZipSt3 s.heap z TI TO i1 i2 i3 t1 t2 t3 xs ys zs i) (hx : xs[i]? = none)
    (hE : ∀ h' e, (∀ c o, c ≠ z → c ≠ TO → c ≠ i1 → c ≠ i2 → c ≠ i3 → s.heap.get? c = some o → h'.get? c = some o) → (∃ o, h'.get? e = some o ∧ o.cls = .type "StopIteration") → E (.ref e) { s with heap := h' }) :
    wpAny (model prog w) A (Builtin.«zip.__next__» ⟨[.ref z], []⟩) Q E s := by
  obtain ⟨⟨f0, b, hz, mark⟩, hti, ⟨a0, b0, c0, hto⟩, h1, h2, h3, u1, u2, u3⟩ := st
  obtain ⟨hp, g, d, tk0, os⟩ := s
  replace hz : hp.get? z = some (zipObj f0 b TI TO) := hz
  replace h1 : hp.IsTupleIter i1 t1 i := h1
  replace u1 : hp.IsTuple t1 xs := u1
  refine wpAny_bind (m := field (.ref z) 2) (wpAny_field hz rfl (x := .bool false) rfl ?_)
  refine wpAny_bind (m := field (.ref z) 3) (wpAny_field hz rfl (x := .ref TI) rfl ?_)
  refine wpAny_bind (wpAny_seqItems hti rfl ?_)
  refine wpAny_bind (free_or hz mark ?_ ?_)
  · rw [if_pos rfl]
    refine wpAny_bind (wpAny_rule (wpAny_bind (wpAny_field hz rfl (x := .ref TO) rfl (wpAny_bind (wpAny_setField_rec hz (by simp) fun g0 z0 k0 => ?_)))))
    replace z0 : g0.get? z = some (zipObj .ellipsis b TI TO) := z0
    replace k0 : Heap.SameBut z hp g0 := k0
    refine wpAny_bind ?_
    simp only [List.zipIdx_cons, List.zipIdx_nil, List.forIn_cons, List.forIn_nil]
    refine wpAny_bind (wpAny_bind (wpAny_onRaise ?_))
    show wpAny _ _ (Builtin.SmallTypes.nextOf (.ref i1) >>= _) _ _ ⟨g0, g, d, tk0, os⟩
    refine wpAny_bind (wpAny_nextOf_tuple_end (s := ⟨g0, g, d, tk0, os⟩) hh (h1.at fun o q => ext_of k0 _ _ ap.zi1.symm q) (u1.at fun o q => ext_of k0 _ _ ap.zt1.symm q) hx fun g1 e k1 he => ?_)
    replace k1 : Heap.ExtBut i1 g0 g1 := k1
    obtain ⟨oe, he, hc⟩ := he
    replace he : g1.get? e = some oe := he
    have z1 : g1.get? z = some (zipObj .ellipsis b TI TO) := k1 _ _ ap.zi1 z0
    have ez : e ≠ z := by
      rintro rfl
      rw [z1] at he
      cases he
      simp at hc
    refine wpAny_setField_rec (s := ⟨g1, g, d, tk0, os⟩) z1 (by simp) fun g2 _ k2 => ?_
    replace k2 : Heap.SameBut z g1 g2 := k2
    exact hE g2 e (fun c o cz cT c1 c2 c3 q => ext_of k2 _ _ cz (k1 _ _ c1 (ext_of k0 _ _ cz q))) ⟨oe, ext_of k2 _ _ ez he, hc⟩
  · intro h0 b' z0 s0 k0
    replace k0 : ∀ c o, c ≠ z → hp.get? c = some o → h0.get? c = some o := k0
    rw [if_neg (by decide)]
    refine wpAny_bind ?_
    simp only [List.forIn_toArray, List.forIn_cons, List.forIn_nil]
    refine wpAny_bind (wpAny_bind (wpAny_holding ?_))
    show wpAny _ _ (Builtin.SmallTypes.nextOf (.ref i1) >>= _) _ _ ⟨h0, g, d, tk0, os⟩
    refine wpAny_bind (wpAny_nextOf_tuple_end (s := ⟨h0, g, d, tk0, os⟩) hh (h1.at fun o q => k0 _ _ ap.zi1.symm q) (u1.at fun o q => k0 _ _ ap.zt1.symm q) hx fun g1 e k1 he => ?_)
    replace k1 : Heap.ExtBut i1 h0 g1 := k1
    exact hE g1 e (fun c o cz cT c1 c2 c3 q => k1 _ _ c1 (k0 _ _ cz q)) he
end
/-- each turn: a new tuple of the three items -/
def Itz3 (K : Frag) (a b c : Addr) : It :=
  ⟨fun i H => ∃ (xs ys zs : List V) (x y v : V), SqT K H a xs ∧ SqT K H b ys ∧ SqT K H c zs ∧ xs[i]? = some x ∧ ys[i]? = some y ∧ zs[i]? = some v,
    fun i H u H' => ∃ (T : Addr) (x y v : V), u = .ref T ∧ H T = none ∧ H' = upd H T (.tup [x, y, v]) ∧ (∀ xs, SqT K H a xs → xs[i]? = some x) ∧ (∀ ys, SqT K H b ys → ys[i]? = some y) ∧ ∀ zs, SqT K H c zs → zs[i]? = some v,
    fun i H => ∃ xs ys zs : List V, SqT K H a xs ∧ SqT K H b ys ∧ SqT K H c zs ∧ xs.length ≤ i⟩
def TurnZ3 (z TI TO i1 i2 i3 t1 t2 t3 : Addr) (i : Nat) (h : Heap) : Prop :=
  ZipAt h z TI TO ∧ IsTupOf3 h TI (.ref i1) (.ref i2) (.ref i3) ∧ (∃ a b c, IsTupOf3 h TO a b c) ∧ h.IsTupleIter i1 t1 i ∧ h.IsTupleIter i2 t2 i ∧ h.IsTupleIter i3 t3 i
theorem fr_mem {z TI TO i1 i2 i3 b : Addr} (h : b ∈ [z, TI, TO, i1, i2, i3]) : b = z ∨ b = TI ∨ b = TO ∨ b = i1 ∨ b = i2 ∨ b = i3 := by simpa using h
theorem turn_z3 {P : Program} {w : World} {K : Frag} {tn : Str} {tpos : Pos} {z TI TO i1 i2 i3 t1 t2 t3 : Addr} (ap : Apart3 z TI TO i1 i2 i3 t1 t2 t3) :
    Turn P w K (.Name tn tpos) (Itz3 K t1 t2 t3) [z, TI, TO, i1, i2, i3] z (TurnZ3 z TI TO i1 i2 i3 t1 t2 t3) where
  mem := by simp
  obj := fun i h st b hb => by
    obtain ⟨⟨f0, b0, hz, _⟩, hti, ⟨a1, a2, a3, hto⟩, ⟨o1, q1, _, d1⟩, ⟨o2, q2, _, d2⟩, ⟨o3, q3, _, d3⟩⟩ := st
    rcases fr_mem hb with q | q | q | q | q | q <;> subst q
    · exact ⟨_, hz, fun v q => nomatch q⟩
    · exact ⟨_, hti, fun v q => nomatch q⟩
    · exact ⟨_, hto, fun v q => nomatch q⟩
    · exact ⟨o1, q1, fun v q => by rw [d1] at q; cases q⟩
    · exact ⟨o2, q2, fun v q => by rw [d2] at q; cases q⟩
    · exact ⟨o3, q3, fun v q => by rw [d3] at q; cases q⟩
  keep := fun i h h' st kp => by
    obtain ⟨⟨f0, b0, hz, m⟩, hti, ⟨a1, a2, a3, hto⟩, h1, h2, h3⟩ := st
    exact ⟨⟨f0, b0, kp z (by simp) _ hz, m⟩, kp TI (by simp) _ hti, ⟨a1, a2, a3, kp TO (by simp) _ hto⟩, h1.at fun o q => kp i1 (by simp) o q, h2.at fun o q => kp i2 (by simp) o q, h3.at fun o q => kp i3 (by simp) o q⟩
  item := by
    intro X hP hw hK hc i pins s σ H E I hf st hg
    subst hP hw hK
    obtain ⟨hz, hti, hto, h1, h2, h3⟩ := st
    obtain ⟨xs, ys, zs, x, y, v, hqx, hqy, hqz, hx, hy, hv⟩ := hg
    obtain ⟨its, rv, p, _⟩ := I.tuple hqx
    obtain ⟨its2, rv2, p2, _⟩ := I.tuple hqy
    obtain ⟨its3, rv3, p3, _⟩ := I.tuple hqz
    obtain ⟨u, hu, ru⟩ := rv.get hx
    obtain ⟨u2, hu2, ru2⟩ := rv2.get hy
    obtain ⟨u3, hu3, ru3⟩ := rv3.get hv
    have old_lt : ∀ {b o}, s.heap.get? b = some o → b < s.heap.objs.size := fun q => Heap.lt_size q
    have typ : s.TypeIs (.ref z) "zip" := let ⟨_, _, e, _⟩ := hz; zipType e
    unfold pyNext
    refine wpAny_bind (wpAny_attempt (wpAny_callSpecial?_slot (name := Str.ofString "__next__") typ F.slot_zip_next (wpAny_call_entry F.slot_zip_next typ F.entry_zip_next
      (wpAny_mono (zip_turn3 (Q := fun v s' => ∃ x H', Inv X pins σ H' s' ∧ RelV x v ∧ (Itz3 X.K t1 t2 t3).yld i H x H' ∧ TurnZ3 z TI TO i1 i2 i3 t1 t2 t3 (i + 1) s'.heap ∧ ∀ b ∈ [z, TI, TO, i1, i2, i3], H' b = none)
        ap ⟨hz, hti, hto, h1, h2, h3, p, p2, p3⟩ (by simpa using hu) (by simpa using hu2) (by simpa using hu3) fun h' tk st' t' z' k' => ?_) ?_ (fun _ _ q => q)) (F.args_zip_next_1 _))))
    · have I1 : Inv X pins σ (upd H s.heap.objs.size (.tup [x, y, v])) { s with heap := h', toks := tk } :=
        I.turnedNew (ch := [z, TO, i1, i2, i3]) (fun c o hc q => k' c o (fun q' => hc (by simp [q'])) (fun q' => hc (by simp [q'])) (fun q' => hc (by simp [q'])) (fun q' => hc (by simp [q'])) (fun q' => hc (by simp [q'])) q)
          (fun b hb => hf b (by
            have q : b = z ∨ b = TO ∨ b = i1 ∨ b = i2 ∨ b = i3 := by simpa using hb
            rcases q with q | q | q | q | q <;> simp [q])) (Nat.le_refl _)
          ⟨by show 3 ≤ sizeLine; decide, [u, u2, u3], .cons ru (.cons ru2 (.cons ru3 .nil)), ⟨_, t', rfl, _, rfl⟩⟩
      have lz : ∀ b ∈ [z, TI, TO, i1, i2, i3], b < s.heap.objs.size := by
        intro b hb
        rcases fr_mem hb with q | q | q | q | q | q <;> subst q
        · exact let ⟨_, _, q, _⟩ := hz; old_lt q
        · exact old_lt hti
        · exact let ⟨_, _, _, q⟩ := hto; old_lt q
        · exact let ⟨_, q, _⟩ := h1; old_lt q
        · exact let ⟨_, q, _⟩ := h2; old_lt q
        · exact let ⟨_, q, _⟩ := h3; old_lt q
      refine ⟨.ref s.heap.objs.size, _, I1, rfl, ⟨s.heap.objs.size, x, y, v, rfl, I.hok.fresh (Nat.le_refl _), rfl, fun l hl => by rw [I.tuple_inj hl hqx]; exact hx, fun l hl => by rw [I.tuple_inj hl hqy]; exact hy, fun l hl => by rw [I.tuple_inj hl hqz]; exact hv⟩, ⟨st'.zip, st'.ti, st'.to, st'.it1, st'.it2, st'.it3⟩, fun b hb => ?_⟩
      rw [upd_ne (Nat.ne_of_lt (lz b hb))]
      exact (hf b hb).1
    · rintro fin s' ⟨v, rfl, q⟩
      exact ⟨v, rfl, wpAny_pure ⟨v, rfl, wpAny_pure q⟩⟩
  done := by
    intro X hP hw hK hc i pins s σ H E I hf st hg
    subst hP hw hK
    obtain ⟨hz, hti, hto, h1, h2, h3⟩ := st
    obtain ⟨xs, ys, zs, hqx, hqy, hqz, hx⟩ := hg
    obtain ⟨its, rv, p, _⟩ := I.tuple hqx
    obtain ⟨its2, rv2, p2, _⟩ := I.tuple hqy
    obtain ⟨its3, rv3, p3, _⟩ := I.tuple hqz
    have l1 := rv.length
    have typ : s.TypeIs (.ref z) "zip" := let ⟨_, _, e, _⟩ := hz; zipType e
    unfold pyNext
    refine wpAny_bind (wpAny_attempt (wpAny_callSpecial?_slot (name := Str.ofString "__next__") typ F.slot_zip_next (wpAny_call_entry F.slot_zip_next typ F.entry_zip_next ?_ (F.args_zip_next_1 _))))
    refine zip_over3 (I.ok.hd hc) ap ⟨hz, hti, hto, h1, h2, h3, p, p2, p3⟩ (by simp; omega) fun h' x k' hx' => ?_
    obtain ⟨o, ho, hcls⟩ := hx'
    refine wpAny_bind (wpAny_isInstance (T := "StopIteration") (b := true) ⟨o, ho, hcls⟩ isSubtype_stop (wpAny_pure ⟨rfl, ?_⟩))
    exact I.turnedL (t' := s.toks) (ch := [z, TO, i1, i2, i3]) (fun c o hc q => k' c o (fun q' => hc (by simp [q'])) (fun q' => hc (by simp [q'])) (fun q' => hc (by simp [q'])) (fun q' => hc (by simp [q'])) (fun q' => hc (by simp [q'])) q)
      (fun b hb => hf b (by
        have q : b = z ∨ b = TO ∨ b = i1 ∨ b = i2 ∨ b = i3 := by simpa using hb
        rcases q with q | q | q | q | q <;> simp [q]))
  self := fun A i s Q E st h => zip_itself st.1 h
theorem zip_apart3 (N a b c : Addr) (ha : a < N) (hb : b < N) (hc : c < N) : Apart3 (N + 5) (N + 3) (N + 4) N (N + 1) (N + 2) a b c := by
  constructor <;> intro q <;> simp only [Addr] at * <;> omega
def iZ3 (K : Frag) (ta : TA) : TI := fun σ H R => ta σ H fun vs H1 => ∃ a b c xs ys zs, vs = [.ref a, .ref b, .ref c] ∧ SqT K H1 a xs ∧ SqT K H1 b ys ∧ SqT K H1 c zs ∧ R (Itz3 K a b c) H1
theorem vals3 {x y v : V} {us : List Value} (h : Vals [x, y, v] us) : ∃ a b c, us = [a, b, c] ∧ RelV x a ∧ RelV y b ∧ RelV v c := by
  cases h with
  | cons r1 h =>
    cases h with
    | cons r2 h =>
      cases h with
      | cons r3 h =>
        cases h
        exact ⟨_, _, _, rfl, r1, r2, r3⟩
theorem pi_z3 {X : Cx} {e e2 e3 : Expr} {ta : TA} {p2 pos2 tpos : Pos} {tn : Str} (hg2 : Gl X "zip") (hm2 : X.mg "zip" = none) (ha : PA X [e, e2, e3] ta)
    (hs : starEach [e, e2, e3] X.env = (false, eval e X.env) :: starEach [e2, e3] X.env := by rfl) (hpl : (backTo pos2 (starEach [e2, e3] X.env)).any (·.1) = false := by rfl) :
    PI X (.Name tn tpos) (.Call (.Name "zip" p2) [e, e2, e3] [] pos2) (iZ3 X.K ta) := by
  refine ⟨fun pins s σ H R I h => ?_⟩
  refine Call_ (ld_blt I hg2 hm2 PyProof.Rows.boot_zip (PyProof.Rows.callWith_type1 (thn (ha.run pos2 pins s σ H _ I h) ?_) hs hpl))
  rintro us s1 ⟨vs, H1, I1, r1, a, b, c, xs, ys, zs, rfl, hqx, hqy, hqz, q⟩
  obtain ⟨ua, ub, uc, rfl, ra, rb, rc⟩ := vals3 r1
  cases (show ua = Value.ref a from ra)
  cases (show ub = Value.ref b from rb)
  cases (show uc = Value.ref c from rc)
  obtain ⟨its, rv, pa, _⟩ := I1.tuple hqx
  obtain ⟨its2, rv2, pb, _⟩ := I1.tuple hqy
  obtain ⟨its3, rv3, pc, _⟩ := I1.tuple hqz
  refine zip_begins3 (begins_tuple a its.toArray) (begins_tuple b its2.toArray) (begins_tuple c its3.toArray) pa pb pc fun h' hz hti hto hi1 hi2 hi3 hsz hk => ?_
  have I2 : Inv X pins σ H1 { s1 with heap := h' } := I1.kept (t' := s1.toks) hk
  have za : ZipAt h' (s1.heap.objs.size + 5) (s1.heap.objs.size + 3) (s1.heap.objs.size + 4) := ⟨.none, false, hz, .inl rfl⟩
  refine zip_itself (s := { s1 with heap := h' }) za ?_
  have la : a < s1.heap.objs.size := pa.lt
  have lb : b < s1.heap.objs.size := pb.lt
  have lc : c < s1.heap.objs.size := pc.lt
  refine ⟨s1.heap.objs.size + 5, [s1.heap.objs.size + 5, s1.heap.objs.size + 3, s1.heap.objs.size + 4, s1.heap.objs.size, s1.heap.objs.size + 1, s1.heap.objs.size + 2], _, _, H1, rfl, I2,
    turn_z3 (zip_apart3 s1.heap.objs.size a b c la lb lc), ⟨za, hti, ⟨_, _, _, hto⟩, ⟨_, hi1, rfl, rfl⟩, ⟨_, hi2, rfl, rfl⟩, ⟨_, hi3, rfl, rfl⟩⟩, fun d hd => ?_, q⟩
  have q := fr_mem hd
  have hle : s1.heap.objs.size ≤ d := by
    simp only [Addr] at *
    omega
  exact I1.fpOk hle (I1.hok.fresh hle)
theorem a_iZ3 {K : Frag} {ta : TA} {σ : L2.St} {H : Hp} {R : It → Hp → Prop} (q : ta σ H fun vs H1 => ∃ a b c xs ys zs, vs = [.ref a, .ref b, .ref c] ∧ SqT K H1 a xs ∧ SqT K H1 b ys ∧ SqT K H1 c zs ∧ R (Itz3 K a b c) H1) : iZ3 K ta σ H R := q
def Y2n (xs ys : List V) : Nat → Hp → V → Hp → Prop := fun i H v H' => ∃ T x y, v = V.ref T ∧ H T = none ∧ H' = upd H T (.tup [x, y]) ∧ xs[i]? = some x ∧ ys[i]? = some y
theorem walk_zn {K : Frag} {a b : Addr} {xs ys : List V} (hl : xs.length = ys.length) : Walk (Itzn K a b) xs.length (fun H => SqT K H a xs ∧ SqT K H b ys) (Y2n xs ys) :=
  ⟨fun i H hi h => ⟨xs, ys, xs[i], ys[i], h.1, h.2, List.getElem?_eq_getElem hi, List.getElem?_eq_getElem (hl ▸ hi)⟩, fun H h => ⟨xs, ys, h.1, h.2, Nat.le_refl _⟩,
   fun i H x H' hi h ⟨T, y, z, e, h0, hH, hy, hz⟩ => ⟨T, y, z, e, h0, hH, hy xs h.1, hz ys h.2⟩⟩
def Y3n (xs ys zs : List V) : Nat → Hp → V → Hp → Prop := fun i H u H' => ∃ T x y v, u = V.ref T ∧ H T = none ∧ H' = upd H T (.tup [x, y, v]) ∧ xs[i]? = some x ∧ ys[i]? = some y ∧ zs[i]? = some v
theorem walk_z3 {K : Frag} {a b c : Addr} {xs ys zs : List V} (hl : xs.length = ys.length) (hm : xs.length = zs.length) : Walk (Itz3 K a b c) xs.length (fun H => SqT K H a xs ∧ SqT K H b ys ∧ SqT K H c zs) (Y3n xs ys zs) :=
  ⟨fun i H hi h => ⟨xs, ys, zs, xs[i], ys[i], zs[i], h.1, h.2.1, h.2.2, List.getElem?_eq_getElem hi, List.getElem?_eq_getElem (hl ▸ hi), List.getElem?_eq_getElem (hm ▸ hi)⟩, fun H h => ⟨xs, ys, zs, h.1, h.2.1, h.2.2, Nat.le_refl _⟩,
   fun i H x H' hi h ⟨T, y, z, v, e, h0, hH, hy, hz, hv⟩ => ⟨T, y, z, v, e, h0, hH, hy xs h.1, hz ys h.2.1, hv zs h.2.2⟩⟩
end EL

/- part SRT -/
/-! sorted(t), max(t), min(t) of a tuple t of whole numbers; sorted(t) of a tuple of texts -/
namespace EL
open PySem PySem.Spec PyProof.Rows L2
open PySem.W (Frag)
section
variable {prog : Program} {w : World} {A : Around} {E : Value → Shared → Prop} {s : Shared}
theorem sorted_tup {l : Addr} {vs : List Value} {Q : Value → Shared → Prop} (hl : s.heap.IsTuple l vs.toArray) (hz : vs.length ≤ sizeLine)
    (hs : ∀ g : Heap, (∀ b o, s.heap.get? b = some o → g.get? b = some o) → (g.push (seqObj "list" vs.toArray 0)).get? g.objs.size = some (seqObj "list" vs.toArray 0) →
      wpAny (model prog w) A.in1.in1 (Builtin.«list.sort» ⟨[.ref g.objs.size], []⟩) (fun fin s' => ∃ v, fin = .done (.ret v) ∧ Q (.ref g.objs.size) s') E { s with heap := g.push (seqObj "list" vs.toArray 0) }) :
    wpAny (model prog w) A (call (.builtin "sorted") [.ref l]) Q E s := by
  obtain ⟨o, ho, hc, n, hd⟩ := hl
  refine Calls.call_function_entry kind_sorted plain_sorted entry_sorted (args_sorted1 (.ref l)) ?_
  refine wpAny_bind (wpAny_pure (wpAny_bind ?_))
  refine wpAny_collect_seq l (.inr rfl) ho hc hd (fun g kg => ?_) (by simpa using hz)
  refine wpAny_bind (wpAny_newList ?_ (by simpa using hz))
  have hp : (g.push (seqObj "list" vs.toArray 0)).get? g.objs.size = some (seqObj "list" vs.toArray 0) := Heap.get?_push_size g rfl
  refine wpAny_bind (wpAny_holding (wpAny_call_entry slot_list_sort ⟨_, hp, rfl⟩ entry_list_sort ?_ (args_list_sort (.ref g.objs.size))))
  refine wpAny_mono (hs g kg hp) ?_ (fun _ _ q => q)
  rintro fin s' ⟨v, rfl, q⟩
  exact ⟨v, rfl, wpAny_pure ⟨_, rfl, q⟩⟩
theorem sorted_keep {g : Heap} {vs : List Value} {out : Array Value} {b : Addr} {o : Obj} (h : g.get? b = some o) : (sortedHeap (g.push (seqObj "list" vs.toArray 0)) g.objs.size vs out).get? b = some o := by
  have lt := Heap.lt_size h
  exact (sortedHeap_old (Nat.ne_of_lt lt) (by rw [Heap.size_push]; exact Nat.lt_succ_of_lt lt)).trans (Heap.get?_push_of_some _ h)
end
def rSortedT (K : Frag) : List V → Hp → VK → Prop := fun vs H Q => ∃ (a : Addr) (ns : List Int), vs = [.ref a] ∧ SqT K H a (ns.map V.int) ∧ ns.length < 64 ∧ ∀ (ns' : List Int) (p : Addr), ns'.Perm ns → ns'.Pairwise (fun x y => x ≤ y) → H p = none → Q (.ref p) (upd H p (.lst (ns'.map V.int)))
def rSortedTS (K : Frag) : List V → Hp → VK → Prop := fun vs H Q => ∃ (a : Addr) (xs : List Str), vs = [.ref a] ∧ SqT K H a (xs.map V.str) ∧ xs.length < 64 ∧ ∀ (ys : List Str) (p : Addr), ys.Perm xs → sortedS ys = true → H p = none → Q (.ref p) (upd H p (.lst (ys.map V.str)))
theorem cr_sortedTup {X : Cx} : CallR X (.builtin "sorted") (rSortedT X.K) := by
  intro pins s σ H vs us Q I r h
  obtain ⟨a, ns, rfl, ha, h64, q⟩ := h
  obtain ⟨its, rv, p, hz⟩ := I.tuple ha
  rw [Vals.ref1 r]
  have hi := Vals.ints rv
  refine sorted_tup p (by rw [rv.length] at hz; exact hz) fun g kg gb => ?_
  have I' : Inv X pins σ H { s with heap := g } := I.kept (t' := s.toks) kg
  refine list_sort_tree gb hi (by rw [IntsAre.length hi]; exact h64) fun out ns' h1 h2 h3 => ⟨_, rfl, ?_⟩
  obtain ⟨e, he⟩ := sortedHeap_at (out := out) gb
  have hlen : (ns'.map V.int).length ≤ sizeLine := by rw [List.length_map, h2.length_eq]; exact small64 h64
  exact ⟨.ref g.objs.size, upd H g.objs.size (.lst (ns'.map V.int)), I'.laid (t' := s.toks) (fun c o q => sorted_keep q) (Nat.le_refl _) ⟨hlen, out.toList, e, vals_of_ints h1, by rw [Array.toArray_toList]; exact he⟩, rfl, q ns' g.objs.size h2 h3 (I'.hok.fresh (Nat.le_refl _))⟩
theorem cr_sortedTupS {X : Cx} : CallR X (.builtin "sorted") (rSortedTS X.K) := by
  intro pins s σ H vs us Q I r h
  obtain ⟨a, xs, rfl, ha, h64, q⟩ := h
  obtain ⟨its, rv, p, hz⟩ := I.tuple ha
  rw [Vals.ref1 r]
  have hS := Vals.strs rv
  have hl : its.length < 64 := by have := rv.length; rw [List.length_map] at this; omega
  refine sorted_tup p (by rw [rv.length] at hz; exact hz) fun g kg gb => ?_
  have I' : Inv X pins σ H { s with heap := g } := I.kept (t' := s.toks) kg
  refine list_sort_treeK strKind_oneLt gb (StrsAre.keysOf hS) (fun v₁ v₂ rest e => keyKind_strs (by rw [e] at hS; exact hS)) hl fun st' hp hs => ?_
  obtain ⟨ss', h1, h2, h3⟩ := sorted_out_str hS hp hs
  refine ⟨_, rfl, ?_⟩
  obtain ⟨e, he⟩ := sortedHeap_at (out := Array.map (fun x => x.snd) (arrOf st')) gb
  have hlen : (ss'.map V.str).length ≤ sizeLine := by rw [List.length_map, h2.length_eq]; exact small64 h64
  exact ⟨.ref g.objs.size, upd H g.objs.size (.lst (ss'.map V.str)), I'.laid (t' := s.toks) (fun c o q => sorted_keep q) (Nat.le_refl _) ⟨hlen, (Array.map (fun x => x.snd) (arrOf st')).toList, e, vals_of_strs h1, by rw [Array.toArray_toList]; exact he⟩, rfl, q ss' g.objs.size h2 h3 (I'.hok.fresh (Nat.le_refl _))⟩
section
variable {prog : Program} {w : World} {A : Around} {E : Value → Shared → Prop} {s : Shared}
theorem max_tupI {l : Addr} {xs : Array (Int × Tok)} {Q : Value → Shared → Prop} (hh : A.handled = none) (hl : s.heap.IsTuple l (intItems xs)) (hne : 0 < xs.size)
    (h : ∀ (v : Value) (h' : Heap) (tk : Nat), (intItems xs)[argBest (fun i j => decide (numAt xs i > numAt xs j)) (xs.size - 1)]? = some v → (∀ b o, s.heap.get? b = some o → h'.get? b = some o) → Q v { s with heap := h', toks := tk }) :
    wpAny (model prog w) A (call (.builtin "max") [.ref l]) Q E s := by
  refine call_max_walk (wpAny_pyIter_tuple hl ?_)
  have lt : l < s.heap.objs.size := let ⟨_, q, _⟩ := hl; Heap.lt_size q
  have up : ∀ b o, s.heap.get? b = some o → (s.heap.push { cls := .type "tuple_iterator", data := .fields #[.ref l, .int 0 0] }).get? b = some o := fun b o q => Heap.get?_push_of_some _ q
  refine ⟨s.heap.objs.size, [s.heap.objs.size, l], [s.heap.objs.size], (intItems xs).size, fun i v => (intItems xs)[i]? = some v, fun i h => h.IsTupleIter s.heap.objs.size l i ∧ h.IsTuple l (intItems xs), fun i j => decide (numAt xs i > numAt xs j), rfl, Walks.tuple (A := A.in1) hh s.heap.objs.size l (Nat.ne_of_lt lt) (intItems xs), ⟨⟨_, Heap.get?_push_size _ rfl, rfl, rfl⟩, ?_⟩, ?_, by simpa [intItems] using hne, CmpOf.ints_gt (numAt xs) fun x x_1 => intItems_at, fun v h' tk hP hk => h v h' tk ?_ fun b o q => hk b o ?_ (up b o q)⟩
  · obtain ⟨o, ho, r⟩ := hl
    exact ⟨o, up _ _ ho, r⟩
  · intro b hb
    show b < (s.heap.push _).objs.size
    rw [Heap.size_push]
    have : b = s.heap.objs.size ∨ b = l := by simpa using hb
    rcases this with q | q <;> subst q
    · exact Nat.lt_succ_self _
    · exact Nat.lt_succ_of_lt lt
  · have e : (intItems xs).size = xs.size := by simp [intItems]
    rw [e] at hP
    exact hP
  · intro z
    have : b = s.heap.objs.size := by simpa using z
    subst this
    exact Nat.lt_irrefl _ (Heap.lt_size q)
theorem max_tup {l : Addr} {its : List Value} {ns : List Int} {Q : Value → Shared → Prop} (hh : A.handled = none) (hl : s.heap.IsTuple l its.toArray) (hi : IntsAre its ns) (hne : 0 < ns.length)
    (h : ∀ (h' : Heap) (tk : Nat) (M : Int) (t' : Tok), (∀ b o, s.heap.get? b = some o → h'.get? b = some o) → M ∈ ns → (∀ a ∈ ns, a ≤ M) → Q (.int M t') { s with heap := h', toks := tk }) :
    wpAny (model prog w) A (call (.builtin "max") [.ref l]) Q E s := by
  obtain ⟨xs, e⟩ := AllInts.items (IntsAre.allInts hi)
  have hn : numsOf (intItems xs).toList = ns := by rw [← e]; exact IntsAre.numsOf hi
  have hm : ns = xs.toList.map (·.1) := by rw [← hn, nums_intItems]
  subst hm
  rw [e] at hl
  have hsz : 0 < xs.size := by simpa using hne
  refine max_tupI hh hl hsz fun v h' tk hv hk => ?_
  obtain ⟨t, rfl⟩ := intItems_at hv
  obtain ⟨h1, h2⟩ := argBest_gt (numAt xs) (xs.size - 1)
  refine h h' tk _ t hk ?_ fun a ha => ?_
  · rw [numAt_eq]
    exact PySem.getD_mem (by rw [List.length_map, Array.length_toList]; omega)
  · obtain ⟨j, hj, rfl⟩ := mem_getD ha
    have := h2 j (by simp at hj; omega)
    rw [numAt_eq xs j] at this
    exact this
end
section
variable {prog : Program} {w : World} {A : Around} {E : Value → Shared → Prop} {s : Shared}
theorem min_tupI {l : Addr} {xs : Array (Int × Tok)} {Q : Value → Shared → Prop} (hh : A.handled = none) (hl : s.heap.IsTuple l (intItems xs)) (hne : 0 < xs.size)
    (h : ∀ (v : Value) (h' : Heap) (tk : Nat), (intItems xs)[argBest (fun i j => decide (numAt xs i < numAt xs j)) (xs.size - 1)]? = some v → (∀ b o, s.heap.get? b = some o → h'.get? b = some o) → Q v { s with heap := h', toks := tk }) :
    wpAny (model prog w) A (call (.builtin "min") [.ref l]) Q E s := by
  refine call_min_walk (wpAny_pyIter_tuple hl ?_)
  have lt : l < s.heap.objs.size := let ⟨_, q, _⟩ := hl; Heap.lt_size q
  have up : ∀ b o, s.heap.get? b = some o → (s.heap.push { cls := .type "tuple_iterator", data := .fields #[.ref l, .int 0 0] }).get? b = some o := fun b o q => Heap.get?_push_of_some _ q
  refine ⟨s.heap.objs.size, [s.heap.objs.size, l], [s.heap.objs.size], (intItems xs).size, fun i v => (intItems xs)[i]? = some v, fun i h => h.IsTupleIter s.heap.objs.size l i ∧ h.IsTuple l (intItems xs), fun i j => decide (numAt xs i < numAt xs j), rfl, Walks.tuple (A := A.in1) hh s.heap.objs.size l (Nat.ne_of_lt lt) (intItems xs), ⟨⟨_, Heap.get?_push_size _ rfl, rfl, rfl⟩, ?_⟩, ?_, by simpa [intItems] using hne, CmpOf.ints_lt (numAt xs) fun x x_1 => intItems_at, fun v h' tk hP hk => h v h' tk ?_ fun b o q => hk b o ?_ (up b o q)⟩
  · obtain ⟨o, ho, r⟩ := hl
    exact ⟨o, up _ _ ho, r⟩
  · intro b hb
    show b < (s.heap.push _).objs.size
    rw [Heap.size_push]
    have : b = s.heap.objs.size ∨ b = l := by simpa using hb
    rcases this with q | q <;> subst q
    · exact Nat.lt_succ_self _
    · exact Nat.lt_succ_of_lt lt
  · have e : (intItems xs).size = xs.size := by simp [intItems]
    rw [e] at hP
    exact hP
  · intro z
    have : b = s.heap.objs.size := by simpa using z
    subst this
    exact Nat.lt_irrefl _ (Heap.lt_size q)
theorem min_tup {l : Addr} {its : List Value} {ns : List Int} {Q : Value → Shared → Prop} (hh : A.handled = none) (hl : s.heap.IsTuple l its.toArray) (hi : IntsAre its ns) (hne : 0 < ns.length)
    (h : ∀ (h' : Heap) (tk : Nat) (M : Int) (t' : Tok), (∀ b o, s.heap.get? b = some o → h'.get? b = some o) → M ∈ ns → (∀ a ∈ ns, M ≤ a) → Q (.int M t') { s with heap := h', toks := tk }) :
    wpAny (model prog w) A (call (.builtin "min") [.ref l]) Q E s := by
  obtain ⟨xs, e⟩ := AllInts.items (IntsAre.allInts hi)
  have hn : numsOf (intItems xs).toList = ns := by rw [← e]; exact IntsAre.numsOf hi
  have hm : ns = xs.toList.map (·.1) := by rw [← hn, nums_intItems]
  subst hm
  rw [e] at hl
  have hsz : 0 < xs.size := by simpa using hne
  refine min_tupI hh hl hsz fun v h' tk hv hk => ?_
  obtain ⟨t, rfl⟩ := intItems_at hv
  obtain ⟨h1, h2⟩ := argBest_lt (numAt xs) (xs.size - 1)
  refine h h' tk _ t hk ?_ fun a ha => ?_
  · rw [numAt_eq]
    exact PySem.getD_mem (by rw [List.length_map, Array.length_toList]; omega)
  · obtain ⟨j, hj, rfl⟩ := mem_getD ha
    have := h2 j (by simp at hj; omega)
    rw [numAt_eq xs j] at this
    exact this
end
def rMaxT (K : Frag) : List V → Hp → VK → Prop := fun vs H Q => ∃ (a : Addr) (ns : List Int), vs = [.ref a] ∧ SqT K H a (ns.map V.int) ∧ 0 < ns.length ∧ ∀ m : Int, m ∈ ns → (∀ y ∈ ns, y ≤ m) → Q (.int m) H
def rMinT (K : Frag) : List V → Hp → VK → Prop := fun vs H Q => ∃ (a : Addr) (ns : List Int), vs = [.ref a] ∧ SqT K H a (ns.map V.int) ∧ 0 < ns.length ∧ ∀ m : Int, m ∈ ns → (∀ y ∈ ns, m ≤ y) → Q (.int m) H
theorem cr_maxT {X : Cx} (hc : X.calm = true) : CallR X (.builtin "max") (rMaxT X.K) := by
  intro pins s σ H vs us Q I r h
  obtain ⟨a, ns, rfl, ha, h0, q⟩ := h
  obtain ⟨its, rv, p, hz⟩ := I.tuple ha
  rw [Vals.ref1 r]
  exact max_tup (I.ok.hd hc) p (Vals.ints rv) h0 fun h' tk m t' hk h1 h2 => ⟨.int m, H, I.kept hk, ⟨t', rfl⟩, q m h1 h2⟩
theorem cr_minT {X : Cx} (hc : X.calm = true) : CallR X (.builtin "min") (rMinT X.K) := by
  intro pins s σ H vs us Q I r h
  obtain ⟨a, ns, rfl, ha, h0, q⟩ := h
  obtain ⟨its, rv, p, hz⟩ := I.tuple ha
  rw [Vals.ref1 r]
  exact min_tup (I.ok.hd hc) p (Vals.ints rv) h0 fun h' tk m t' hk h1 h2 => ⟨.int m, H, I.kept hk, ⟨t', rfl⟩, q m h1 h2⟩
def rSrt (K : Frag) : List V → Hp → VK → Prop := fun xs H Q => rSorted K xs H Q ∨ (rSortedT K xs H Q ∨ rSortedTS K xs H Q)
theorem u_sorted {X : Cx} : CallR X (.builtin "sorted") (rSrt X.K) := cr_sorted.or (cr_sortedTup.or cr_sortedTupS)
end EL

/- part LAMS -/
/-! the start of a law one of whose defs makes lambdas: the table of its code objects, empty as yet, is known -/
namespace EL
open PySem PySem.Spec PyProof.Rows L2
open PySem.W (Frag)
theorem law_fromT {P : Program} {w : World} {K : Frag} {mg mb : Str → Option Value} {CX : CXT} {k : Nat} {fa a c T : Addr} {fd : FuncData} {x : Str} {sp : Sp} {s : Shared} {vs : List Value} {H : Hp}
    (KX : K.In s.heap) (hns : s.heap.Ns mainGlobals mg) (hb : s.heap.Ns builtinsNs mb) (hbb : ∀ y : Str, y ≠ "__name__" → mb y = bootBuiltins y) (hlim : s.heap.NoLimit) (hg : s.gens = #[])
    (ha : s.heap.get? a = some { cls := .type "list", data := .seq vs.toArray }) (hr : Room k PySem.callerA)
    (hT : s.heap.get? T = some (PySem.W.tabObj #[])) (hC : PySem.W.CodeHd s.heap c T) (hB : s.heap.BuiltinsAt mg T) (kT : K.lookup T = none)
    (F : ∀ base : Heap, K.In base → base.Ns mainGlobals mg → base.BuiltinsAt mg T → mainGlobals ≠ T → FnG P w K mg base CX k fa fd [x] sp) (hbind : ∀ (s : Shared) (u : Value), BindsTo s fd ⟨[u], []⟩ [(x, u)])
    (hsp : sp [.ref a] H (fun v _ => v = .bl true) fun _ _ _ => False) (hCX : ∀ e s', CX [] H s (fun _ _ _ => False) e s' → False)
    (hO : ∀ b, H b = none ∨ (∃ ob xs, H b = some (.frz ob (.lst xs))) ∨ (b = T ∧ H b = some (.tbl #[]))) (hok : HOk P w H s.heap) (hA : ∀ b, H b ≠ none → b = a ∨ b = T) (hK : H a ≠ none → K.lookup a = none) :
    codeAny (model P w) PySem.callerA (.call (.ref fa) ⟨[.ref a], []⟩) (fun r s' => r = .ok (.ret (.bool true)) ∧ OldK s.heap s'.heap ∧ s'.os = s.os ∧ AllBare s'.gens) s := by
  have free : ∀ {b : Addr} {o : Obj}, s.heap.get? b = some o → (b = a → False) ∧ (b = T → False) ∨ (H b = none) → (hidT s.heap H).get? b = some o := by
    intro b o e z
    apply hidT_get e
    rcases z with ⟨z, z2⟩ | z
    · cases q : H b with
      | none => rfl
      | some u => exact ((hA b (by simp [q])).elim z z2).elim
    · exact z
  have dict : ∀ {b : Addr} {m : Str → Option Value}, s.heap.Ns b m → (hidT s.heap H).Ns b m := by
    rintro b m ⟨o, es, ep, e, d, r⟩
    refine ⟨o, es, ep, free e (.inl ⟨fun z => ?_, fun z => ?_⟩), d, r⟩
    · rw [z, ha] at e
      cases e
      exact nomatch d
    · rw [z, hT] at e
      cases e
      exact nomatch d
  have kin : K.In (hidT s.heap H) := by
    intro b o e
    cases q : H b with
    | none => exact free (KX b o e) (.inr q)
    | some u =>
      rcases hA b (by simp [q]) with ba | ba
      · rw [ba] at e q
        rw [hK (by simp [q])] at e
        exact nomatch e
      · rw [ba, kT] at e
        exact nomatch e
  have gT : mainGlobals ≠ T := fun z => by
    obtain ⟨o, es, ep, e, d, r⟩ := hns
    rw [z, hT] at e
    cases e
    exact nomatch d
  have bB : (hidT s.heap H).BuiltinsAt mg T := by
    obtain ⟨bm, o, h1, h2, h3, h4, h5, h6, h7, h8⟩ := hB
    refine ⟨bm, o, h1, h2, h3, h4, free h5 (.inl ⟨fun z => ?_, h4⟩), h6, h7, h8⟩
    rw [z, ha] at h5
    cases h5
    simp at h6
  have M : Mod K mg (hidT s.heap H) := ⟨kin, dict hns, ⟨mb, dict hb, hbb⟩, let ⟨mc, h1, h2⟩ := hlim; ⟨mc, dict h1, h2⟩⟩
  have none_in : ∀ b : Addr, b ∉ ([] : List Addr) := fun b z => by simp at z
  have e0 : Env0 P w K mg (hidT s.heap H) PySem.callerA [] s H :=
    { frames := rfl, mod := M, bs := fun b o e => of_hidT e, bsz := Nat.le_of_eq (hidT_size _ _), funs := trivial, frf := fun b z => (none_in b z).elim, hok := hok, bare := .of_eq hg }
  refine codeAny_mono ((F _ kin (dict hns) bB gT).run PySem.callerA [] s H _ [.ref a] [.ref a] _ _ hr rfl e0 (hbind s (.ref a)) (.cons rfl .nil) hsp) ?_
  rintro (e | fl) s' hz
  · exact (hCX e s' hz).elim
  · cases fl with
    | next => exact False.elim hz
    | brk => exact False.elim hz
    | cont => exact False.elim hz
    | ret u =>
      obtain ⟨v, H', os, bare, un, hok', r', q⟩ := hz
      have q2 : v = .bl true := q
      rw [q2] at r'
      have u2 : u = Value.bool true := r'
      rw [u2]
      have old : ∀ b o, s.heap.get? b = some o → asItWas s.heap s'.heap b o ∧ ∃ o', s'.heap.get? b = some o' := fun b o e => by
        rcases hO b with z | ⟨ob, xs, z⟩ | ⟨rfl, z⟩
        · have := un.keep b o e z (none_in b) (none_in b)
          exact ⟨.inl this, _, this⟩
        · have e1 := (hok b _ z).1
          rw [e] at e1
          have := (hok' b _ (un.frzs b ob _ z)).1
          rw [← Option.some.inj e1] at this
          exact ⟨.inl this, _, this⟩
        · obtain ⟨more, z'⟩ := un.tbls b _ z
          have e2 : s'.heap.get? b = some { cls := .none, data := .fields (#[] ++ more) } := hok' b _ z'
          rw [hT] at e
          cases e
          obtain ⟨o, vs', file, tf, flags, tg, inF, text, tt, c1, c2, c3, c4, _⟩ := hC
          exact ⟨.inr (.inl ⟨⟨c, o, vs', c1, c2, c3, c4⟩, rfl, #[], more, rfl, e2⟩), _, e2⟩
      exact ⟨rfl, ⟨fun b o e => (old b o e).1, fun b o e => (old b o e).2⟩, os, bare⟩
theorem law_runsT {P : Program} {w : World} {K : Frag} {mg mb : Str → Option Value} {CX : CXT} {k : Nat} {fa a c T : Addr} {fd : FuncData} {x : Str} {sp : Sp} {s : Shared} {vs : List Value} {ns : List Int}
    (KX : K.In s.heap) (hns : s.heap.Ns mainGlobals mg) (hb : s.heap.Ns builtinsNs mb) (hbb : ∀ y : Str, y ≠ "__name__" → mb y = bootBuiltins y) (hlim : s.heap.NoLimit) (hg : s.gens = #[])
    (ha : s.heap.get? a = some { cls := .type "list", data := .seq vs.toArray }) (hi : IntsAre vs ns) (hl : ns.length ≤ sizeLine) (hr : Room k PySem.callerA)
    (hT : s.heap.get? T = some (PySem.W.tabObj #[])) (hC : PySem.W.CodeHd s.heap c T) (hB : s.heap.BuiltinsAt mg T) (kT : K.lookup T = none)
    (F : ∀ base : Heap, K.In base → base.Ns mainGlobals mg → base.BuiltinsAt mg T → mainGlobals ≠ T → FnG P w K mg base CX k fa fd [x] sp) (hbind : ∀ (s : Shared) (u : Value), BindsTo s fd ⟨[u], []⟩ [(x, u)])
    (hsp : ∀ H : Hp, H T = some (.tbl #[]) → SqL K H a (ns.map V.int) → sp [.ref a] H (fun v _ => v = .bl true) fun _ _ _ => False)
    (hCX : ∀ H e s', CX [] H s (fun _ _ _ => False) e s' → False) :
    codeAny (model P w) PySem.callerA (.call (.ref fa) ⟨[.ref a], []⟩) (fun r s' => r = .ok (.ret (.bool true)) ∧ OldK s.heap s'.heap ∧ s'.os = s.os ∧ AllBare s'.gens) s := by
  have rv := vals_ints hi
  have aT : a ≠ T := fun z => by rw [z, hT] at ha; cases ha
  by_cases hk : K.lookup a = none
  · let H : Hp := fun b => if b = a then some (.frz { cls := .type "list", data := .seq vs.toArray } (.lst (ns.map V.int))) else if b = T then some (.tbl #[]) else none
    have at_ : H a = some (.frz { cls := .type "list", data := .seq vs.toArray } (.lst (ns.map V.int))) := if_pos rfl
    have atT : H T = some (.tbl #[]) := by show (if T = a then _ else if T = T then _ else _) = _; rw [if_neg aT.symm, if_pos rfl]
    have other : ∀ b, b ≠ a → b ≠ T → H b = none := fun b h h2 => by show (if b = a then _ else if b = T then _ else _) = _; rw [if_neg h, if_neg h2]
    refine law_fromT (H := H) KX hns hb hbb hlim hg ha hr hT hC hB kT F hbind (hsp H atT (.inl (.inr ⟨_, at_⟩))) (hCX H) (fun b => ?_) ?_ ?_ fun _ => hk
    · by_cases q : b = a
      · exact .inr (.inl ⟨_, _, by rw [q]; exact at_⟩)
      · by_cases q2 : b = T
        · exact .inr (.inr ⟨q2, by rw [q2]; exact atT⟩)
        · exact .inl (other b q q2)
    · intro b u z
      by_cases q : b = a
      · subst q
        rw [at_] at z
        cases z
        refine ⟨ha, ?_, vs, _, rv, ha⟩
        rw [List.length_map]
        exact hl
      · by_cases q2 : b = T
        · subst q2
          rw [atT] at z
          cases z
          exact hT
        · rw [other b q q2] at z
          exact nomatch z
    · intro b z
      by_cases q : b = a
      · exact .inl q
      · by_cases q2 : b = T
        · exact .inr q2
        · exact (z (other b q q2)).elim
  · obtain ⟨o, hk⟩ := Option.ne_none_iff_exists'.mp hk
    have e := KX a o hk
    rw [ha] at e
    cases e
    let H : Hp := fun b => if b = T then some (.tbl #[]) else none
    have atT : H T = some (.tbl #[]) := if_pos rfl
    have other : ∀ b, b ≠ T → H b = none := fun b h => if_neg h
    have hS : SqL K H a (ns.map V.int) := .inr ⟨_, vs.toArray, _, hk, rfl, rfl, rfl, by simpa [hi.length] using hl, by simpa using rv⟩
    refine law_fromT (H := H) KX hns hb hbb hlim hg ha hr hT hC hB kT F hbind (hsp H atT hS) (hCX H) (fun b => ?_) (fun b u z => ?_) (fun b z => ?_) fun z => (z (other a aT)).elim
    · by_cases q2 : b = T
      · exact .inr (.inr ⟨q2, by rw [q2]; exact atT⟩)
      · exact .inl (other b q2)
    · by_cases q2 : b = T
      · subst q2
        rw [atT] at z
        cases z
        exact hT
      · rw [other b q2] at z
        exact nomatch z
    · by_cases q2 : b = T
      · exact .inr q2
      · exact (z (other b q2)).elim
theorem walk_lawT {l : PySem.W.OpenLaw} {n k : Nat} {q : Program} {loose : List Str} {XP : (Str → Option Value) → Heap → Prop} {YP : World → Heap → Prop} {d : DefRec} {K : Params → Frag} {CX : World → CXT} {sp : World → Addr → Sp} {x : Str} {ts : List Addr}
    (hn : l.most = some n) (hn2 : n ≤ sizeLine) (hdf : d.params.defaults = []) (hr : Room k PySem.callerA) (hY : ∀ (w : World) (h : Heap), YP w h → (K w.params).In h)
    (hts : ∀ (w : World) (h : Heap), YP w h → ∀ T ∈ ts, h.get? T = some (PySem.W.tabObj #[]))
    (F : ∀ (w : World) (mg : Str → Option Value) (fa : Addr) (h : Heap), (K w.params).In h → h.Ns mainGlobals mg → mg d.name = some (.ref fa) →
      ∃ (c T : Addr) (fd : FuncData), PySem.W.codeHdIn (K w.params) c T = true ∧ T ∈ ts ∧ (K w.params).lookup T = none ∧ (∀ (s : Shared) (u : Value), BindsTo s fd ⟨[u], []⟩ [(x, u)]) ∧
        ∀ base : Heap, (K w.params).In base → base.Ns mainGlobals mg → base.BuiltinsAt mg T → mainGlobals ≠ T → FnG l.prog w (K w.params) mg base (CX w) k fa fd [x] (sp w T))
    (hsp : ∀ (w : World) (H : Hp) (a T : Addr) (ns : List Int), ns.length ≤ n → H T = some (.tbl #[]) → SqL (K w.params) H a (ns.map V.int) → sp w T [.ref a] H (fun v _ => v = .bl true) fun _ _ _ => False)
    (hCX : ∀ (w : World) (H : Hp) (s : Shared) (e : Value) (s' : Shared), CX w [] H s (fun _ _ _ => False) e s' → False) :
    PySem.W.WalkO q loose XP YP l.row.toRowW d [] (fun f vs => PySem.call f vs) := by
  refine Att.attach_call hn hdf ?_
  intro w s₀ s₁ mg mb fa o pm cd doc a vs ns G Y ho hd hcd hmg hobj hints hlen hg
  obtain ⟨c, T, fd, hc, ht, kT, hb, hF⟩ := F w mg fa _ (hY w _ Y) G.T.g hmg
  have hC := PySem.W.codeHd_of_K (hY w _ Y) hc
  have hT := hts w _ Y T ht
  have hB : s₁.heap.BuiltinsAt mg T := by
    obtain ⟨bm, ob, h1, h2, h3, h4, h5, h6⟩ := G.T.bmain
    refine ⟨bm, ob, h1, h2, fun z => ?_, fun z => ?_, h3, h4, h5, h6⟩
    · obtain ⟨o, es, ep, e, d, r⟩ := G.T.g
      rw [← z, h3] at e
      cases e
      rw [h6] at d
      cases d
    · rw [z, hT] at h3
      cases h3
      cases h4
  exact law_runsT (hY w _ Y) G.T.g G.T.b G.T.builtins G.T.nolimit hg hobj hints (Nat.le_trans hlen hn2) hr hT hC hB kT hF hb (fun H hT hS => hsp w H a T ns hlen hT hS) fun H => hCX w H s₁
end EL

/- part LAM2 -/
/-! lambdas handed to a def: what the rules of the hand layer leave to be said -/
namespace EL
open PySem PySem.Spec PyProof.Rows L2
open PySem.W (Frag)
theorem pe_prop {X : Cx} {e : Expr} {t : TE} {P : Prop} (h : P → PE X e t) : PE X e (fun σ H Q => P ∧ t σ H Q) := ⟨fun pins s σ H Q I q => (h q.1).run pins s σ H Q I q.2⟩
theorem takes_lenL {X : Cx} {W : WX} (tk : Takes X W) : Takes X (fun cls d _ H => ∀ σ' : L2.St, σ'.length = X.N.length → W cls d σ' H) := fun u s' ⟨a, B, sI, pins, σ, H, cls, d, e, I, nb, up, sky, na, os, ag, w⟩ => tk u s' ⟨a, B, sI, pins, σ, H, cls, d, e, I, nb, up, sky, na, os, ag, w σ I.len⟩
/-- a def whose code object is known -/
theorem fnG_ofC {X : CXT} {P : Program} {w : World} {K : Frag} {mg : Str → Option Value} {base : Heap} {k : Nat} {x qual : Str} {st : Stmt} {f : Addr} {N ps : List Str} {sp : Sp}
    {oc : Value} {od an : Option Addr} {osl : Array (Option Value)} {kV doc pm cd ct : Value}
    (lk : K.lookup f = some ⟨oc, od, .func (PySem.W.fnOf x qual (defArgs st) (defBody st) (defScope st) .none kV doc pm an cd ct), osl⟩) (hcd : PySem.W.codeIn K cd qual = true)
    (S : FnScope N ps (defScope st)) (len : ∀ vs H Q E, sp vs H Q E → vs.length = ps.length)
    (hbody : ∀ (A : Around) (out : List Env) (s : Shared) (H : Hp) (vs : List V) (Q : VK) (E : XK), Room k (A.deeper (envOfC qual (defScope st) s.heap.objs.size f cd)) →
      Quiet (A.deeper (envOfC qual (defScope st) s.heap.objs.size f cd)) → sp vs H Q E →
      ∃ t, PSs (cxOf X P w K mg base N qual (defScope st) f cd A out s H E) (defBody st) t ∧ t { nx := fun _ H' => Q .non H', rt := Q } (L2.start N vs) H) :
    FnG P w K mg base X (k + 1) f (PySem.W.fnOf x qual (defArgs st) (defBody st) (defScope st) .none kV doc pm an cd ct) ps sp := by
  constructor
  · exact len
  intro A out s H args us vs Q E hr hg e0 hb r hsp
  have old : ∀ b o, base.get? b = some o → s.heap.get? b = some o := fun b o e => (e0.bs b o e).1
  have KX := e0.mod.kin.keeps old
  have kinds : ∀ y ∈ ps.zip us, (defScope st).names.lookup y.1 = some .local ∨ ((defScope st).names.lookup y.1 = some .cell ∧ ((cellsFrom (s.heap.objs.size + 1) (defScope st).names []).lookup y.1).isSome = true) := by
    rintro ⟨n, v⟩ hy
    cases S.par n (List.of_mem_zip hy).1 with
    | inl q => exact .inl q
    | inr q => exact .inr ⟨q, PySem.W.cellsFrom_some _ _ _ (.inl q)⟩
  apply codeAny_call_function hr.depth (KX _ _ lk) rfl S.co S.gen rfl (PySem.W.codeRec_of KX hcd)
  apply hb
  apply wpAny_newFunctionEnv_cells S.kind kinds
  rintro env rfl s1 x
  refine ⟨(e0.mod.nolimit.keeps old).keeps x.toInCall.keep, codeAny_func ?_⟩
  obtain ⟨t, ht, hq⟩ := hbody A out s H vs Q E (hr.deeper _) hg hsp
  have I := inv_start (CX := X) (E := E) S hr.hd e0 (len _ _ _ _ hsp) r x
  refine wpAny_mono (ht.run [] s1 _ H _ I hq) ?_ (fun _ _ z => z)
  intro fl s' hs
  cases fl with
  | next =>
    obtain ⟨σ', H', J, q⟩ := hs
    exact ended (v := V.non) (u := Value.none) J rfl q
  | ret u =>
    obtain ⟨v, σ', H', J, rv, q⟩ := hs
    exact ended J rv q
  | brk => exact (let ⟨_, _, _, z⟩ := hs; False.elim z)
  | cont => exact (let ⟨_, _, _, z⟩ := hs; False.elim z)
theorem tabS_kp {b T : Addr} {q : Str} {l : List V} {H H' : Hp} (t : LamX.TabS H T q) (hb : H b = some (.lst l)) (k : Kp b H H') : LamX.TabS H' T q := by
  obtain ⟨ps, h1, h2, h3⟩ := t
  refine ⟨ps, k _ _ (fun z => by rw [z, hb] at h1; cases h1) h1, h2, fun pos cv h => ?_⟩
  obtain ⟨c, e, hc⟩ := h3 pos cv h
  exact ⟨c, e, k _ _ (fun z => by rw [z, hb] at hc; exact nomatch hc) hc⟩
theorem tabS_same {T : Addr} {q : Str} {H H' : Hp} (t : LamX.TabS H T q) (s : Same H H') : LamX.TabS H' T q := t.ext s
/-- `def told(act): try: return ("told", act()) except X as e: return ("..", e.one, e.other)` as a reading -/
def TRais (C : Addr) (word f1 f2 : Str) : (XK → Hp → VK → Prop) → Hp → VK → Prop := fun tl H Q =>
  tl (fun cls d H' => cls = .ref C ∧ ∃ dd x y, d = some dd ∧ H' dd = some (.xd [(f2, y), (f1, x)]) ∧ ∀ H2 p, Same H' H2 → H2 p = some (.tup [.str word, x, y]) → Q (.ref p) H2) H fun v H1 => [V.str "told", v].length ≤ sizeLine ∧ ∀ p, H1 p = none → Q (.ref p) (upd H1 p (.tup [.str "told", v]))
end EL

/- part K50R -/
namespace EL
open PySem PySem.Spec PyProof.Rows L2
open PySem.W (Frag)
abbrev s_raised : Stmt := top 20
abbrev N_raised : List Str := ["_law_act", "_law_e"]
theorem sc_raised : FnScope N_raised ["_law_act"] (defScope s_raised) := ⟨rfl, rfl, rfl, by decide +kernel, rfl, by decide +kernel, by decide +kernel⟩
local macro_rules | `(tactic| walk_at "el1") => `(tactic| with_reducible first
  | refine a_sasg ?_ | refine a_sdrop ?_ | refine a_saugS ?_ | refine a_spar ?_ | refine a_seq ?_ | refine a_asg ?_ | refine a_drop ?_ | refine a_ret ?_ | refine a_if ?_ | refine a_next ?_
  | refine a_op ?_ | refine a_cons ?_ | refine a_nil ?_ | refine a_cb ?_ | refine a_call ?_ | refine a_c ?_ | refine a_gn ?_ | refine a_nx ?_ | refine a_rt ?_ | refine a_un ?_
  | refine a_test ?_ | refine a_B ?_ | refine a_bl ?_ | refine a_and ?_ | refine a_or ?_ | refine a_not ?_ | refine a_andV ?_ | refine a_orV ?_ | refine a_notV ?_ | refine a_ifx ?_ | refine a_chain ?_
  | refine a_nT ?_ | refine a_nF ?_ | refine a_fld ?_ | refine a_getF ?_ | refine a_T ?_ | refine a_F ?_ | refine a_tup ?_ | refine a_lst ?_ | refine a_sub ?_ | refine a_augS ?_ | refine a_two ?_ | refine a_I0 ?_ | refine a_U ?_ | refine n_add ?_ | refine n_int ?_ | refine n_ib ?_ | refine a_ip ?_ | refine a_rng1 ?_ | refine a_rng2 ?_ | refine a_bm ?_ | refine a_abs ?_ | refine a_pairs ?_ | refine a_pairs0 ?_ | refine a_bk ?_ | refine a_prp ?_ | refine a_lc ?_ | refine a_yes ?_ | refine a_sl ?_ | refine a_nop ?_ | refine a_prt ?_ | refine a_ex1 ?_ | refine a_for ?_ | refine a_sfor ?_ | refine a_iE1 ?_ | refine a_iEs ?_ | refine a_iEz ?_ | refine a_iEnum ?_ | refine a_iTup ?_ | refine a_iList ?_ | refine a_gcons ?_ | refine a_gnil ?_ | refine a_revT ?_ | refine a_spar3 ?_ | refine a_par3 ?_ | refine a_three ?_)
local macro_rules | `(tactic| walk_at "el2") => `(tactic| first
  | (refine a_var (by rfl) ?_)
  | (refine n_ixL (SqL.of (by assumption)) (by rfl) ?_) | (refine n_ixT (SqT.of (by assumption)) (by rfl) ?_) | (refine n_eq (by rfl) ?_) | (refine n_ne (by rfl) ?_)
  | (refine n_isN ?_) | (refine n_notN ?_) | (refine n_isB ?_) | (refine n_notB ?_) | (refine n_isBI ?_) | (refine n_notBI ?_) | (refine n_len (.inl (SqL.of (by assumption))) ?_) | (refine n_len (.inr (SqT.of (by assumption))) ?_)
  | (refine a_getL (SqL.of (by assumption)) (by rfl) ?_)
  | (refine n_isInt (by assumption) ?_) | (refine n_isBool (by assumption) ?_) | (refine n_isStr (by assumption) ?_) | (refine n_isTup (by assumption) ?_) | (refine n_isLst (by assumption) ?_))
local macro_rules | `(tactic| walk_at "el") => `(tactic| repeat (first | walk_at "el1" | walk_at "el2"))

/-! ### what a law hears of a deed handed to it -/
structure HearU (K : Frag) (mg : Str → Option Value) (C_Unequal : Addr) : Prop where
  g : mg "Unequal" = some (.ref C_Unequal)
  xm : PySem.W.exmOne K (.ref C_Unequal) (.ref C_Unequal) = some true
  xf : XfC K C_Unequal
  n1 : PySem.W.findIn K (.ref C_Unequal) "one" = some none
  n2 : PySem.W.findIn K (.ref C_Unequal) "other" = some none
theorem gives_raised {X : Cx} {g C_Unequal : Addr} {cdg : Value} {q : Str} (HU : HearU X.K X.mg C_Unequal) :
    LamX.GivesTo X N_raised "_law_raised" (defScope s_raised) g cdg (defBody s_raised) "_law_act" q (TRais C_Unequal "unequal" "one" "other") := by
  obtain ⟨g_Unequal, xm, xf, n1, n2⟩ := HU
  intro f c' s H Q tl hact hc htl
  let EH : XK := fun cls d H' => cls = .ref C_Unequal ∧ ∃ dd x y, d = some dd ∧ H' dd = some (.xd [("other", y), ("one", x)]) ∧ ∀ H2 p, Same H' H2 → H2 p = some (.tup [.str "unequal", x, y]) → Q (.ref p) H2
  refine ⟨_, (pss_one (ps_try_as (i := 1) rfl rfl sc_raised.nd rfl rfl ⟨rfl, by decide, .inl g_Unequal⟩ takes0 (fun W pn xe tk _ => (pss_one (ps_ret (pe_tup (pa_cons pe_str (pa_cons (pe_prop (P := ∀ (cls : Value) (d : Option Addr) (σ1 : L2.St) (H' : Hp), EH cls d H' → ∀ σ2 : L2.St, σ2.length = 2 → W cls d σ2 H') fun q => hact _ _ _ EH _ _ (takes_lenL tk) q) pa_nil))))))
    (fun a oe cls d pn hz hf => (pss_one (ps_ret (pe_tup (pa_cons pe_str (pa_cons (pe_xfR hz hf (pv 1)) (pa_cons (pe_xfR hz hf (pv 1)) pa_nil))))))))), ?_⟩
  walk_at "el"
  refine ⟨fun cls d σ1 H' hE σ2 l2 => ?_, rfl, hc, htl⟩
  obtain ⟨rfl, dd, x, y, rfl, hd, k⟩ := hE
  match σ2, l2 with
  | [a0, b0], _ =>
  refine ⟨true, xm, fun _ a ha => ?_, fun z => nomatch z⟩
  walk_at "el"
  refine ⟨rfl, _, dd, _, x, rfl, xf, n1, rfl, hd, rfl, ?_⟩
  walk_at "el"
  refine ⟨rfl, _, dd, _, y, rfl, xf, n2, rfl, hd, rfl, ?_⟩
  walk_at "el"
  exact ⟨by show 3 ≤ sizeLine; decide, fun p hp => k _ p (nw_of hp _) upd_same⟩
end EL

/- part K50A -/
namespace EL
open PySem PySem.Spec PyProof.Rows L2
open PySem.W (Frag)
abbrev s__check_sizes : Stmt := top 4
abbrev N__check_sizes : List Str := ["explanations", "part", "sizes", "explanation", "size"]
theorem sc__check_sizes : FnScope N__check_sizes ["explanations"] (defScope s__check_sizes) := ⟨rfl, rfl, rfl, by decide +kernel, rfl, by decide +kernel, by decide +kernel⟩
abbrev s_median : Stmt := top 5
abbrev N_median : List Str := ["one", "two", "three", "kinds", "some", "times"]
theorem sc_median : FnScope N_median ["one", "two", "three"] (defScope s_median) := ⟨rfl, rfl, rfl, by decide +kernel, rfl, by decide +kernel, by decide +kernel⟩
abbrev s_joined : Stmt := top 6
abbrev N_joined : List Str := ["one", "other", "kinds", "pair"]
theorem sc_joined : FnScope N_joined ["one", "other"] (defScope s_joined) := ⟨rfl, rfl, rfl, by decide +kernel, rfl, by decide +kernel, by decide +kernel⟩
abbrev s_met : Stmt := top 7
abbrev N_met : List Str := ["one", "other", "kinds", "pair"]
theorem sc_met : FnScope N_met ["one", "other"] (defScope s_met) := ⟨rfl, rfl, rfl, by decide +kernel, rfl, by decide +kernel, by decide +kernel⟩
abbrev s__early_if : Stmt := top 8
abbrev N__early_if : List Str := ["truth"]
theorem sc__early_if : FnScope N__early_if ["truth"] (defScope s__early_if) := ⟨rfl, rfl, rfl, by decide +kernel, rfl, by decide +kernel, by decide +kernel⟩
local macro_rules | `(tactic| walk_at "el1") => `(tactic| with_reducible first
  | refine a_sasg ?_ | refine a_sdrop ?_ | refine a_saugS ?_ | refine a_spar ?_ | refine a_seq ?_ | refine a_asg ?_ | refine a_drop ?_ | refine a_ret ?_ | refine a_if ?_ | refine a_next ?_
  | refine a_op ?_ | refine a_cons ?_ | refine a_nil ?_ | refine a_cb ?_ | refine a_call ?_ | refine a_c ?_ | refine a_gn ?_ | refine a_nx ?_ | refine a_rt ?_ | refine a_un ?_
  | refine a_test ?_ | refine a_B ?_ | refine a_bl ?_ | refine a_and ?_ | refine a_or ?_ | refine a_not ?_ | refine a_andV ?_ | refine a_orV ?_ | refine a_notV ?_ | refine a_ifx ?_ | refine a_chain ?_
  | refine a_nT ?_ | refine a_nF ?_ | refine a_fld ?_ | refine a_getF ?_ | refine a_T ?_ | refine a_F ?_ | refine a_tup ?_ | refine a_lst ?_ | refine a_sub ?_ | refine a_augS ?_ | refine a_two ?_ | refine a_I0 ?_ | refine a_U ?_ | refine n_add ?_ | refine n_int ?_ | refine n_ib ?_ | refine a_ip ?_ | refine a_rng1 ?_ | refine a_rng2 ?_ | refine a_bm ?_ | refine a_abs ?_ | refine a_pairs ?_ | refine a_pairs0 ?_ | refine a_bk ?_ | refine a_prp ?_ | refine a_lc ?_ | refine a_yes ?_ | refine a_sl ?_ | refine a_nop ?_ | refine a_prt ?_ | refine a_ex1 ?_ | refine a_for ?_ | refine a_sfor ?_ | refine a_iE1 ?_ | refine a_iEs ?_ | refine a_iEz ?_ | refine a_iEnum ?_ | refine a_iTup ?_ | refine a_iList ?_ | refine a_gcons ?_ | refine a_gnil ?_ | refine a_revT ?_ | refine a_spar3 ?_ | refine a_par3 ?_ | refine a_three ?_)
local macro_rules | `(tactic| walk_at "el2") => `(tactic| first
  | (refine a_var (by rfl) ?_)
  | (refine n_ixL (SqL.of (by assumption)) (by rfl) ?_) | (refine n_ixT (SqT.of (by assumption)) (by rfl) ?_) | (refine n_eq (by rfl) ?_) | (refine n_ne (by rfl) ?_)
  | (refine n_isN ?_) | (refine n_notN ?_) | (refine n_isB ?_) | (refine n_notB ?_) | (refine n_isBI ?_) | (refine n_notBI ?_) | (refine n_len (.inl (SqL.of (by assumption))) ?_) | (refine n_len (.inr (SqT.of (by assumption))) ?_)
  | (refine a_getL (SqL.of (by assumption)) (by rfl) ?_)
  | (refine n_isInt (by assumption) ?_) | (refine n_isBool (by assumption) ?_) | (refine n_isStr (by assumption) ?_) | (refine n_isTup (by assumption) ?_) | (refine n_isLst (by assumption) ?_))
local macro_rules | `(tactic| walk_at "el") => `(tactic| repeat (first | walk_at "el1" | walk_at "el2"))

theorem upd_at {H : Hp} {p : Addr} (_ : H p = none) (o : HO) : upd H p o p = some o := upd_same
theorem Bag.neT {H : Hp} {b c p : Addr} {xs : List V} (h : Bag H b c) (hp : H p = some (.tup xs)) : p ≠ b := fun z => by
  obtain ⟨_, _, _, _, q, _⟩ := h
  rw [z, q] at hp
  cases hp
/-! ### explanations, and what is reckoned of them -/
def kS (b : Bool) : Str := if b then "early" else "late"
abbrev Xn := List Bool × List Int
def ksV (x : Xn) : List V := x.1.map fun b => V.str (kS b)
def tsV (x : Xn) : List V := x.2.map V.int
def ExAt (H : Hp) (p : Addr) (x : Xn) : Prop := ∃ a c, H p = some (.tup [.ref a, .ref c]) ∧ H a = some (.tup (ksV x)) ∧ H c = some (.tup (tsV x))
theorem ExAt.same {H H' : Hp} {p : Addr} {x : Xn} (h : ExAt H p x) (s : Same H H') : ExAt H' p x := let ⟨a, c, h1, h2, h3⟩ := h; ⟨a, c, s _ _ h1, s _ _ h2, s _ _ h3⟩
def partV (n : Nat) (x : Xn) : List V := if n = 0 then ksV x else tsV x
theorem ExAt.part {K : Frag} {H : Hp} {p : Addr} {x : Xn} (h : ExAt H p x) {n : Nat} (hn : n < 2) : ∃ q xs, H p = some (.tup xs) ∧ atI xs (n : Int) = some (.ref q) ∧ H q = some (.tup (partV n x)) := by
  obtain ⟨a, c, h1, h2, h3⟩ := h
  have : n = 0 ∨ n = 1 := by omega
  rcases this with rfl | rfl
  · exact ⟨a, _, h1, rfl, h2⟩
  · exact ⟨c, _, h1, rfl, h3⟩
def szP (n : Nat) (x : Xn) : Nat := (partV n x).length
/-- the first size that isn't m -/
def dif (n m : Nat) : List Xn → Option (Nat × Nat)
  | [] => none
  | y :: r => if szP n y = m then dif n m r else some (m, szP n y)
def uneqP (n : Nat) : List Xn → Option (Nat × Nat)
  | [] => none
  | x :: r => dif n (szP n x) (x :: r)
def uneq (xs : List Xn) : Option (Nat × Nat) := match uneqP 0 xs with | some r => some r | none => uneqP 1 xs
theorem dif_drop {n m j : Nat} {xs : List Xn} {x : Xn} (h : xs[j]? = some x) : dif n m (xs.drop j) = if szP n x = m then dif n m (xs.drop (j + 1)) else some (m, szP n x) := by
  have lt : j < xs.length := (List.getElem?_eq_some_iff.mp h).1
  rw [List.drop_eq_getElem_cons lt]
  have : xs[j] = x := (List.getElem?_eq_some_iff.mp h).2
  rw [this]
  rfl
structure Exs (H : Hp) (ps : List V) (xs : List Xn) : Prop where
  len : ps.length = xs.length
  at_ : ∀ (k : Nat) v, ps[k]? = some v → ∃ p x, v = .ref p ∧ xs[k]? = some x ∧ ExAt H p x
theorem Exs.same {H H' : Hp} {ps : List V} {xs : List Xn} (h : Exs H ps xs) (s : Same H H') : Exs H' ps xs := ⟨h.len, fun k v hv => let ⟨p, x, e, hx, hp⟩ := h.at_ k v hv; ⟨p, x, e, hx, hp.same s⟩⟩
theorem Exs.nil {H : Hp} : Exs H [] [] := ⟨rfl, fun k v h => nomatch h⟩
theorem Exs.cons {H : Hp} {p : Addr} {x : Xn} {ps : List V} {xs : List Xn} (h : ExAt H p x) (r : Exs H ps xs) : Exs H (.ref p :: ps) (x :: xs) := ⟨congrArg Nat.succ r.len, fun k v hv => by
  cases k with
  | zero => cases hv; exact ⟨p, x, rfl, rfl, h⟩
  | succ k => exact r.at_ k v hv⟩
def z3 {α β γ δ : Type} (f : α → β → γ → δ) : List α → List β → List γ → List δ
  | a :: as, b :: bs, c :: cs => f a b c :: z3 f as bs cs
  | _, _, _ => []
theorem z3_at {α β γ δ : Type} {f : α → β → γ → δ} : ∀ {as : List α} {bs : List β} {cs : List γ} {i : Nat} {a b c}, as[i]? = some a → bs[i]? = some b → cs[i]? = some c → (z3 f as bs cs)[i]? = some (f a b c)
  | a :: as, b :: bs, c :: cs, 0, _, _, _, h1, h2, h3 => by cases h1; cases h2; cases h3; rfl
  | a :: as, b :: bs, c :: cs, i + 1, _, _, _, h1, h2, h3 => z3_at (as := as) (bs := bs) (cs := cs) (i := i) h1 h2 h3
theorem z3_len {α β γ δ : Type} {f : α → β → γ → δ} : ∀ {as : List α} {bs : List β} {cs : List γ}, as.length = bs.length → as.length = cs.length → (z3 f as bs cs).length = as.length
  | [], [], [], _, _ => rfl
  | a :: as, b :: bs, c :: cs, h1, h2 => congrArg Nat.succ (z3_len (as := as) (bs := bs) (cs := cs) (Nat.succ.inj h1) (Nat.succ.inj h2))
def maj (a b c : Bool) : Bool := (a && b) || (a && c) || (b && c)
def mid (i j k : Int) : Int := max (min i j) (min (max i j) k)
def midF (x y z : Xn) : Xn := (z3 maj x.1 y.1 z.1, z3 mid x.2 y.2 z.2)
def joinF (x y : Xn) : Xn := (z3 (fun a b _ => a || b) x.1 y.1 y.1, z3 (fun i j _ => max i j) x.2 y.2 y.2)
def metF (x y : Xn) : Xn := (z3 (fun a b _ => a && b) x.1 y.1 y.1, z3 (fun i j _ => min i j) x.2 y.2 y.2)
theorem mid_of {i j k : Int} {ns : List Int} (p : ns.Perm [i, j, k]) (s : ns.Pairwise (fun x y => x ≤ y)) : ns[1]? = some (mid i j k) := by
  have go : ∀ l : List Int, l.Perm [i, j, k] → l.Pairwise (fun x y => x ≤ y) → ns = l := fun l pl sl => List.Perm.eq_of_pairwise (fun a b _ _ h1 h2 => Int.le_antisymm h1 h2) s sl (p.trans pl.symm)
  have s3 : ∀ {a b c : Int}, a ≤ b → b ≤ c → [a, b, c].Pairwise (fun x y => x ≤ y) := fun h1 h2 => by simp; omega
  have p1 : [i, k, j].Perm [i, j, k] := .cons _ (.swap _ _ _)
  have p2 : [j, i, k].Perm [i, j, k] := .swap _ _ _
  have p3 : [j, k, i].Perm [i, j, k] := (List.Perm.cons _ (.swap _ _ _)).trans (.swap _ _ _)
  have p4 : [k, i, j].Perm [i, j, k] := (List.Perm.swap _ _ _).trans (.cons _ (.swap _ _ _))
  have p5 : [k, j, i].Perm [i, j, k] := (List.Perm.swap _ _ _).trans p3
  unfold mid
  by_cases h1 : i ≤ j
  · by_cases h2 : j ≤ k
    · rw [go _ (.refl _) (s3 h1 h2)]; show some j = _; congr 1; omega
    · by_cases h3 : i ≤ k
      · rw [go _ p1 (s3 h3 (by omega))]; show some k = _; congr 1; omega
      · rw [go _ p4 (s3 (by omega) h1)]; show some i = _; congr 1; omega
  · by_cases h2 : i ≤ k
    · rw [go _ p2 (s3 (by omega) h2)]; show some i = _; congr 1; omega
    · by_cases h3 : j ≤ k
      · rw [go _ p3 (s3 h3 (by omega))]; show some k = _; congr 1; omega
      · rw [go _ p5 (s3 (by omega) (by omega))]; show some j = _; congr 1; omega
theorem kS_range {ys : List Str} {bs : List Bool} (p : ys.Perm (bs.map kS)) : ∃ cs : List Bool, ys = cs.map kS := by
  have : ∀ l : List Str, (∀ y ∈ l, ∃ b, y = kS b) → ∃ cs : List Bool, l = cs.map kS := by
    intro l
    induction l with
    | nil => exact fun _ => ⟨[], rfl⟩
    | cons y r ih =>
      intro h
      obtain ⟨b, hb⟩ := h y List.mem_cons_self
      obtain ⟨cs, hc⟩ := ih fun z hz => h z (List.mem_cons_of_mem _ hz)
      exact ⟨b :: cs, by rw [hb, hc]; rfl⟩
  exact this ys fun y hy => by
    obtain ⟨b, _, e⟩ := List.mem_map.mp (p.mem_iff.mp hy)
    exact ⟨b, e.symm⟩
theorem maj_all : ∀ a b c p q r : Bool, ([kS p, kS q, kS r].isPerm [kS a, kS b, kS c]) = true → sortedS [kS p, kS q, kS r] = true → q = maj a b c := by decide +kernel
theorem maj_of {a b c : Bool} {ys : List Str} (p : ys.Perm [kS a, kS b, kS c]) (s : sortedS ys = true) : ys[1]? = some (kS (maj a b c)) := by
  obtain ⟨cs, rfl⟩ := kS_range (bs := [a, b, c]) p
  have l := p.length_eq
  match cs, l with
  | [x, y, z], _ =>
    show some (kS y) = _
    rw [maj_all a b c x y z (List.isPerm_iff.mpr p) s]
end EL

/- part K50P -/
namespace EL
open PySem PySem.Spec PyProof.Rows L2
open PySem.W (Frag)
local macro_rules | `(tactic| walk_at "el1") => `(tactic| with_reducible first
  | refine a_sasg ?_ | refine a_sdrop ?_ | refine a_saugS ?_ | refine a_spar ?_ | refine a_seq ?_ | refine a_asg ?_ | refine a_drop ?_ | refine a_ret ?_ | refine a_if ?_ | refine a_next ?_
  | refine a_op ?_ | refine a_cons ?_ | refine a_nil ?_ | refine a_cb ?_ | refine a_call ?_ | refine a_c ?_ | refine a_gn ?_ | refine a_nx ?_ | refine a_rt ?_ | refine a_un ?_
  | refine a_test ?_ | refine a_B ?_ | refine a_bl ?_ | refine a_and ?_ | refine a_or ?_ | refine a_not ?_ | refine a_andV ?_ | refine a_orV ?_ | refine a_notV ?_ | refine a_ifx ?_ | refine a_chain ?_
  | refine a_nT ?_ | refine a_nF ?_ | refine a_fld ?_ | refine a_getF ?_ | refine a_T ?_ | refine a_F ?_ | refine a_tup ?_ | refine a_lst ?_ | refine a_sub ?_ | refine a_augS ?_ | refine a_two ?_ | refine a_I0 ?_ | refine a_U ?_ | refine n_add ?_ | refine n_int ?_ | refine n_ib ?_ | refine a_ip ?_ | refine a_rng1 ?_ | refine a_rng2 ?_ | refine a_bm ?_ | refine a_abs ?_ | refine a_pairs ?_ | refine a_pairs0 ?_ | refine a_bk ?_ | refine a_prp ?_ | refine a_lc ?_ | refine a_yes ?_ | refine a_sl ?_ | refine a_nop ?_ | refine a_prt ?_ | refine a_ex1 ?_ | refine a_for ?_ | refine a_sfor ?_ | refine a_iE1 ?_ | refine a_iEs ?_ | refine a_iEz ?_ | refine a_iEnum ?_ | refine a_iTup ?_ | refine a_iList ?_ | refine a_gcons ?_ | refine a_gnil ?_ | refine a_revT ?_ | refine a_spar3 ?_ | refine a_par3 ?_ | refine a_three ?_)
local macro_rules | `(tactic| walk_at "el2") => `(tactic| first
  | (refine a_var (by rfl) ?_)
  | (refine n_ixL (SqL.of (by assumption)) (by rfl) ?_) | (refine n_ixT (SqT.of (by assumption)) (by rfl) ?_) | (refine n_eq (by rfl) ?_) | (refine n_ne (by rfl) ?_)
  | (refine n_isN ?_) | (refine n_notN ?_) | (refine n_isB ?_) | (refine n_notB ?_) | (refine n_isBI ?_) | (refine n_notBI ?_) | (refine n_len (.inl (SqL.of (by assumption))) ?_) | (refine n_len (.inr (SqT.of (by assumption))) ?_)
  | (refine a_getL (SqL.of (by assumption)) (by rfl) ?_)
  | (refine n_isInt (by assumption) ?_) | (refine n_isBool (by assumption) ?_) | (refine n_isStr (by assumption) ?_) | (refine n_isTup (by assumption) ?_) | (refine n_isLst (by assumption) ?_))
local macro_rules | `(tactic| walk_at "el") => `(tactic| repeat (first | walk_at "el1" | walk_at "el2"))

def UnE (CU : Addr) (H : Hp) (E : XK) (xs : List Xn) : Prop := ∀ m n, uneq xs = some (m, n) → ∀ H' d, Same H H' → H' d = none → E (.ref CU) (some d) (upd H' d (.xd [("other", .int (n : Nat)), ("one", .int (m : Nat))]))
def spCkS (CU : Addr) : Sp := fun vs H Q E => ∃ (t : Addr) (ps : List V) (xs : List Xn), vs = [.ref t] ∧ H t = some (.tup ps) ∧ Exs H ps xs ∧ 0 < xs.length ∧ xs.length ≤ 3 ∧ UnE CU H E xs ∧ (uneq xs = none → ∀ H', Same H H' → Q .non H')
def Sm (x : Xn) : Prop := x.1.length ≤ 8 ∧ x.2.length ≤ 8
def spX2 (CU : Addr) (F : Xn → Xn → Xn) : Sp := fun vs H Q E => ∃ (p q : Addr) (x y : Xn), vs = [.ref p, .ref q] ∧ ExAt H p x ∧ ExAt H q y ∧ Sm x ∧ UnE CU H E [x, y] ∧ (uneq [x, y] = none → ∀ H' r, Same H H' → ExAt H' r (F x y) → Q (.ref r) H')
def spX3 (CU : Addr) : Sp := fun vs H Q E => ∃ (p q r : Addr) (x y z : Xn), vs = [.ref p, .ref q, .ref r] ∧ ExAt H p x ∧ ExAt H q y ∧ ExAt H r z ∧ Sm x ∧ UnE CU H E [x, y, z] ∧ (uneq [x, y, z] = none → ∀ H' o, Same H H' → ExAt H' o (midF x y z) → Q (.ref o) H')
section
variable {P : Program} {w : World} {K : Frag} {mg : Str → Option Value} {base : Heap} {f CU : Addr} {fd : FuncData}
theorem ok_ck (F : Fun K "_check_sizes" "_check_sizes" s__check_sizes f fd) (T : Tb mg) (c_Unequal : ErrG P w K mg base "Unequal" CU ["self", "one", "other"] (spErr2 CU "one" "other")) : FnOk P w K mg base (L2.CX P w) 3 f fd ["explanations"] (spCkS CU) := by
  refine F.okX sc__check_sizes (fun vs H Q E h => ?_) (fun cdv A outer s H vs Q E hr h => ?_)
  · obtain ⟨_, _, _, rfl, _⟩ := h
    rfl
  · obtain ⟨t, ps, xs, rfl, ht, X, l0, l3, kE, k⟩ := h
    refine ⟨_, (pss_one (ps_for (passes_of rfl) rfl (pi_tup (pe_tup (pa_cons pe_int (pa_cons pe_int pa_nil)))) (pg_name (i := 1) sc__check_sizes.nd rfl (Or.inr rfl))
    (pss_cons (ps_setLc (i := 2) (own := [("explanation", 3)]) rfl sc__check_sizes.nd rfl rfl (sw_true rfl rfl rfl (by decide +kernel)) (u_iter (pv 0)) (blkOk_by (own := [("explanation", 3)]) (N := N__check_sizes) (sc := defScope s__check_sizes) (by decide +kernel)) (fun _ _ _ _ _ => (pg_name (i := 3) sc__check_sizes.nd rfl (Or.inl rfl))) (fun _ _ _ _ _ => pts_nil) (fun _ _ _ _ _ => (pe_callB (show CallR _ (.builtin "len") (rLen K) from u_len) rfl T.b.len_ boot_len (pa_cons (pe_ix (show IxR _ (rIx K) from ix_seq) (pv 3) (pv 1) (fun _ _ => rfl)) pa_nil))))
  (pss_one (ps_for (passes_of rfl) rfl (u_iter (pv 2)) (pg_name (i := 4) sc__check_sizes.nd rfl (Or.inl rfl))
    (pss_one (ps_if (pt_cmpR (u_ne hr.units) (pv 4) (pe_ix ix_seq (pv 2) pe_int (fun _ _ => rfl)) (nomark _))
    (pss_one (ps_rz c_Unequal (hr.mono (by decide)) rfl (takes_of rfl rfl rfl rfl) (pa_cons (pe_ix ix_seq (pv 2) pe_int (fun _ _ => rfl)) (pa_cons (pv 4) pa_nil))))
    pss_nil))))))), ?_⟩
    walk_at "el"
    refine ⟨by show 2 ≤ sizeLine; decide, fun m hm => ?_⟩
    have e1 := nw_of hm (.tup [.int 0, .int 1])
    have g1 := upd_at hm (.tup [.int 0, .int 1])
    generalize upd H m (.tup [.int 0, .int 1]) = H1 at e1 g1 ⊢
    walk_at "el"
    refine ⟨m, rfl, ⟨_, SqT.of g1⟩, ?_⟩
    obtain ⟨x0, rest, exs⟩ : ∃ x0 rest, xs = x0 :: rest := by
      cases xs with
      | nil => exact absurd l0 (Nat.lt_irrefl 0)
      | cons a r => exact ⟨a, r, rfl⟩
    have un : ∀ n, n < 2 → (∀ j, j < n → uneqP j xs = none) → ∀ r, dif n (szP n x0) xs = some r → uneq xs = some r := fun n hn pre r hr => by
      have hr' : uneqP n xs = some r := by subst exs; exact hr
      unfold uneq
      have : n = 0 ∨ n = 1 := by omega
      rcases this with rfl | rfl
      · rw [hr']
      · rw [pre 0 (by omega)]; exact hr'
    refine lp_it (walk_tup (xs := [V.int 0, .int 1])) (fun i σ H2 => Same H1 H2 ∧ (∀ j, j < i → uneqP j xs = none) ∧ ∃ v1 v2 v3 v4, σ = [some (.ref t), v1, v2, v3, v4]) ⟨Same.refl _, fun j h => absurd h (Nat.not_lt_zero j), _, _, _, _, rfl⟩ (fun i σ H2 hi h => SqT.of (h.1 _ _ g1)) ?_ ?_
    · rintro i x σ Ha H2 hi ⟨s2, pre, v1, v2, v3, v4, rfl⟩ ⟨rfl, hx⟩
      have hi2 : i < 2 := hi
      obtain rfl : x = .int (i : Nat) := by
        have : i = 0 ∨ i = 1 := by omega
        rcases this with rfl | rfl <;> cases hx <;> rfl
      have s02 := e1.trans s2
      have X2 := X.same s02
      have ht2 := s02 _ _ ht
      walk_at "el"
      refine a_iSeq (.inr (a_iTup ?_))
      walk_at "el"
      refine ⟨t, rfl, ⟨_, SqT.of ht2⟩, fun D hD => ?_⟩
      have eD := nw_of hD (.lst [])
      refine lc_of (walk_tup (xs := ps)) (fun j H3 => Kp D H2 H3 ∧ H3 D = some (.lst ((xs.take j).map fun y => V.int (szP i y : Nat)))) ⟨same_kp eD, upd_same⟩ (fun j H3 hj h => SqT.of (h.1 _ _ (fun z => by rw [z, hD] at ht2; cases ht2) ht2)) ?_ ?_
      · rintro j y Ha H3 hj ⟨k3, d3⟩ ⟨rfl, hy⟩
        obtain ⟨p, x, rfl, hx', hp⟩ := X2.at_ j y hy
        obtain ⟨q, ys, h1, h2, h3⟩ := hp.part (K := K) hi2
        have h1 := k3 _ _ (fun z => by rw [z, hD] at h1; cases h1) h1
        have h3 := k3 _ _ (fun z => by rw [z, hD] at h3; cases h3) h3
        walk_at "el"
        refine ⟨rfl, ?_⟩
        walk_at "el"
        refine n_ixT (SqT.of h1) h2 ?_
        walk_at "el"
        refine ⟨_, d3, by rw [List.length_map, List.length_take]; exact Nat.lt_of_le_of_lt (m := 3) (by omega) (by decide), fun a o n e => by rw [upd_ne n]; exact k3 _ _ n e, ?_⟩
        rw [upd_same, List.take_add_one, hx', List.map_append]
        rfl
      · rintro H3 ⟨k3, d3⟩
        have lp : ps.length = xs.length := X.len
        rw [lp, List.take_length] at d3
        have s23 : Same H2 H3 := fun a o e => k3 _ _ (fun z => by rw [z, hD] at e; cases e) e
        walk_at "el"
        refine a_iSeq (.inl (a_iList ?_))
        walk_at "el"
        refine ⟨D, rfl, ⟨_, SqL.of d3⟩, ?_⟩
        have at0 : atI (xs.map fun y => V.int (szP i y : Nat)) 0 = some (.int (szP i x0 : Nat)) := by subst exs; unfold atI ixN; rw [if_pos (Int.le_refl 0), if_pos (by rw [List.map_cons, List.length_cons]; omega)]; rfl
        refine lp_it (walk_list (xs := xs.map fun y => V.int (szP i y : Nat))) (fun j σ H4 => Same H3 H4 ∧ dif i (szP i x0) xs = dif i (szP i x0) (xs.drop j) ∧ ∃ v3 v4, σ = [some (.ref t), some (.int (i : Nat)), some (.ref D), v3, v4]) ⟨Same.refl _, rfl, _, _, rfl⟩ (fun j σ H4 hj h => SqL.of (h.1 _ _ d3)) ?_ ?_
        · rintro j y σ Ha H4 hj ⟨s4, eqd, v3, v4, rfl⟩ ⟨rfl, hy⟩
          rw [List.getElem?_map] at hy
          obtain ⟨x, hx', rfl⟩ : ∃ x, xs[j]? = some x ∧ y = .int (szP i x : Nat) := by
            cases e : xs[j]? with
            | none => rw [e] at hy; cases hy
            | some x => rw [e] at hy; cases hy; exact ⟨x, rfl, rfl⟩
          rw [dif_drop hx'] at eqd
          have d4 := s4 _ _ d3
          walk_at "el"
          refine n_ixL (SqL.of d4) at0 ?_
          walk_at "el"
          by_cases ez : szP i x = szP i x0
          · rw [ez, decide_eq_true rfl]
            walk_at "el"
            rw [if_pos ez] at eqd
            exact ⟨s4, eqd, _, _, rfl⟩
          · have ne : ¬ V.int ((szP i x : Nat) : Int) = V.int ((szP i x0 : Nat) : Int) := fun z => ez (by have := V.int.inj z; omega)
            rw [decide_eq_false ne]
            rw [if_neg ez] at eqd
            walk_at "el"
            refine a_rz ?_
            walk_at "el"
            refine n_ixL (SqL.of d4) at0 ?_
            walk_at "el"
            refine n_err2 fun d hd => ?_
            exact kE _ _ (un i hi2 pre _ eqd) _ d ((s02.trans s23).trans s4) hd
        · rintro σ H4 ⟨s4, eqd, v3, v4, rfl⟩
          refine ⟨(s2.trans s23).trans s4, fun j hj => ?_, _, _, _, _, rfl⟩
          rw [List.length_map, List.drop_length] at eqd
          by_cases e : j = i
          · subst e; subst exs; exact eqd
          · exact pre j (by omega)
    · rintro σ H2 ⟨s2, pre, v1, v2, v3, v4, rfl⟩
      walk_at "el"
      refine k ?_ _ (e1.trans s2)
      unfold uneq
      rw [pre 0 (by decide), pre 1 (by decide)]
end
end EL

/- part K50M -/
namespace EL
open PySem PySem.Spec PyProof.Rows L2
open PySem.W (Frag)
local macro_rules | `(tactic| walk_at "el1") => `(tactic| with_reducible first
  | refine a_sasg ?_ | refine a_sdrop ?_ | refine a_saugS ?_ | refine a_spar ?_ | refine a_seq ?_ | refine a_asg ?_ | refine a_drop ?_ | refine a_ret ?_ | refine a_if ?_ | refine a_next ?_
  | refine a_op ?_ | refine a_cons ?_ | refine a_nil ?_ | refine a_cb ?_ | refine a_call ?_ | refine a_c ?_ | refine a_gn ?_ | refine a_nx ?_ | refine a_rt ?_ | refine a_un ?_
  | refine a_test ?_ | refine a_B ?_ | refine a_bl ?_ | refine a_and ?_ | refine a_or ?_ | refine a_not ?_ | refine a_andV ?_ | refine a_orV ?_ | refine a_notV ?_ | refine a_ifx ?_ | refine a_chain ?_
  | refine a_nT ?_ | refine a_nF ?_ | refine a_fld ?_ | refine a_getF ?_ | refine a_T ?_ | refine a_F ?_ | refine a_tup ?_ | refine a_lst ?_ | refine a_sub ?_ | refine a_augS ?_ | refine a_two ?_ | refine a_I0 ?_ | refine a_U ?_ | refine n_add ?_ | refine n_int ?_ | refine n_ib ?_ | refine a_ip ?_ | refine a_rng1 ?_ | refine a_rng2 ?_ | refine a_bm ?_ | refine a_abs ?_ | refine a_pairs ?_ | refine a_pairs0 ?_ | refine a_bk ?_ | refine a_prp ?_ | refine a_lc ?_ | refine a_yes ?_ | refine a_sl ?_ | refine a_nop ?_ | refine a_prt ?_ | refine a_ex1 ?_ | refine a_for ?_ | refine a_sfor ?_ | refine a_iE1 ?_ | refine a_iEs ?_ | refine a_iEz ?_ | refine a_iEnum ?_ | refine a_iTup ?_ | refine a_iList ?_ | refine a_gcons ?_ | refine a_gnil ?_ | refine a_revT ?_ | refine a_spar3 ?_ | refine a_par3 ?_ | refine a_three ?_)
local macro_rules | `(tactic| walk_at "el2") => `(tactic| first
  | (refine a_var (by rfl) ?_)
  | (refine n_ixL (SqL.of (by assumption)) (by rfl) ?_) | (refine n_ixT (SqT.of (by assumption)) (by rfl) ?_) | (refine n_eq (by rfl) ?_) | (refine n_ne (by rfl) ?_)
  | (refine n_isN ?_) | (refine n_notN ?_) | (refine n_isB ?_) | (refine n_notB ?_) | (refine n_isBI ?_) | (refine n_notBI ?_) | (refine n_len (.inl (SqL.of (by assumption))) ?_) | (refine n_len (.inr (SqT.of (by assumption))) ?_)
  | (refine a_getL (SqL.of (by assumption)) (by rfl) ?_)
  | (refine n_isInt (by assumption) ?_) | (refine n_isBool (by assumption) ?_) | (refine n_isStr (by assumption) ?_) | (refine n_isTup (by assumption) ?_) | (refine n_isLst (by assumption) ?_))
local macro_rules | `(tactic| walk_at "el") => `(tactic| repeat (first | walk_at "el1" | walk_at "el2"))

theorem sz0 (x : Xn) : szP 0 x = x.1.length := by show (ksV x).length = _; unfold ksV; rw [List.length_map]
theorem sz1 (x : Xn) : szP 1 x = x.2.length := by show (tsV x).length = _; unfold tsV; rw [List.length_map]
theorem dif_none {n m : Nat} {xs : List Xn} (h : dif n m xs = none) : ∀ x ∈ xs, szP n x = m := by
  induction xs with
  | nil => exact fun x hx => nomatch hx
  | cons y r ih =>
    unfold dif at h
    by_cases e : szP n y = m
    · rw [if_pos e] at h
      intro x hx
      cases hx with
      | head => exact e
      | tail _ z => exact ih h x z
    · rw [if_neg e] at h
      cases h
theorem uneq_none {x : Xn} {r : List Xn} (h : uneq (x :: r) = none) : ∀ y ∈ x :: r, y.1.length = x.1.length ∧ y.2.length = x.2.length := fun y hy => by
  unfold uneq at h
  cases e : uneqP 0 (x :: r) with
  | some q => rw [e] at h; cases h
  | none =>
    rw [e] at h
    have a := dif_none (n := 0) (m := szP 0 x) e y hy
    have b := dif_none (n := 1) (m := szP 1 x) h y hy
    rw [sz0, sz0] at a
    rw [sz1, sz1] at b
    exact ⟨a, b⟩
def spEar : Sp := fun vs H Q _ => ∃ b : Bool, vs = [.bl b] ∧ Q (.str (kS b)) H
theorem ks_at {x : Xn} {i : Nat} {v : V} (h : (ksV x)[i]? = some v) : ∃ b, x.1[i]? = some b ∧ v = .str (kS b) := by
  unfold ksV at h
  rw [List.getElem?_map] at h
  cases e : x.1[i]? with
  | none => rw [e] at h; cases h
  | some b => rw [e] at h; cases h; exact ⟨b, rfl, rfl⟩
theorem ts_at {x : Xn} {i : Nat} {v : V} (h : (tsV x)[i]? = some v) : ∃ b, x.2[i]? = some b ∧ v = .int b := by
  unfold tsV at h
  rw [List.getElem?_map] at h
  cases e : x.2[i]? with
  | none => rw [e] at h; cases h
  | some b => rw [e] at h; cases h; exact ⟨b, rfl, rfl⟩
/-- a list that grows by what is reckoned of the rows -/
theorem grow {α : Type} {g : α → V} {l : List α} {H : Hp} {D : Addr} {i : Nat} {a : α} (h : H D = some (.lst ((l.take i).map g))) (ha : l[i]? = some a) : upd H D (.lst ((l.take i).map g ++ [g a])) D = some (.lst ((l.take (i + 1)).map g)) := by
  rw [upd_same, List.take_add_one, ha, List.map_append]
  rfl
section
variable {P : Program} {w : World} {K : Frag} {mg : Str → Option Value} {base : Heap} {f CU : Addr} {fd : FuncData}
theorem ok_early (F : Fun K "_early_if" "_early_if" s__early_if f fd) (T : Tb mg) : FnOk P w K mg base CX0 1 f fd ["truth"] spEar := by
  refine F.ok sc__early_if (fun vs H Q E h => ?_) (fun cdv A outer s H vs Q E hr h => ?_)
  · obtain ⟨_, rfl, _⟩ := h
    rfl
  · obtain ⟨b, rfl, k⟩ := h
    refine ⟨_, (pss_cons (ps_if (pt_val (pv 0))
    (pss_one (ps_ret pe_str))
    pss_nil)
  (pss_one (ps_ret pe_str))), ?_⟩
    walk_at "el"
    cases b
    · walk_at "el"
      exact k
    · walk_at "el"
      exact k
theorem ok_median (F : Fun K "median" "median" s_median f fd) (T : Tb mg) (hsd : mg "sorted" = none) (c__check_sizes : Cal P w K mg base (L2.CX P w) 3 "_check_sizes" ["explanations"] (spCkS CU)) : FnOk P w K mg base (L2.CX P w) 4 f fd ["one", "two", "three"] (spX3 CU) := by
  refine F.okX sc_median (fun vs H Q E h => ?_) (fun cdv A outer s H vs Q E hr h => ?_)
  · obtain ⟨_, _, _, _, _, _, rfl, _⟩ := h
    rfl
  · obtain ⟨p, q, r, x, y, z, rfl, hp, hq, hr', sm, kE, k⟩ := h
    refine ⟨_, (pss_cons (ps_expr (pe_cal c__check_sizes (hr.mono (by decide)) (passE (takes_of rfl rfl rfl rfl)) (pa_cons (pe_tup (pa_cons (pv 0) (pa_cons (pv 1) (pa_cons (pv 2) pa_nil)))) pa_nil)))
  (pss_cons (ps_setLc (i := 3) (own := [("some", 4)]) rfl sc_median.nd rfl rfl (sw_true rfl rfl rfl (by decide +kernel)) (show PI _ _ _ (iZ3 K _) from pi_z3 (by rfl) T.b.zip_ (pa_cons (pe_ix ix_seq (pv 0) pe_int (fun _ _ => rfl)) (pa_cons (pe_ix ix_seq (pv 1) pe_int (fun _ _ => rfl)) (pa_cons (pe_ix ix_seq (pv 2) pe_int (fun _ _ => rfl)) pa_nil)))) (blkOk_by (own := [("some", 4)]) (N := N_median) (sc := defScope s_median) (by decide +kernel)) (fun _ _ _ _ _ => (pg_name (i := 4) sc_median.nd rfl (Or.inl rfl))) (fun _ _ _ _ _ => pts_nil) (fun _ _ _ _ _ => (pe_ix (show IxR _ (rIx K) from ix_seq) (pe_callB (show CallR _ (.builtin "sorted") (rSrt K) from u_sorted) rfl hsd (by decide +kernel) (pa_cons (pv 4) pa_nil)) pe_int (fun _ _ => rfl))))
  (pss_cons (ps_setLc (i := 5) (own := [("some", 4)]) rfl sc_median.nd rfl rfl (sw_true rfl rfl rfl (by decide +kernel)) (show PI _ _ _ (iZ3 K _) from pi_z3 (by rfl) T.b.zip_ (pa_cons (pe_ix ix_seq (pv 0) pe_int (fun _ _ => rfl)) (pa_cons (pe_ix ix_seq (pv 1) pe_int (fun _ _ => rfl)) (pa_cons (pe_ix ix_seq (pv 2) pe_int (fun _ _ => rfl)) pa_nil)))) (blkOk_by (own := [("some", 4)]) (N := N_median) (sc := defScope s_median) (by decide +kernel)) (fun _ _ _ _ _ => (pg_name (i := 4) sc_median.nd rfl (Or.inl rfl))) (fun _ _ _ _ _ => pts_nil) (fun _ _ _ _ _ => (pe_ix (show IxR _ (rIx K) from ix_seq) (pe_callB (show CallR _ (.builtin "sorted") (rSrt K) from u_sorted) rfl hsd (by decide +kernel) (pa_cons (pv 4) pa_nil)) pe_int (fun _ _ => rfl))))
  (pss_one (ps_ret (pe_tup (pa_cons (pe_callTy u_tuple rfl T.b.tuple_ (by decide +kernel) (pa_cons (pv 3) pa_nil)) (pa_cons (pe_callTy u_tuple rfl T.b.tuple_ (by decide +kernel) (pa_cons (pv 5) pa_nil)) pa_nil)))))))), ?_⟩
    walk_at "el"
    refine ⟨by show 3 ≤ sizeLine; decide, fun m hm => ?_⟩
    have e1 := nw_of hm (.tup [.ref p, .ref q, .ref r])
    refine ⟨m, _, [x, y, z], rfl, upd_at hm _, .cons (hp.same e1) (.cons (hq.same e1) (.cons (hr'.same e1) .nil)), by show 0 < 3; decide, by show 3 ≤ 3; decide, fun m1 n1 hu H' d s' hd => kE m1 n1 hu H' d (e1.trans s') hd, fun hn H2 s2 => ?_⟩
    have k := k hn
    have eq := uneq_none hn
    obtain ⟨y1, y2⟩ := eq y (by simp)
    obtain ⟨z1, z2⟩ := eq z (by simp)
    have s02 := e1.trans s2
    obtain ⟨pa, pc, p1, p2, p3⟩ := hp.same s02
    obtain ⟨qa, qc, q1, q2, q3⟩ := hq.same s02
    obtain ⟨ra, rc, r1, r2, r3⟩ := hr'.same s02
    clear hp hq hr' e1 s2 kE hn
    walk_at "el"
    refine a_iZ3 ?_
    walk_at "el"
    refine ⟨pa, qa, ra, _, _, _, rfl, SqT.of p2, SqT.of q2, SqT.of r2, fun D hD => ?_⟩
    have nT : ∀ {a : Addr} {ys : List V}, H2 a = some (.tup ys) → a ≠ D := fun h z => by rw [z, hD] at h; cases h
    have eD := nw_of hD (.lst [])
    refine lc_of (walk_z3 (xs := ksV x) (ys := ksV y) (zs := ksV z) (by unfold ksV; rw [List.length_map, List.length_map, y1]) (by unfold ksV; rw [List.length_map, List.length_map, z1])) (fun j H3 => Kp D H2 H3 ∧ H3 D = some (.lst (((z3 maj x.1 y.1 z.1).take j).map fun b => V.str (kS b)))) ⟨same_kp eD, upd_same⟩ (fun j H3 hj h => ⟨SqT.of (h.1 _ _ (nT p2) p2), SqT.of (h.1 _ _ (nT q2) q2), SqT.of (h.1 _ _ (nT r2) r2)⟩) ?_ ?_
    · rintro j u H3 H4 hj ⟨k3, d3⟩ ⟨o, v1, v2, v3, rfl, ho, rfl, h1, h2, h3⟩
      obtain ⟨b1, hb1, rfl⟩ := ks_at h1
      obtain ⟨b2, hb2, rfl⟩ := ks_at h2
      obtain ⟨b3, hb3, rfl⟩ := ks_at h3
      have eo := nw_of ho (.tup [.str (kS b1), .str (kS b2), .str (kS b3)])
      walk_at "el"
      refine ⟨rfl, ?_⟩
      walk_at "el"
      refine .inr (.inr ⟨o, [kS b1, kS b2, kS b3], rfl, SqT.of upd_same, by show 3 < 64; decide, fun ys d pm so hd => ?_⟩)
      have es := nw_of hd (.lst (ys.map V.str))
      have d5 := es _ _ (eo _ _ d3)
      refine n_ixL (v := .str (kS (maj b1 b2 b3))) (SqL.of upd_same) ?_ ?_
      · have l3 := pm.length_eq
        have l3 : ys.length = 3 := l3
        have := maj_of pm so
        unfold atI ixN
        rw [List.length_map, l3, if_pos (by decide), if_pos (by decide)]
        show (ys.map V.str)[1]? = _
        rw [List.getElem?_map, this]
        rfl
      refine ⟨_, d5, by rw [List.length_map, List.length_take]; exact Nat.lt_of_le_of_lt (m := 8) (by have := z3_len (f := maj) (as := x.1) (bs := y.1) (cs := z.1) y1.symm z1.symm; have := sm.1; omega) (by decide), fun a o' n e => by rw [upd_ne n]; exact es _ _ (eo _ _ (k3 _ _ n e)), grow d5 (z3_at hb1 hb2 hb3)⟩
    · rintro H3 ⟨k3, d3⟩
      have s3 : Same H2 H3 := fun a o e => k3 _ _ (fun z => by rw [z, hD] at e; cases e) e
      have ll : (ksV x).length = (z3 maj x.1 y.1 z.1).length := by unfold ksV; rw [List.length_map, z3_len y1.symm z1.symm]
      rw [ll, List.take_length] at d3
      have p1 := s3 _ _ p1
      have q1 := s3 _ _ q1
      have r1 := s3 _ _ r1
      have p3 := s3 _ _ p3
      have q3 := s3 _ _ q3
      have r3 := s3 _ _ r3
      have s03 := s02.trans s3
      clear k3 eD s3 nT p2 q2 r2
      walk_at "el"
      refine a_iZ3 ?_
      walk_at "el"
      refine ⟨pc, qc, rc, _, _, _, rfl, SqT.of p3, SqT.of q3, SqT.of r3, fun D2 hD2 => ?_⟩
      have nT : ∀ {a : Addr} {ys : List V}, H3 a = some (.tup ys) → a ≠ D2 := fun h z => by rw [z, hD2] at h; cases h
      have eD := nw_of hD2 (.lst [])
      refine lc_of (walk_z3 (xs := tsV x) (ys := tsV y) (zs := tsV z) (by unfold tsV; rw [List.length_map, List.length_map, y2]) (by unfold tsV; rw [List.length_map, List.length_map, z2])) (fun j H4 => Kp D2 H3 H4 ∧ H4 D2 = some (.lst (((z3 mid x.2 y.2 z.2).take j).map V.int))) ⟨same_kp eD, upd_same⟩ (fun j H3 hj h => ⟨SqT.of (h.1 _ _ (nT p3) p3), SqT.of (h.1 _ _ (nT q3) q3), SqT.of (h.1 _ _ (nT r3) r3)⟩) ?_ ?_
      · rintro j u H4 H5 hj ⟨k4, d4⟩ ⟨o, v1, v2, v3, rfl, ho, rfl, h1, h2, h3⟩
        obtain ⟨b1, hb1, rfl⟩ := ts_at h1
        obtain ⟨b2, hb2, rfl⟩ := ts_at h2
        obtain ⟨b3, hb3, rfl⟩ := ts_at h3
        have eo := nw_of ho (.tup [.int b1, .int b2, .int b3])
        walk_at "el"
        refine ⟨rfl, ?_⟩
        walk_at "el"
        refine .inr (.inl ⟨o, [b1, b2, b3], rfl, SqT.of upd_same, by show 3 < 64; decide, fun ys d pm so hd => ?_⟩)
        have es := nw_of hd (.lst (ys.map V.int))
        have d5 := es _ _ (eo _ _ d4)
        refine n_ixL (v := .int (mid b1 b2 b3)) (SqL.of upd_same) ?_ ?_
        · have l3 : ys.length = 3 := pm.length_eq
          have := mid_of pm so
          unfold atI ixN
          rw [List.length_map, l3, if_pos (by decide), if_pos (by decide)]
          show (ys.map V.int)[1]? = _
          rw [List.getElem?_map, this]
          rfl
        refine ⟨_, d5, by rw [List.length_map, List.length_take]; exact Nat.lt_of_le_of_lt (m := 8) (by have := z3_len (f := mid) (as := x.2) (bs := y.2) (cs := z.2) y2.symm z2.symm; have := sm.2; omega) (by decide), fun a o' n e => by rw [upd_ne n]; exact es _ _ (eo _ _ (k4 _ _ n e)), grow d5 (z3_at hb1 hb2 hb3)⟩
      · rintro H4 ⟨k4, d4⟩
        have s4 : Same H3 H4 := fun a o e => k4 _ _ (fun z => by rw [z, hD2] at e; cases e) e
        have l2 : (tsV x).length = (z3 mid x.2 y.2 z.2).length := by unfold tsV; rw [List.length_map, z3_len y2.symm z2.symm]
        rw [l2, List.take_length] at d4
        have d3' := s4 _ _ d3
        walk_at "el"
        refine ⟨_, _, rfl, .inl ⟨SqL.of d3', fun o1 h1 => ?_⟩⟩
        have e5 := nw_of h1 (.tup ((z3 maj x.1 y.1 z.1).map fun b => V.str (kS b)))
        have d4' := e5 _ _ d4
        have g5 := upd_at h1 (.tup ((z3 maj x.1 y.1 z.1).map fun b => V.str (kS b)))
        walk_at "el"
        refine ⟨_, _, rfl, .inl ⟨SqL.of d4', fun o2 h2 => ?_⟩⟩
        have e6 := nw_of h2 (.tup ((z3 mid x.2 y.2 z.2).map V.int))
        have g6 := upd_at h2 (.tup ((z3 mid x.2 y.2 z.2).map V.int))
        have g5 := e6 _ _ g5
        walk_at "el"
        refine ⟨by show 2 ≤ sizeLine; decide, fun o3 h3 => ?_⟩
        have e7 := nw_of h3 (.tup [.ref o1, .ref o2])
        exact k _ o3 ((((s03.trans s4).trans e5).trans e6).trans e7) ⟨o1, o2, upd_same, e7 _ _ g5, e7 _ _ g6⟩
theorem ok_joined (F : Fun K "joined" "joined" s_joined f fd) (T : Tb mg) (c__check_sizes : Cal P w K mg base (L2.CX P w) 3 "_check_sizes" ["explanations"] (spCkS CU)) (c__early_if : Cal P w K mg base CX0 1 "_early_if" ["truth"] spEar) : FnOk P w K mg base (L2.CX P w) 4 f fd ["one", "other"] (spX2 CU joinF) := by
  refine F.okX sc_joined (fun vs H Q E h => ?_) (fun cdv A outer s H vs Q E hr h => ?_)
  · obtain ⟨_, _, _, _, rfl, _⟩ := h
    rfl
  · obtain ⟨p, q, x, y, rfl, hp, hq, sm, kE, k⟩ := h
    refine ⟨_, (pss_cons (ps_expr (pe_cal c__check_sizes (hr.mono (by decide)) (passE (takes_of rfl rfl rfl rfl)) (pa_cons (pe_tup (pa_cons (pv 0) (pa_cons (pv 1) pa_nil))) pa_nil)))
  (pss_cons (ps_setLc (i := 2) (own := [("pair", 3)]) rfl sc_joined.nd rfl rfl (sw_true rfl rfl rfl (by decide +kernel)) (show PI _ _ _ (iZn K _) from pi_zn (by rfl) T.b.zip_ (pa_cons (pe_ix ix_seq (pv 0) pe_int (fun _ _ => rfl)) (pa_cons (pe_ix ix_seq (pv 1) pe_int (fun _ _ => rfl)) pa_nil))) (blkOk_by (own := [("pair", 3)]) (N := N_joined) (sc := defScope s_joined) (by decide +kernel)) (fun _ _ _ _ _ => (pg_name (i := 3) sc_joined.nd rfl (Or.inl rfl))) (fun _ _ _ _ _ => pts_nil) (fun _ _ _ _ _ => (pe_cal c__early_if (hr.mono (by decide)) pass0 (pa_cons (pe_cmpR (show OpR _ (compareOp .In) (rIn K false) from u_in) pe_str (pv 3) rfl) pa_nil))))
  (pss_one (ps_ret (pe_tup (pa_cons (pe_callTy u_tuple rfl T.b.tuple_ (by decide +kernel) (pa_cons (pv 2) pa_nil)) (pa_cons (pe_callTy u_tuple rfl T.b.tuple_ (by decide +kernel) (pa_cons (pe_lc (own := [("pair", 3)]) rfl sc_joined.nd (show PI _ _ _ (iZn K _) from pi_zn (by rfl) T.b.zip_ (pa_cons (pe_ix ix_seq (pv 0) pe_int (fun _ _ => rfl)) (pa_cons (pe_ix ix_seq (pv 1) pe_int (fun _ _ => rfl)) pa_nil))) (blkOk_by (own := [("pair", 3)]) (N := N_joined) (sc := defScope s_joined) (by decide +kernel)) (fun _ _ _ _ _ => (pg_name (i := 3) sc_joined.nd rfl (Or.inl rfl))) (fun _ _ _ _ _ => pts_nil) (fun _ _ _ _ _ => (pe_callB (show CallR _ (.builtin "max") (rMaxT K) from cr_maxT rfl) rfl T.b.max_ (by decide +kernel) (pa_cons (pv 3) pa_nil)))) pa_nil)) pa_nil))))))), ?_⟩
    walk_at "el"
    refine ⟨by show 2 ≤ sizeLine; decide, fun m hm => ?_⟩
    have e1 := nw_of hm (.tup [.ref p, .ref q])
    refine ⟨m, _, [x, y], rfl, upd_at hm _, .cons (hp.same e1) (.cons (hq.same e1) .nil), by show 0 < 2; decide, by show 2 ≤ 3; decide, fun m1 n1 hu H' d s' hd => kE m1 n1 hu H' d (e1.trans s') hd, fun hn H2 s2 => ?_⟩
    have k := k hn
    have eq := uneq_none hn
    obtain ⟨y1, y2⟩ := eq y (by simp)
    have s02 := e1.trans s2
    obtain ⟨pa, pc, p1, p2, p3⟩ := hp.same s02
    obtain ⟨qa, qc, q1, q2, q3⟩ := hq.same s02
    clear hp hq e1 s2 kE hn
    walk_at "el"
    refine a_iZn ?_
    walk_at "el"
    refine ⟨pa, qa, _, _, rfl, SqT.of p2, SqT.of q2, fun D hD => ?_⟩
    have nT : ∀ {a : Addr} {ys : List V}, H2 a = some (.tup ys) → a ≠ D := fun h z => by rw [z, hD] at h; cases h
    have eD := nw_of hD (.lst [])
    refine lc_of (walk_zn (xs := ksV x) (ys := ksV y) (by unfold ksV; rw [List.length_map, List.length_map, y1])) (fun j H3 => Kp D H2 H3 ∧ H3 D = some (.lst (((joinF x y).1.take j).map fun b => V.str (kS b)))) ⟨same_kp eD, upd_same⟩ (fun j H3 hj h => ⟨SqT.of (h.1 _ _ (nT p2) p2), SqT.of (h.1 _ _ (nT q2) q2)⟩) ?_ ?_
    · rintro j u H3 H4 hj ⟨k3, d3⟩ ⟨o, v1, v2, rfl, ho, rfl, h1, h2⟩
      obtain ⟨b1, hb1, rfl⟩ := ks_at h1
      obtain ⟨b2, hb2, rfl⟩ := ks_at h2
      have eo := nw_of ho (.tup [.str (kS b1), .str (kS b2)])
      walk_at "el"
      refine ⟨rfl, ?_⟩
      walk_at "el"
      refine ⟨o, [.str (kS b1), .str (kS b2)], rfl, .inr (SqT.of upd_same), rfl, rfl, ?_⟩
      have ei : inV (.str "early") [.str (kS b1), .str (kS b2)] = (b1 || b2) := by cases b1 <;> cases b2 <;> decide +kernel
      rw [ei]
      walk_at "el"
      refine ⟨_, rfl, ?_⟩
      have d5 := eo _ _ d3
      refine ⟨_, d5, by rw [List.length_map, List.length_take]; exact Nat.lt_of_le_of_lt (m := 8) (by have : (joinF x y).1.length = x.1.length := z3_len y1.symm y1.symm; have := sm.1; omega) (by decide), fun a o' n e => by rw [upd_ne n]; exact eo _ _ (k3 _ _ n e), grow (g := fun b => V.str (kS b)) (l := (joinF x y).1) (a := b1 || b2) d5 (z3_at hb1 hb2 hb2)⟩
    · rintro H3 ⟨k3, d3⟩
      have s3 : Same H2 H3 := fun a o e => k3 _ _ (fun z => by rw [z, hD] at e; cases e) e
      have ll : (ksV x).length = (joinF x y).1.length := by unfold ksV; rw [List.length_map]; exact (z3_len y1.symm y1.symm).symm
      rw [ll, List.take_length] at d3
      have p1 := s3 _ _ p1
      have q1 := s3 _ _ q1
      have p3 := s3 _ _ p3
      have q3 := s3 _ _ q3
      have s03 := s02.trans s3
      clear k3 eD s3 nT p2 q2
      walk_at "el"
      refine ⟨_, _, rfl, .inl ⟨SqL.of d3, fun o1 h1 => ?_⟩⟩
      have e5 := nw_of h1 (.tup ((joinF x y).1.map fun b => V.str (kS b)))
      have g5 := upd_at h1 (.tup ((joinF x y).1.map fun b => V.str (kS b)))
      have p1 := e5 _ _ p1
      have q1 := e5 _ _ q1
      have p3 := e5 _ _ p3
      have q3 := e5 _ _ q3
      have s05 := s03.trans e5
      generalize upd H3 o1 (.tup ((joinF x y).1.map fun b => V.str (kS b))) = H5 at g5 p1 q1 p3 q3 s05 ⊢
      clear e5 s03 d3
      walk_at "el"
      refine a_iZn ?_
      walk_at "el"
      refine ⟨pc, qc, _, _, rfl, SqT.of p3, SqT.of q3, fun D2 hD2 => ?_⟩
      have nT : ∀ {a : Addr} {ys : List V}, H5 a = some (.tup ys) → a ≠ D2 := fun h z => by rw [z, hD2] at h; cases h
      have eD := nw_of hD2 (.lst [])
      refine lc_of (walk_zn (xs := tsV x) (ys := tsV y) (by unfold tsV; rw [List.length_map, List.length_map, y2])) (fun j H4 => Kp D2 H5 H4 ∧ H4 D2 = some (.lst (((joinF x y).2.take j).map V.int))) ⟨same_kp eD, upd_same⟩ (fun j H3 hj h => ⟨SqT.of (h.1 _ _ (nT p3) p3), SqT.of (h.1 _ _ (nT q3) q3)⟩) ?_ ?_
      · rintro j u H4 H5' hj ⟨k4, d4⟩ ⟨o, v1, v2, rfl, ho, rfl, h1, h2⟩
        obtain ⟨b1, hb1, rfl⟩ := ts_at h1
        obtain ⟨b2, hb2, rfl⟩ := ts_at h2
        have eo := nw_of ho (.tup [.int b1, .int b2])
        walk_at "el"
        refine ⟨rfl, ?_⟩
        walk_at "el"
        refine ⟨o, [b1, b2], rfl, SqT.of upd_same, by show 0 < 2; decide, fun mm hmm hall => ?_⟩
        have em : mm = max b1 b2 := by
          have a1 := hall b1 (by simp)
          have a2 := hall b2 (by simp)
          have a3 : mm = b1 ∨ mm = b2 := by simpa using hmm
          omega
        subst em
        have d5 := eo _ _ d4
        refine ⟨_, d5, by rw [List.length_map, List.length_take]; exact Nat.lt_of_le_of_lt (m := 8) (by have : (joinF x y).2.length = x.2.length := z3_len y2.symm y2.symm; have := sm.2; omega) (by decide), fun a o' n e => by rw [upd_ne n]; exact eo _ _ (k4 _ _ n e), grow (g := V.int) (l := (joinF x y).2) (a := max b1 b2) d5 (z3_at hb1 hb2 hb2)⟩
      · rintro H4 ⟨k4, d4⟩
        have s4 : Same H5 H4 := fun a o e => k4 _ _ (fun z => by rw [z, hD2] at e; cases e) e
        have l2 : (tsV x).length = (joinF x y).2.length := by unfold tsV; rw [List.length_map]; exact (z3_len y2.symm y2.symm).symm
        rw [l2, List.take_length] at d4
        have g5 := s4 _ _ g5
        walk_at "el"
        refine ⟨_, _, rfl, .inl ⟨SqL.of d4, fun o2 h2 => ?_⟩⟩
        have e6 := nw_of h2 (.tup ((joinF x y).2.map V.int))
        have g6 := upd_at h2 (.tup ((joinF x y).2.map V.int))
        have g5 := e6 _ _ g5
        walk_at "el"
        refine ⟨by show 2 ≤ sizeLine; decide, fun o3 h3 => ?_⟩
        have e7 := nw_of h3 (.tup [.ref o1, .ref o2])
        exact k _ o3 (((s05.trans s4).trans e6).trans e7) ⟨o1, o2, upd_same, e7 _ _ g5, e7 _ _ g6⟩
theorem ok_met (F : Fun K "met" "met" s_met f fd) (T : Tb mg) (c__check_sizes : Cal P w K mg base (L2.CX P w) 3 "_check_sizes" ["explanations"] (spCkS CU)) (c__early_if : Cal P w K mg base CX0 1 "_early_if" ["truth"] spEar) : FnOk P w K mg base (L2.CX P w) 4 f fd ["one", "other"] (spX2 CU metF) := by
  refine F.okX sc_met (fun vs H Q E h => ?_) (fun cdv A outer s H vs Q E hr h => ?_)
  · obtain ⟨_, _, _, _, rfl, _⟩ := h
    rfl
  · obtain ⟨p, q, x, y, rfl, hp, hq, sm, kE, k⟩ := h
    refine ⟨_, (pss_cons (ps_expr (pe_cal c__check_sizes (hr.mono (by decide)) (passE (takes_of rfl rfl rfl rfl)) (pa_cons (pe_tup (pa_cons (pv 0) (pa_cons (pv 1) pa_nil))) pa_nil)))
  (pss_cons (ps_setLc (i := 2) (own := [("pair", 3)]) rfl sc_met.nd rfl rfl (sw_true rfl rfl rfl (by decide +kernel)) (show PI _ _ _ (iZn K _) from pi_zn (by rfl) T.b.zip_ (pa_cons (pe_ix ix_seq (pv 0) pe_int (fun _ _ => rfl)) (pa_cons (pe_ix ix_seq (pv 1) pe_int (fun _ _ => rfl)) pa_nil))) (blkOk_by (own := [("pair", 3)]) (N := N_met) (sc := defScope s_met) (by decide +kernel)) (fun _ _ _ _ _ => (pg_name (i := 3) sc_met.nd rfl (Or.inl rfl))) (fun _ _ _ _ _ => pts_nil) (fun _ _ _ _ _ => (pe_cal c__early_if (hr.mono (by decide)) pass0 (pa_cons (pe_cmpR (show OpR _ (compareOp .NotIn) (rIn K true) from u_notin) pe_str (pv 3) rfl) pa_nil))))
  (pss_one (ps_ret (pe_tup (pa_cons (pe_callTy u_tuple rfl T.b.tuple_ (by decide +kernel) (pa_cons (pv 2) pa_nil)) (pa_cons (pe_callTy u_tuple rfl T.b.tuple_ (by decide +kernel) (pa_cons (pe_lc (own := [("pair", 3)]) rfl sc_met.nd (show PI _ _ _ (iZn K _) from pi_zn (by rfl) T.b.zip_ (pa_cons (pe_ix ix_seq (pv 0) pe_int (fun _ _ => rfl)) (pa_cons (pe_ix ix_seq (pv 1) pe_int (fun _ _ => rfl)) pa_nil))) (blkOk_by (own := [("pair", 3)]) (N := N_met) (sc := defScope s_met) (by decide +kernel)) (fun _ _ _ _ _ => (pg_name (i := 3) sc_met.nd rfl (Or.inl rfl))) (fun _ _ _ _ _ => pts_nil) (fun _ _ _ _ _ => (pe_callB (show CallR _ (.builtin "min") (rMinT K) from cr_minT rfl) rfl T.b.min_ (by decide +kernel) (pa_cons (pv 3) pa_nil)))) pa_nil)) pa_nil))))))), ?_⟩
    walk_at "el"
    refine ⟨by show 2 ≤ sizeLine; decide, fun m hm => ?_⟩
    have e1 := nw_of hm (.tup [.ref p, .ref q])
    refine ⟨m, _, [x, y], rfl, upd_at hm _, .cons (hp.same e1) (.cons (hq.same e1) .nil), by show 0 < 2; decide, by show 2 ≤ 3; decide, fun m1 n1 hu H' d s' hd => kE m1 n1 hu H' d (e1.trans s') hd, fun hn H2 s2 => ?_⟩
    have k := k hn
    have eq := uneq_none hn
    obtain ⟨y1, y2⟩ := eq y (by simp)
    have s02 := e1.trans s2
    obtain ⟨pa, pc, p1, p2, p3⟩ := hp.same s02
    obtain ⟨qa, qc, q1, q2, q3⟩ := hq.same s02
    clear hp hq e1 s2 kE hn
    walk_at "el"
    refine a_iZn ?_
    walk_at "el"
    refine ⟨pa, qa, _, _, rfl, SqT.of p2, SqT.of q2, fun D hD => ?_⟩
    have nT : ∀ {a : Addr} {ys : List V}, H2 a = some (.tup ys) → a ≠ D := fun h z => by rw [z, hD] at h; cases h
    have eD := nw_of hD (.lst [])
    refine lc_of (walk_zn (xs := ksV x) (ys := ksV y) (by unfold ksV; rw [List.length_map, List.length_map, y1])) (fun j H3 => Kp D H2 H3 ∧ H3 D = some (.lst (((metF x y).1.take j).map fun b => V.str (kS b)))) ⟨same_kp eD, upd_same⟩ (fun j H3 hj h => ⟨SqT.of (h.1 _ _ (nT p2) p2), SqT.of (h.1 _ _ (nT q2) q2)⟩) ?_ ?_
    · rintro j u H3 H4 hj ⟨k3, d3⟩ ⟨o, v1, v2, rfl, ho, rfl, h1, h2⟩
      obtain ⟨b1, hb1, rfl⟩ := ks_at h1
      obtain ⟨b2, hb2, rfl⟩ := ks_at h2
      have eo := nw_of ho (.tup [.str (kS b1), .str (kS b2)])
      walk_at "el"
      refine ⟨rfl, ?_⟩
      walk_at "el"
      refine ⟨o, [.str (kS b1), .str (kS b2)], rfl, .inr (SqT.of upd_same), rfl, rfl, ?_⟩
      have ei : (!inV (.str "late") [.str (kS b1), .str (kS b2)]) = (b1 && b2) := by cases b1 <;> cases b2 <;> decide +kernel
      rw [ei]
      walk_at "el"
      refine ⟨_, rfl, ?_⟩
      have d5 := eo _ _ d3
      refine ⟨_, d5, by rw [List.length_map, List.length_take]; exact Nat.lt_of_le_of_lt (m := 8) (by have : (metF x y).1.length = x.1.length := z3_len y1.symm y1.symm; have := sm.1; omega) (by decide), fun a o' n e => by rw [upd_ne n]; exact eo _ _ (k3 _ _ n e), grow (g := fun b => V.str (kS b)) (l := (metF x y).1) (a := b1 && b2) d5 (z3_at hb1 hb2 hb2)⟩
    · rintro H3 ⟨k3, d3⟩
      have s3 : Same H2 H3 := fun a o e => k3 _ _ (fun z => by rw [z, hD] at e; cases e) e
      have ll : (ksV x).length = (metF x y).1.length := by unfold ksV; rw [List.length_map]; exact (z3_len y1.symm y1.symm).symm
      rw [ll, List.take_length] at d3
      have p1 := s3 _ _ p1
      have q1 := s3 _ _ q1
      have p3 := s3 _ _ p3
      have q3 := s3 _ _ q3
      have s03 := s02.trans s3
      clear k3 eD s3 nT p2 q2
      walk_at "el"
      refine ⟨_, _, rfl, .inl ⟨SqL.of d3, fun o1 h1 => ?_⟩⟩
      have e5 := nw_of h1 (.tup ((metF x y).1.map fun b => V.str (kS b)))
      have g5 := upd_at h1 (.tup ((metF x y).1.map fun b => V.str (kS b)))
      have p1 := e5 _ _ p1
      have q1 := e5 _ _ q1
      have p3 := e5 _ _ p3
      have q3 := e5 _ _ q3
      have s05 := s03.trans e5
      generalize upd H3 o1 (.tup ((metF x y).1.map fun b => V.str (kS b))) = H5 at g5 p1 q1 p3 q3 s05 ⊢
      clear e5 s03 d3
      walk_at "el"
      refine a_iZn ?_
      walk_at "el"
      refine ⟨pc, qc, _, _, rfl, SqT.of p3, SqT.of q3, fun D2 hD2 => ?_⟩
      have nT : ∀ {a : Addr} {ys : List V}, H5 a = some (.tup ys) → a ≠ D2 := fun h z => by rw [z, hD2] at h; cases h
      have eD := nw_of hD2 (.lst [])
      refine lc_of (walk_zn (xs := tsV x) (ys := tsV y) (by unfold tsV; rw [List.length_map, List.length_map, y2])) (fun j H4 => Kp D2 H5 H4 ∧ H4 D2 = some (.lst (((metF x y).2.take j).map V.int))) ⟨same_kp eD, upd_same⟩ (fun j H3 hj h => ⟨SqT.of (h.1 _ _ (nT p3) p3), SqT.of (h.1 _ _ (nT q3) q3)⟩) ?_ ?_
      · rintro j u H4 H5' hj ⟨k4, d4⟩ ⟨o, v1, v2, rfl, ho, rfl, h1, h2⟩
        obtain ⟨b1, hb1, rfl⟩ := ts_at h1
        obtain ⟨b2, hb2, rfl⟩ := ts_at h2
        have eo := nw_of ho (.tup [.int b1, .int b2])
        walk_at "el"
        refine ⟨rfl, ?_⟩
        walk_at "el"
        refine ⟨o, [b1, b2], rfl, SqT.of upd_same, by show 0 < 2; decide, fun mm hmm hall => ?_⟩
        have em : mm = min b1 b2 := by
          have a1 := hall b1 (by simp)
          have a2 := hall b2 (by simp)
          have a3 : mm = b1 ∨ mm = b2 := by simpa using hmm
          omega
        subst em
        have d5 := eo _ _ d4
        refine ⟨_, d5, by rw [List.length_map, List.length_take]; exact Nat.lt_of_le_of_lt (m := 8) (by have : (metF x y).2.length = x.2.length := z3_len y2.symm y2.symm; have := sm.2; omega) (by decide), fun a o' n e => by rw [upd_ne n]; exact eo _ _ (k4 _ _ n e), grow (g := V.int) (l := (metF x y).2) (a := min b1 b2) d5 (z3_at hb1 hb2 hb2)⟩
      · rintro H4 ⟨k4, d4⟩
        have s4 : Same H5 H4 := fun a o e => k4 _ _ (fun z => by rw [z, hD2] at e; cases e) e
        have l2 : (tsV x).length = (metF x y).2.length := by unfold tsV; rw [List.length_map]; exact (z3_len y2.symm y2.symm).symm
        rw [l2, List.take_length] at d4
        have g5 := s4 _ _ g5
        walk_at "el"
        refine ⟨_, _, rfl, .inl ⟨SqL.of d4, fun o2 h2 => ?_⟩⟩
        have e6 := nw_of h2 (.tup ((metF x y).2.map V.int))
        have g6 := upd_at h2 (.tup ((metF x y).2.map V.int))
        have g5 := e6 _ _ g5
        walk_at "el"
        refine ⟨by show 2 ≤ sizeLine; decide, fun o3 h3 => ?_⟩
        have e7 := nw_of h3 (.tup [.ref o1, .ref o2])
        exact k _ o3 (((s05.trans s4).trans e6).trans e7) ⟨o1, o2, upd_same, e7 _ _ g5, e7 _ _ g6⟩
end
end EL

/- part K50B -/
namespace EL
open PySem PySem.Spec PyProof.Rows L2
open PySem.W (Frag)
abbrev s_alike : Stmt := top 15
abbrev N_alike : List Str := ["_law_found", "_law_due"]
theorem sc_alike : FnScope N_alike ["_law_found", "_law_due"] (defScope s_alike) := ⟨rfl, rfl, rfl, by decide +kernel, rfl, by decide +kernel, by decide +kernel⟩
abbrev s_any : Stmt := top 16
abbrev N_any : List Str := ["_law_bag_here"]
theorem sc_any : FnScope N_any ["_law_bag_here"] (defScope s_any) := ⟨rfl, rfl, rfl, by decide +kernel, rfl, by decide +kernel, by decide +kernel⟩
abbrev s_drawn : Stmt := top 17
abbrev N_drawn : List Str := ["_law_bag_here", "_law_witnesses", "_law_events", "_law_w", "_law_e"]
theorem sc_drawn : FnScope N_drawn ["_law_bag_here", "_law_witnesses", "_law_events"] (defScope s_drawn) := ⟨rfl, rfl, rfl, by decide +kernel, rfl, by decide +kernel, by decide +kernel⟩
abbrev s_middle : Stmt := top 18
abbrev N_middle : List Str := ["_law_some", "_law_kinds", "_law_one_here", "_law_w", "_law_e"]
theorem sc_middle : FnScope N_middle ["_law_some"] (defScope s_middle) := ⟨rfl, rfl, rfl, by decide +kernel, rfl, by decide +kernel, by decide +kernel⟩
abbrev s_ends : Stmt := top 19
abbrev N_ends : List Str := ["_law_some", "_law_kind_here", "_law_spot", "_law_kinds", "_law_rest", "_law_w", "_law_one_here", "_law_times", "_law_e"]
theorem sc_ends : FnScope N_ends ["_law_some", "_law_kind_here", "_law_spot"] (defScope s_ends) := ⟨rfl, rfl, rfl, by decide +kernel, rfl, by decide +kernel, by decide +kernel⟩
abbrev s_unequal : Stmt := top 21
abbrev N_unequal : List Str := ["_law_some", "_law_part", "_law_other"]
theorem sc_unequal : FnScope N_unequal ["_law_some"] (defScope s_unequal) := ⟨rfl, rfl, rfl, by decide +kernel, rfl, by decide +kernel, by decide +kernel⟩
local macro_rules | `(tactic| walk_at "el1") => `(tactic| with_reducible first
  | refine a_sasg ?_ | refine a_sdrop ?_ | refine a_saugS ?_ | refine a_spar ?_ | refine a_seq ?_ | refine a_asg ?_ | refine a_drop ?_ | refine a_ret ?_ | refine a_if ?_ | refine a_next ?_
  | refine a_op ?_ | refine a_cons ?_ | refine a_nil ?_ | refine a_cb ?_ | refine a_call ?_ | refine a_c ?_ | refine a_gn ?_ | refine a_nx ?_ | refine a_rt ?_ | refine a_un ?_
  | refine a_test ?_ | refine a_B ?_ | refine a_bl ?_ | refine a_and ?_ | refine a_or ?_ | refine a_not ?_ | refine a_andV ?_ | refine a_orV ?_ | refine a_notV ?_ | refine a_ifx ?_ | refine a_chain ?_
  | refine a_nT ?_ | refine a_nF ?_ | refine a_fld ?_ | refine a_getF ?_ | refine a_T ?_ | refine a_F ?_ | refine a_tup ?_ | refine a_lst ?_ | refine a_sub ?_ | refine a_augS ?_ | refine a_two ?_ | refine a_I0 ?_ | refine a_U ?_ | refine n_add ?_ | refine n_int ?_ | refine n_ib ?_ | refine a_ip ?_ | refine a_rng1 ?_ | refine a_rng2 ?_ | refine a_bm ?_ | refine a_abs ?_ | refine a_pairs ?_ | refine a_pairs0 ?_ | refine a_bk ?_ | refine a_prp ?_ | refine a_lc ?_ | refine a_yes ?_ | refine a_sl ?_ | refine a_nop ?_ | refine a_prt ?_ | refine a_ex1 ?_ | refine a_for ?_ | refine a_sfor ?_ | refine a_iE1 ?_ | refine a_iEs ?_ | refine a_iEz ?_ | refine a_iEnum ?_ | refine a_iTup ?_ | refine a_iList ?_ | refine a_gcons ?_ | refine a_gnil ?_ | refine a_revT ?_ | refine a_spar3 ?_ | refine a_par3 ?_ | refine a_three ?_)
local macro_rules | `(tactic| walk_at "el2") => `(tactic| first
  | (refine a_var (by rfl) ?_)
  | (refine n_ixL (SqL.of (by assumption)) (by rfl) ?_) | (refine n_ixT (SqT.of (by assumption)) (by rfl) ?_) | (refine n_eq (by rfl) ?_) | (refine n_ne (by rfl) ?_)
  | (refine n_isN ?_) | (refine n_notN ?_) | (refine n_isB ?_) | (refine n_notB ?_) | (refine n_isBI ?_) | (refine n_notBI ?_) | (refine n_len (.inl (SqL.of (by assumption))) ?_) | (refine n_len (.inr (SqT.of (by assumption))) ?_)
  | (refine a_getL (SqL.of (by assumption)) (by rfl) ?_)
  | (refine n_isInt (by assumption) ?_) | (refine n_isBool (by assumption) ?_) | (refine n_isStr (by assumption) ?_) | (refine n_isTup (by assumption) ?_) | (refine n_isLst (by assumption) ?_))
local macro_rules | `(tactic| walk_at "el") => `(tactic| repeat (first | walk_at "el1" | walk_at "el2"))

def exD (x : Xn) : PyData := .tuple [.tuple (x.1.map fun b => .str (kS b)), .tuple (x.2.map .int)]
theorem dp_ks {K : Frag} {H : Hp} : ∀ l : List Bool, DpAll K H (l.map fun b => V.str (kS b)) (l.map fun b => PyData.str (kS b))
  | [] => .nil
  | b :: r => .cons (.str _) (dp_ks r)
theorem dp_ts {K : Frag} {H : Hp} : ∀ l : List Int, DpAll K H (l.map V.int) (l.map PyData.int)
  | [] => .nil
  | b :: r => .cons (.int _) (dp_ts r)
theorem ExAt.dp {K : Frag} {H : Hp} {p : Addr} {x : Xn} (h : ExAt H p x) : Dp K H (.ref p) (exD x) := by
  obtain ⟨a, c, h1, h2, h3⟩ := h
  exact .tup (SqT.of h1) (.cons (.tup (SqT.of h2) (dp_ks x.1)) (.cons (.tup (SqT.of h3) (dp_ts x.2)) .nil))
def Bd (x : Xn) : Prop := Sm x ∧ ∀ t ∈ x.2, t.natAbs < 10 ^ 40
theorem sz_kS (b : Bool) : Sz 5 0 (.str (kS b)) := by
  cases b
  · exact (sz_str (s := kS false) (by decide +kernel)).le (by decide +kernel) (Nat.le_refl _)
  · exact (sz_str (s := kS true) (by decide +kernel)).le (by decide +kernel) (Nat.le_refl _)
theorem sz_ex {x : Xn} (h : Bd x) : Sz 200 2 (exD x) := by
  obtain ⟨⟨l1, l2⟩, ht⟩ := h
  have a : Sz 48 1 (.tuple (x.1.map fun b => .str (kS b))) := (sz_tup (n := 5) (k := 0) fun d hd => by
    obtain ⟨b, _, rfl⟩ := List.mem_map.mp hd
    exact sz_kS b).le (by rw [List.length_map]; omega) (Nat.le_refl _)
  have c : Sz 48 1 (.tuple (x.2.map .int)) := (sz_tup (n := 0) (k := 0) fun d hd => by
    obtain ⟨b, hb, rfl⟩ := List.mem_map.mp hd
    exact sz_int (ht b hb)).le (by rw [List.length_map]; omega) (Nat.le_refl _)
  exact (sz_tup (ds := [_, _]) (all_cons a (all_cons c all_nil))).le (by show 2 * (48 + 1) ≤ 200; decide) (Nat.le_refl _)
def Eqs (x y : Xn) : Prop := y.1.length = x.1.length ∧ y.2.length = x.2.length
def spMid : Sp := fun vs H Q _ => ∃ (l p q r : Addr) (x y z : Xn), vs = [.ref l] ∧ H l = some (.lst [.ref p, .ref q, .ref r]) ∧ ExAt H p x ∧ ExAt H q y ∧ ExAt H r z ∧ Sm x ∧ Eqs x y ∧ Eqs x z ∧ ∀ H' o, Same H H' → ExAt H' o (midF x y z) → Q (.ref o) H'
def spEnds2 : Sp := fun vs H Q _ => ∃ (l p q : Addr) (x y : Xn) (b : Bool), vs = [.ref l, .str (kS b), .int (if b then -1 else 0)] ∧ H l = some (.lst [.ref p, .ref q]) ∧ ExAt H p x ∧ ExAt H q y ∧ Sm x ∧ Eqs x y ∧ ∀ H' o, Same H H' → ExAt H' o (if b then joinF x y else metF x y) → Q (.ref o) H'
def spUneq : Sp := fun vs H Q _ => ∃ (l : Addr) (ps : List V) (xs : List Xn), vs = [.ref l] ∧ H l = some (.lst ps) ∧ Exs H ps xs ∧ 0 < xs.length ∧ xs.length ≤ 3 ∧ (uneq xs = none → ∀ H', Same H H' → Q .non H') ∧ ∀ m n, uneq xs = some (m, n) → ∀ H' o, Same H H' → H' o = some (.tup [.str "unequal", .int (m : Nat), .int (n : Nat)]) → Q (.ref o) H'
def spAlk (K : Frag) : Sp := fun vs H Q _ => ∃ (x y : V) (d : PyData), vs = [x, y] ∧ Dp K H x d ∧ Dp K H y d ∧ SeqAt.shaped d = true ∧ Fine d ∧ Q (.bl true) H
def spAnyT : Sp := fun vs H Q _ => ∃ b c, vs = [.ref b] ∧ Bag H b c ∧ ∀ (r : Int) H', r.natAbs < 10 ^ 40 → Bag H' b c → Kp b H H' → Q (.int r) H'
def spDrX : Sp := fun vs H Q _ => ∃ (b c : Addr) (n m : Nat), vs = [.ref b, .int n, .int m] ∧ Bag H b c ∧ n ≤ 8 ∧ m ≤ 8 ∧ ∀ (x : Xn) H' p, Bd x → ExAt H' p x → Bag H' b c → Kp b H H' → Q (.ref p) H'
theorem cut_tail (p : V) (r : List V) : cutV (p :: r) (some 1) none = r := by
  unfold cutV HT.sIx
  simp
theorem dif_self {n : Nat} {x : Xn} {r : List Xn} : dif n (szP n x) (x :: r) = dif n (szP n x) (r.drop 0) := if_pos rfl
theorem bagMv {H : Hp} {b c q : Addr} {o : HO} (h : Bag H b c) (nb : q ≠ b) (nc : q ≠ c) : Bag (upd H q o) b c := by
  obtain ⟨i, j, n, cs, h1, h2, r⟩ := h
  exact ⟨i, j, n, cs, by rw [upd_ne nb.symm]; exact h1, by rw [upd_ne nc.symm]; exact h2, r⟩
theorem bagNd {H : Hp} {b c q : Addr} (h : Bag H b c) (hq : H q = none) : q ≠ c := fun z => by
  obtain ⟨_, _, _, _, _, h2, _⟩ := h
  subst z
  rw [h2] at hq
  cases hq
section
variable {P : Program} {w : World} {K : Frag} {mg : Str → Option Value} {base : Heap} {f CU : Addr} {fd : FuncData}
theorem ok_alike (F : Fun K "_law_alike" "_law_alike" s_alike f fd) (T : Tb mg) : FnG P w K mg base CX0 1 f fd ["_law_found", "_law_due"] (spAlk K) := by
  refine fnG_of F sc_alike (fun vs H Q E h => ?_) (fun cdv A outer s H vs Q E hr hq h => ?_)
  · obtain ⟨_, _, _, rfl, _⟩ := h
    rfl
  · obtain ⟨x, y, d, rfl, hx, hy, sh, fi, k⟩ := h
    refine ⟨_, PSs.nox (pss_one (ps_ret (pe_and (pe_cmpR (u_eq hr.units) (pv 0) (pv 1) (nomark _)) (pe_one (pe_cmpR (u_eq hr.units) (pe_callB (u_show hq hr.units) rfl T.b.repr_ (by decide +kernel) (pa_cons (pv 0) pa_nil)) (pe_callB (u_show hq hr.units) rfl T.b.repr_ (by decide +kernel) (pa_cons (pv 1) pa_nil)) (nomark _)))))), ?_⟩
    walk_at "el"
    refine n_eqD hx hy sh sh ?_
    rw [PySem.SeqAt.eqv_refl _ (Bool.and_eq_true_iff.mp sh).1]
    walk_at "el"
    have shw : ∀ {v : V} {Q' : VK}, Dp K H v d → Q' (.str d.shown) H → rShowU K [v] H Q' := fun hv q => .inl ⟨_, d, rfl, hv, gd_showable d fi.good, by have := fi.depth; omega, fi.len, q⟩
    refine shw hx ?_
    walk_at "el"
    refine shw hy ?_
    walk_at "el"
    rw [decide_eq_true rfl]
    exact k
theorem ok_any (F : Fun K "_law_any" "_law_any" s_any f fd) (T : Tb mg) (c_one : Cal P w K mg base CX0 2 "_law_one" ["_law_bag_here", "_law_menu"] (spOne K)) (c_number : Cal P w K mg base CX0 2 "_law_number" ["_law_bag_here"] spNum) : FnOk P w K mg base CX0 3 f fd ["_law_bag_here"] spAnyT := by
  refine F.ok sc_any (fun vs H Q E h => ?_) (fun cdv A outer s H vs Q E hr h => ?_)
  · obtain ⟨_, _, rfl, _⟩ := h
    rfl
  · obtain ⟨b, c, rfl, hb, k⟩ := h
    refine ⟨_, (pss_one (ps_ret (pe_cal c_one (hr.mono (by decide)) pass0 (pa_cons (pv 0) (pa_cons (pe_lst (pa_cons (pe_cal c_number (hr.mono (by decide)) pass0 (pa_cons (pv 0) pa_nil)) (pa_cons (pe_cal c_number (hr.mono (by decide)) pass0 (pa_cons (pv 0) pa_nil)) (pa_cons (pe_op op_pow pe_int pe_int) (pa_cons (pe_un un_neg (pe_op op_pow pe_int pe_int)) pa_nil))))) pa_nil))))), ?_⟩
    walk_at "el"
    refine ⟨b, c, rfl, hb, fun n1 H1 n1l n1h hb1 k1 => ?_⟩
    walk_at "el"
    refine ⟨b, c, rfl, hb1, fun n2 H2 n2l n2h hb2 k2 => ?_⟩
    walk_at "el"
    refine a_I (show CPow 10 30 from ⟨by decide, by decide, by decide⟩) ?_
    walk_at "el"
    refine a_I (show CPow 10 30 from ⟨by decide, by decide, by decide⟩) ?_
    walk_at "el"
    refine ⟨by show 4 ≤ sizeLine; decide, fun m hm => ?_⟩
    have e1 := nw_of hm
    walk_at "el"
    refine ⟨b, c, m, _, rfl, hb2.same (e1 _), hb2.ne hm, .inl upd_same, by show 0 < 4; decide, by show 4 ≤ 1000000000; decide, fun y H3 hy hb3 k3 => ?_⟩
    have k03 : Kp b H H3 := (k1.trans k2).trans (Kp.into k3 (e1 _))
    obtain ⟨r, rfl, hr⟩ : ∃ r : Int, y = .int r ∧ r.natAbs < 10 ^ 40 := by
      clear k3 hb3 k03
      revert y
      exact all_cons ⟨_, rfl, by omega⟩ (all_cons ⟨_, rfl, by omega⟩ (all_cons ⟨_, rfl, by decide⟩ (all_cons ⟨_, rfl, by decide⟩ all_nil)))
    exact k r H3 hr hb3 k03
theorem ok_drawn (F : Fun K "_law_drawn" "_law_drawn" s_drawn f fd) (T : Tb mg) (c_kind : Cal P w K mg base CX0 2 "_law_kind" ["_law_bag_here"] spKnd) (c_any : Cal P w K mg base CX0 3 "_law_any" ["_law_bag_here"] spAnyT) : FnOk P w K mg base CX0 4 f fd ["_law_bag_here", "_law_witnesses", "_law_events"] spDrX := by
  refine F.ok sc_drawn (fun vs H Q E h => ?_) (fun cdv A outer s H vs Q E hr h => ?_)
  · obtain ⟨_, _, _, _, rfl, _⟩ := h
    rfl
  · obtain ⟨b, c, n, m, rfl, hb, n8, m8, k⟩ := h
    refine ⟨_, (pss_one (ps_ret (pe_tup (pa_cons (pe_callTy u_tuple rfl T.b.tuple_ (by decide +kernel) (pa_cons (pe_lc (own := [("_law_w", 3)]) rfl sc_drawn.nd (pi_range1 rfl T.b.range_ (pa_cons (pv 1) pa_nil)) (blkOk_by (own := [("_law_w", 3)]) (N := N_drawn) (sc := defScope s_drawn) (by decide +kernel)) (fun _ _ _ _ _ => (pg_name (i := 3) sc_drawn.nd rfl (Or.inl rfl))) (fun _ _ _ _ _ => pts_nil) (fun _ _ _ _ _ => (pe_cal c_kind (hr.mono (by decide)) pass0 (pa_cons (pv 0) pa_nil)))) pa_nil)) (pa_cons (pe_callTy u_tuple rfl T.b.tuple_ (by decide +kernel) (pa_cons (pe_lc (own := [("_law_e", 4)]) rfl sc_drawn.nd (pi_range1 rfl T.b.range_ (pa_cons (pv 2) pa_nil)) (blkOk_by (own := [("_law_e", 4)]) (N := N_drawn) (sc := defScope s_drawn) (by decide +kernel)) (fun _ _ _ _ _ => (pg_name (i := 4) sc_drawn.nd rfl (Or.inl rfl))) (fun _ _ _ _ _ => pts_nil) (fun _ _ _ _ _ => (pe_cal c_any (hr.mono (by decide)) pass0 (pa_cons (pv 0) pa_nil)))) pa_nil)) pa_nil))))), ?_⟩
    walk_at "el"
    refine ⟨by omega, by omega, fun D hD => ?_⟩
    have nD := hb.ne hD
    have nDc := bagNd hb hD
    refine lc_of (walk_range (lo := 0) (n := n)) (fun i H1 => Bag H1 b c ∧ Kp b H H1 ∧ ∃ ks : List Bool, ks.length = i ∧ H1 D = some (.lst (ks.map fun b => V.str (kS b)))) ⟨hb.same (nw_of hD _), same_kp (nw_of hD _), [], rfl, upd_same⟩ (fun _ _ _ _ => trivial) ?_ ?_
    · rintro i x H1 H2 hi ⟨hb1, k1, ks, kl, d1⟩ ⟨rfl, rfl⟩
      walk_at "el"
      refine ⟨rfl, ?_⟩
      walk_at "el"
      refine ⟨b, c, rfl, hb1, fun s H3 hs hb3 k3 => ?_⟩
      obtain ⟨e, rfl⟩ : ∃ e, s = kS e := by
        rcases hs with rfl | rfl
        · exact ⟨true, rfl⟩
        · exact ⟨false, rfl⟩
      have d3 := k3 _ _ nD d1
      exact ⟨_, d3, by rw [List.length_map]; exact Nat.lt_of_le_of_lt (m := 8) (by omega) (by decide), bagMv hb3 nD nDc, (k1.trans k3).mut hD, ks ++ [e], by rw [List.length_append, kl]; rfl, by rw [upd_same, List.map_append]; rfl⟩
    · rintro H1 ⟨hb1, k1, ks, kl, d1⟩
      walk_at "el"
      refine ⟨_, _, rfl, .inl ⟨SqL.of d1, fun o1 h1 => ?_⟩⟩
      have e1 := nw_of h1 (.tup (ks.map fun b => V.str (kS b)))
      have g1 := upd_at h1 (.tup (ks.map fun b => V.str (kS b)))
      have hb1 := hb1.same e1
      have k1 := k1.trans (same_kp e1)
      have n1 := hb1.neT g1
      generalize upd H1 o1 (.tup (ks.map fun b => V.str (kS b))) = H2 at g1 hb1 k1 ⊢
      walk_at "el"
      refine ⟨by omega, by omega, fun D2 hD2 => ?_⟩
      have nD2 := hb1.ne hD2
      have nDc2 := bagNd hb1 hD2
      have n12 : o1 ≠ D2 := fun z => by rw [z, hD2] at g1; cases g1
      refine lc_of (walk_range (lo := 0) (n := m)) (fun i H3 => Bag H3 b c ∧ Kp b H2 H3 ∧ ∃ ts : List Int, ts.length = i ∧ (∀ t ∈ ts, t.natAbs < 10 ^ 40) ∧ H3 D2 = some (.lst (ts.map V.int))) ⟨hb1.same (nw_of hD2 _), same_kp (nw_of hD2 _), [], rfl, (fun _ h => nomatch h), upd_same⟩ (fun _ _ _ _ => trivial) ?_ ?_
      · rintro i x H3 H4 hi ⟨hb3, k3, ts, tl, tb, d3⟩ ⟨rfl, rfl⟩
        walk_at "el"
        refine ⟨rfl, ?_⟩
        walk_at "el"
        refine ⟨b, c, rfl, hb3, fun r H5 hr5 hb5 k5 => ?_⟩
        have d5 := k5 _ _ nD2 d3
        exact ⟨_, d5, by rw [List.length_map]; exact Nat.lt_of_le_of_lt (m := 8) (by omega) (by decide), bagMv hb5 nD2 nDc2, (k3.trans k5).mut hD2, ts ++ [r], by rw [List.length_append, tl]; rfl, all_app tb (all_cons hr5 all_nil), by rw [upd_same, List.map_append]; rfl⟩
      · rintro H3 ⟨hb3, k3, ts, tl, tb, d3⟩
        have g1 := k3 _ _ n1 g1
        walk_at "el"
        refine ⟨_, _, rfl, .inl ⟨SqL.of d3, fun o2 h2 => ?_⟩⟩
        have e2 := nw_of h2 (.tup (ts.map V.int))
        have g2 := upd_at h2 (.tup (ts.map V.int))
        have g1 := e2 _ _ g1
        walk_at "el"
        refine ⟨by show 2 ≤ sizeLine; decide, fun o3 h3 => ?_⟩
        have e3 := nw_of h3 (.tup [.ref o1, .ref o2])
        exact k (ks, ts) _ o3 ⟨⟨by show ks.length ≤ 8; omega, by show ts.length ≤ 8; omega⟩, tb⟩ ⟨o1, o2, upd_same, e3 _ _ g1, e3 _ _ g2⟩ (hb3.same (e2.trans e3)) ((k1.trans k3).trans (same_kp (e2.trans e3)))
theorem ok_uneq (F : Fun K "_law_unequal" "_law_unequal" s_unequal f fd) (T : Tb mg) : FnOk P w K mg base CX0 1 f fd ["_law_some"] spUneq := by
  refine F.ok sc_unequal (fun vs H Q E h => ?_) (fun cdv A outer s H vs Q E hr h => ?_)
  · obtain ⟨_, _, _, rfl, _⟩ := h
    rfl
  · obtain ⟨l, ps, xs, rfl, hl, X, l0, l3, k0, k1⟩ := h
    obtain ⟨x0, rest, exs⟩ : ∃ x0 rest, xs = x0 :: rest := by
      cases xs with
      | nil => exact absurd l0 (Nat.lt_irrefl 0)
      | cons a r => exact ⟨a, r, rfl⟩
    obtain ⟨p0, prest, eps⟩ : ∃ p0 prest, ps = p0 :: prest := by
      have := X.len
      cases ps with
      | nil => rw [exs] at this; cases this
      | cons a r => exact ⟨a, r, rfl⟩
    have un : ∀ n, n < 2 → (∀ j, j < n → uneqP j xs = none) → ∀ r, dif n (szP n x0) xs = some r → uneq xs = some r := fun n hn pre r hr => by
      have hr' : uneqP n xs = some r := by subst exs; exact hr
      unfold uneq
      have : n = 0 ∨ n = 1 := by omega
      rcases this with rfl | rfl
      · rw [hr']
      · rw [pre 0 (by omega)]; exact hr'
    refine ⟨_, (pss_cons (ps_for PassesOwn.never rfl (pi_tup (pe_tup (pa_cons pe_int (pa_cons pe_int pa_nil)))) (pg_name (i := 1) sc_unequal.nd rfl (Or.inl rfl))
    (pss_one (ps_for PassesOwn.never rfl (u_iter (pe_slice u_slice (pv 0) (po_some pe_int) po_none)) (pg_name (i := 2) sc_unequal.nd rfl (Or.inl rfl))
    (pss_one (ps_if (pt_cmpR (u_ne hr.units) (pe_callB u_len rfl T.b.len_ boot_len (pa_cons (pe_ix ix_seq (pe_ix ix_seq (pv 0) pe_int (fun _ _ => rfl)) (pv 1) (fun _ _ => rfl)) pa_nil)) (pe_callB u_len rfl T.b.len_ boot_len (pa_cons (pe_ix ix_seq (pv 2) (pv 1) (fun _ _ => rfl)) pa_nil)) (nomark _))
    (pss_one (ps_ret (pe_tup (pa_cons pe_str (pa_cons (pe_callB u_len rfl T.b.len_ boot_len (pa_cons (pe_ix ix_seq (pe_ix ix_seq (pv 0) pe_int (fun _ _ => rfl)) (pv 1) (fun _ _ => rfl)) pa_nil)) (pa_cons (pe_callB u_len rfl T.b.len_ boot_len (pa_cons (pe_ix ix_seq (pv 2) (pv 1) (fun _ _ => rfl)) pa_nil)) pa_nil))))))
    pss_nil)))))
  (pss_one (ps_ret pe_non))), ?_⟩
    walk_at "el"
    refine ⟨by show 2 ≤ sizeLine; decide, fun m hm => ?_⟩
    have e1 := nw_of hm (.tup [.int 0, .int 1])
    have g1 := upd_at hm (.tup [.int 0, .int 1])
    generalize upd H m (.tup [.int 0, .int 1]) = H1 at e1 g1 ⊢
    walk_at "el"
    refine ⟨m, rfl, ⟨_, SqT.of g1⟩, ?_⟩
    refine lp_it (walk_tup (xs := [V.int 0, .int 1])) (fun i σ H2 => Same H1 H2 ∧ (∀ j, j < i → uneqP j xs = none) ∧ ∃ v1 v2, σ = [some (.ref l), v1, v2]) ⟨Same.refl _, fun j h => absurd h (Nat.not_lt_zero j), _, _, rfl⟩ (fun i σ H2 hi h => SqT.of (h.1 _ _ g1)) ?_ ?_
    · rintro i x σ Ha H2 hi ⟨s2, pre, v1, v2, rfl⟩ ⟨rfl, hx⟩
      have hi2 : i < 2 := hi
      obtain rfl : x = .int (i : Nat) := by
        have : i = 0 ∨ i = 1 := by omega
        rcases this with rfl | rfl <;> cases hx <;> rfl
      have s02 := e1.trans s2
      have X2 := X.same s02
      have hl2 := s02 _ _ hl
      walk_at "el"
      refine a_iSeq (.inl (a_iList ?_))
      walk_at "el"
      refine .inl ⟨l, ps, rfl, SqL.of hl2, fun D hD => ?_⟩
      have e3 := nw_of hD (.lst (cutV ps (some 1) none))
      have g3 := upd_at hD (.lst (cutV ps (some 1) none))
      have ec : cutV ps (some 1) none = prest := by subst eps; exact cut_tail p0 prest
      rw [ec] at e3 g3 ⊢
      have s03 := s02.trans e3
      have X3 := X2.same e3
      have hl3 := e3 _ _ hl2
      generalize upd H2 D (.lst prest) = H3 at e3 g3 s03 X3 hl3 ⊢
      refine ⟨D, rfl, ⟨_, SqL.of g3⟩, ?_⟩
      have lr : prest.length = rest.length := by
        have := X.len
        rw [eps, exs] at this
        exact Nat.succ.inj this
      obtain ⟨q0, x0', ep0, ex0, hx0⟩ := X3.at_ 0 p0 (by rw [eps]; rfl)
      obtain rfl : x0' = x0 := by rw [exs] at ex0; cases ex0; rfl
      subst ep0
      have at0 : atI ps 0 = some (.ref q0) := by subst eps; unfold atI ixN; rw [if_pos (Int.le_refl 0), if_pos (by rw [List.length_cons]; omega)]; rfl
      obtain ⟨qq, ys, h1, h2, h3⟩ := hx0.part (K := K) hi2
      refine lp_it (walk_list (xs := prest)) (fun j σ H4 => Same H3 H4 ∧ dif i (szP i x0') xs = dif i (szP i x0') (rest.drop j) ∧ ∃ v2, σ = [some (.ref l), some (.int (i : Nat)), v2]) ⟨Same.refl _, by subst exs; exact dif_self, _, rfl⟩ (fun j σ H4 hj h => SqL.of (h.1 _ _ g3)) ?_ ?_
      · rintro j y σ Hb H4 hj ⟨s4, eqd, v2, rfl⟩ ⟨rfl, hy⟩
        obtain ⟨pj, xj, rfl, hxj, hpj⟩ := X3.at_ (j + 1) y (by rw [eps]; exact hy)
        have hxr : rest[j]? = some xj := by rw [exs] at hxj; exact hxj
        obtain ⟨qj, yj, k1', k2, k3⟩ := hpj.part (K := K) hi2
        rw [dif_drop hxr] at eqd
        walk_at "el"
        refine n_ixL (SqL.of (s4 _ _ hl3)) at0 ?_
        walk_at "el"
        refine n_ixT (SqT.of (s4 _ _ h1)) h2 ?_
        walk_at "el"
        refine n_len (.inr (SqT.of (s4 _ _ h3))) ?_
        walk_at "el"
        refine n_ixT (SqT.of (s4 _ _ k1')) k2 ?_
        walk_at "el"
        refine n_len (.inr (SqT.of (s4 _ _ k3))) ?_
        walk_at "el"
        by_cases ez : szP i xj = szP i x0'
        · have e2 : V.int ((partV i x0').length : Nat) = V.int ((partV i xj).length : Nat) := by show V.int ((szP i x0' : Nat) : Int) = V.int ((szP i xj : Nat) : Int); rw [ez]
          rw [decide_eq_true e2]
          walk_at "el"
          rw [if_pos ez] at eqd
          exact ⟨s4, eqd, _, rfl⟩
        · have ne : ¬ V.int ((partV i x0').length : Nat) = V.int ((partV i xj).length : Nat) := fun z => ez (by have := V.int.inj z; show (partV i xj).length = (partV i x0').length; omega)
          rw [decide_eq_false ne]
          rw [if_neg ez] at eqd
          walk_at "el"
          refine n_ixL (SqL.of (s4 _ _ hl3)) at0 ?_
          walk_at "el"
          refine n_ixT (SqT.of (s4 _ _ h1)) h2 ?_
          walk_at "el"
          refine n_len (.inr (SqT.of (s4 _ _ h3))) ?_
          walk_at "el"
          refine n_ixT (SqT.of (s4 _ _ k1')) k2 ?_
          walk_at "el"
          refine n_len (.inr (SqT.of (s4 _ _ k3))) ?_
          walk_at "el"
          refine ⟨by show 3 ≤ sizeLine; decide, fun o ho => ?_⟩
          exact k1 _ _ (un i hi2 pre _ eqd) _ o ((s03.trans s4).trans (nw_of ho _)) upd_same
      · rintro σ H4 ⟨s4, eqd, v2, rfl⟩
        refine ⟨(s2.trans e3).trans s4, fun j hj => ?_, _, _, rfl⟩
        rw [lr, List.drop_length] at eqd
        by_cases e : j = i
        · subst e; subst exs; exact eqd
        · exact pre j (by omega)
    · rintro σ H2 ⟨s2, pre, v1, v2, rfl⟩
      walk_at "el"
      refine k0 ?_ _ (e1.trans s2)
      unfold uneq
      rw [pre 0 (by decide), pre 1 (by decide)]
end
end EL

/- part K50C -/
namespace EL
open PySem PySem.Spec PyProof.Rows L2
open PySem.W (Frag)
local macro_rules | `(tactic| walk_at "el1") => `(tactic| with_reducible first
  | refine a_sasg ?_ | refine a_sdrop ?_ | refine a_saugS ?_ | refine a_spar ?_ | refine a_seq ?_ | refine a_asg ?_ | refine a_drop ?_ | refine a_ret ?_ | refine a_if ?_ | refine a_next ?_
  | refine a_op ?_ | refine a_cons ?_ | refine a_nil ?_ | refine a_cb ?_ | refine a_call ?_ | refine a_c ?_ | refine a_gn ?_ | refine a_nx ?_ | refine a_rt ?_ | refine a_un ?_
  | refine a_test ?_ | refine a_B ?_ | refine a_bl ?_ | refine a_and ?_ | refine a_or ?_ | refine a_not ?_ | refine a_andV ?_ | refine a_orV ?_ | refine a_notV ?_ | refine a_ifx ?_ | refine a_chain ?_
  | refine a_nT ?_ | refine a_nF ?_ | refine a_fld ?_ | refine a_getF ?_ | refine a_T ?_ | refine a_F ?_ | refine a_tup ?_ | refine a_lst ?_ | refine a_sub ?_ | refine a_augS ?_ | refine a_two ?_ | refine a_I0 ?_ | refine a_U ?_ | refine n_add ?_ | refine n_int ?_ | refine n_ib ?_ | refine a_ip ?_ | refine a_rng1 ?_ | refine a_rng2 ?_ | refine a_bm ?_ | refine a_abs ?_ | refine a_pairs ?_ | refine a_pairs0 ?_ | refine a_bk ?_ | refine a_prp ?_ | refine a_lc ?_ | refine a_yes ?_ | refine a_sl ?_ | refine a_nop ?_ | refine a_prt ?_ | refine a_ex1 ?_ | refine a_for ?_ | refine a_sfor ?_ | refine a_iE1 ?_ | refine a_iEs ?_ | refine a_iEz ?_ | refine a_iEnum ?_ | refine a_iTup ?_ | refine a_iList ?_ | refine a_gcons ?_ | refine a_gnil ?_ | refine a_revT ?_ | refine a_spar3 ?_ | refine a_par3 ?_ | refine a_three ?_)
local macro_rules | `(tactic| walk_at "el2") => `(tactic| first
  | (refine a_var (by rfl) ?_)
  | (refine n_ixL (SqL.of (by assumption)) (by rfl) ?_) | (refine n_ixT (SqT.of (by assumption)) (by rfl) ?_) | (refine n_eq (by rfl) ?_) | (refine n_ne (by rfl) ?_)
  | (refine n_isN ?_) | (refine n_notN ?_) | (refine n_isB ?_) | (refine n_notB ?_) | (refine n_isBI ?_) | (refine n_notBI ?_) | (refine n_len (.inl (SqL.of (by assumption))) ?_) | (refine n_len (.inr (SqT.of (by assumption))) ?_)
  | (refine a_getL (SqL.of (by assumption)) (by rfl) ?_)
  | (refine n_isInt (by assumption) ?_) | (refine n_isBool (by assumption) ?_) | (refine n_isStr (by assumption) ?_) | (refine n_isTup (by assumption) ?_) | (refine n_isLst (by assumption) ?_))
local macro_rules | `(tactic| walk_at "el") => `(tactic| repeat (first | walk_at "el1" | walk_at "el2"))

theorem getD_of {α : Type} {l : List α} {i : Nat} {a d : α} (h : l[i]? = some a) : l.getD i d = a := by rw [List.getD, h]; rfl
def kAt (w : Nat) (x : Xn) : V := .str (kS (x.1.getD w false))
def tAt (w : Nat) (x : Xn) : V := .int (x.2.getD w 0)
theorem ExAt.kat {K : Frag} {H : Hp} {p : Addr} {x : Xn} {w : Nat} (h : ExAt H p x) (hw : w < x.1.length) : ∃ q xs ys, H p = some (.tup xs) ∧ atI xs 0 = some (.ref q) ∧ H q = some (.tup ys) ∧ atI ys (0 + (w : Int)) = some (kAt w x) := by
  obtain ⟨a, c, h1, h2, h3⟩ := h
  refine ⟨a, _, _, h1, rfl, h2, ?_⟩
  have e : (ksV x)[w]? = some (kAt w x) := by unfold ksV kAt; rw [List.getElem?_map, List.getElem?_eq_getElem hw, List.getD, List.getElem?_eq_getElem hw]; rfl
  unfold atI ixN
  rw [if_pos (by omega), if_pos (by unfold ksV; rw [List.length_map]; omega), Int.zero_add]
  exact e
theorem ExAt.tat {K : Frag} {H : Hp} {p : Addr} {x : Xn} {w : Nat} (h : ExAt H p x) (hw : w < x.2.length) : ∃ q xs ys, H p = some (.tup xs) ∧ atI xs 1 = some (.ref q) ∧ H q = some (.tup ys) ∧ atI ys (0 + (w : Int)) = some (tAt w x) := by
  obtain ⟨a, c, h1, h2, h3⟩ := h
  refine ⟨c, _, _, h1, rfl, h3, ?_⟩
  have e : (tsV x)[w]? = some (tAt w x) := by unfold tsV tAt; rw [List.getElem?_map, List.getElem?_eq_getElem hw, List.getD, List.getElem?_eq_getElem hw]; rfl
  unfold atI ixN
  rw [if_pos (by omega), if_pos (by unfold tsV; rw [List.length_map]; omega), Int.zero_add]
  exact e
theorem cntE (a b c : Bool) : decide ((1 : Int) < ((([PyData.str (kS a), .str (kS b), .str (kS c)].countP fun z => PyData.eqv z (.str "early") : Nat)) : Int)) = maj a b c := by
  cases a <;> cases b <;> cases c <;> simp [List.countP, List.countP.go, PyData.eqv, kS, maj] <;> decide +kernel
theorem kS_ite (b : Bool) : (if b = true then V.str "early" else .str "late") = .str (kS b) := by cases b <;> rfl
section
variable {P : Program} {w : World} {K : Frag} {mg : Str → Option Value} {base : Heap} {f CU : Addr} {fd : FuncData}
theorem ok_middle (F : Fun K "_law_middle" "_law_middle" s_middle f fd) (T : Tb mg) (hsd : mg "sorted" = none) : FnOk P w K mg base CX0 1 f fd ["_law_some"] spMid := by
  refine F.ok sc_middle (fun vs H Q E h => ?_) (fun cdv A outer s H vs Q E hr h => ?_)
  · obtain ⟨_, _, _, _, _, _, _, rfl, _⟩ := h
    rfl
  · obtain ⟨l, p, q, r, x, y, z, rfl, hl, hp, hq, hr', sm, ey, ez, k⟩ := h
    have X : Exs H [.ref p, .ref q, .ref r] [x, y, z] := .cons hp (.cons hq (.cons hr' .nil))
    obtain ⟨pa, pc, p1, p2, p3⟩ := hp
    have lk : (ksV x).length = x.1.length := by unfold ksV; rw [List.length_map]
    have lt : (tsV x).length = x.2.length := by unfold tsV; rw [List.length_map]
    obtain ⟨sm1, sm2⟩ := sm
    obtain ⟨ey1, ey2⟩ := ey
    obtain ⟨ez1, ez2⟩ := ez
    have lens : ∀ x'' ∈ [x, y, z], x''.1.length = x.1.length ∧ x''.2.length = x.2.length := all_cons ⟨rfl, rfl⟩ (all_cons ⟨ey1, ey2⟩ (all_cons ⟨ez1, ez2⟩ all_nil))
    refine ⟨_, (pss_cons (ps_setLc (i := 1) (own := [("_law_w", 3)]) rfl sc_middle.nd rfl rfl (sw_true rfl rfl rfl (by decide +kernel)) (pi_range1 rfl T.b.range_ (pa_cons (pe_callB u_len rfl T.b.len_ boot_len (pa_cons (pe_ix ix_seq (pe_ix ix_seq (pv 0) pe_int (fun _ _ => rfl)) pe_int (fun _ _ => rfl)) pa_nil)) pa_nil)) (blkOk_by (own := [("_law_w", 3)]) (N := N_middle) (sc := defScope s_middle) (by decide +kernel)) (fun _ _ _ _ _ => (pg_name (i := 3) sc_middle.nd rfl (Or.inr rfl))) (fun _ _ _ _ _ => pts_nil) (fun _ _ _ _ _ => (pe_ifExp (pt_cmpR op_gt (show PE _ _ (tBM K "list" (rCntD K) _ _) from (pe_bm PySem.F.plainAttrs_list PySem.F.slot_list_count PySem.F.type_list_count (show MtR _ "list.count" (rCntD K) from mt_lcountD hr.units) (pe_lc (own := [("_law_one_here", 2)]) rfl sc_middle.nd (show PI _ _ _ (iSeq K _) from (u_iter (pv 0))) (blkOk_by (own := [("_law_one_here", 2)]) (by rfl)) (fun _ _ _ _ _ => (pg_name (i := 2) sc_middle.nd rfl (Or.inl rfl))) (fun _ _ _ _ _ => pts_nil) (fun _ _ _ _ _ => (pe_ix (show IxR _ (rIx K) from ix_seq) (pe_ix (show IxR _ (rIx K) from ix_seq) (pv 2) pe_int (fun _ _ => rfl)) (pv 3) (fun _ _ => rfl)))) (pa_cons pe_str pa_nil))) pe_int (nomark _)) pe_str pe_str)))
  (pss_one (ps_ret (pe_tup (pa_cons (pe_callTy u_tuple rfl T.b.tuple_ (by decide +kernel) (pa_cons (pv 1) pa_nil)) (pa_cons (pe_callTy u_tuple rfl T.b.tuple_ (by decide +kernel) (pa_cons (pe_lc (own := [("_law_e", 4)]) rfl sc_middle.nd (pi_range1 rfl T.b.range_ (pa_cons (pe_callB u_len rfl T.b.len_ boot_len (pa_cons (pe_ix ix_seq (pe_ix ix_seq (pv 0) pe_int (fun _ _ => rfl)) pe_int (fun _ _ => rfl)) pa_nil)) pa_nil)) (blkOk_by (own := [("_law_e", 4)]) (N := N_middle) (sc := defScope s_middle) (by decide +kernel)) (fun _ _ _ _ _ => (pg_name (i := 4) sc_middle.nd rfl (Or.inr rfl))) (fun _ _ _ _ _ => pts_nil) (fun _ _ _ _ _ => (pe_ix (show IxR _ (rIx K) from ix_seq) (pe_callB (show CallR _ (.builtin "sorted") (rSorted K) from cr_sorted) rfl hsd (by decide +kernel) (pa_cons (pe_lc (own := [("_law_one_here", 2)]) rfl sc_middle.nd (show PI _ _ _ (iSeq K _) from (u_iter (pv 0))) (blkOk_by (own := [("_law_one_here", 2)]) (by rfl)) (fun _ _ _ _ _ => (pg_name (i := 2) sc_middle.nd rfl (Or.inl rfl))) (fun _ _ _ _ _ => pts_nil) (fun _ _ _ _ _ => (pe_ix (show IxR _ (rIx K) from ix_seq) (pe_ix (show IxR _ (rIx K) from ix_seq) (pv 2) pe_int (fun _ _ => rfl)) (pv 4) (fun _ _ => rfl)))) pa_nil)) pe_int (fun _ _ => rfl)))) pa_nil)) pa_nil)))))), ?_⟩
    walk_at "el"
    rw [lk]
    refine ⟨by omega, by omega, fun D hD => ?_⟩
    have eD := nw_of hD (.lst [])
    have nl : l ≠ D := fun z => by rw [z, hD] at hl; cases hl
    have lz : (z3 maj x.1 y.1 z.1).length = x.1.length := z3_len ey1.symm ez1.symm
    refine lc_of (walk_range (lo := 0) (n := x.1.length)) (fun i H1 => Kp D H H1 ∧ H1 D = some (.lst (((z3 maj x.1 y.1 z.1).take i).map fun b => V.str (kS b)))) ⟨same_kp eD, upd_same⟩ (fun _ _ _ _ => trivial) ?_ ?_
    · rintro i x' H1 H2 hi ⟨k1, d1⟩ ⟨rfl, rfl⟩
      have hl1 := k1 _ _ nl hl
      walk_at "el"
      refine ⟨rfl, ?_⟩
      walk_at "el"
      refine a_iSeq (.inl (a_iList ?_))
      walk_at "el"
      refine ⟨l, rfl, ⟨_, SqL.of hl1⟩, fun D2 hD2 => ?_⟩
      have n2 : l ≠ D2 := fun z => by rw [z, hD2] at hl1; cases hl1
      have nDD : D ≠ D2 := fun z => by rw [z, hD2] at d1; cases d1
      refine lc_of (walk_list (xs := [.ref p, .ref q, .ref r])) (fun j H3 => Kp D2 H2 H3 ∧ H3 D2 = some (.lst (([x, y, z].take j).map (kAt i)))) ⟨same_kp (nw_of hD2 _), upd_same⟩ (fun j H3 hj h => SqL.of (h.1 _ _ n2 hl1)) ?_ ?_
      · rintro j v H3 H4 hj ⟨k3, d3⟩ ⟨rfl, hv⟩
        obtain ⟨p', x'', rfl, hx, hp'⟩ := X.at_ j v hv
        obtain ⟨qa, ya, yb, h1, h2, h3, h4⟩ := hp'.kat (K := K) (w := i) (by rw [(lens x'' (List.mem_of_getElem? hx)).1]; exact hi)
        have up : ∀ {a : Addr} {ys : List V}, H a = some (.tup ys) → H4 a = some (.tup ys) := fun {a ys} h => by
          have := k1 _ _ (fun z => by rw [z, hD] at h; cases h) h
          exact k3 _ _ (fun z => by rw [z, hD2] at this; cases this) this
        walk_at "el"
        refine ⟨rfl, ?_⟩
        walk_at "el"
        refine n_ixT (SqT.of (up h1)) h2 ?_
        walk_at "el"
        refine n_ixT (SqT.of (up h3)) h4 ?_
        exact ⟨_, d3, by rw [List.length_map, List.length_take]; exact Nat.lt_of_le_of_lt (m := 3) (by show min j 3 ≤ 3; omega) (by decide), fun a o n e => by rw [upd_ne n]; exact k3 _ _ n e, grow d3 hx⟩
      · rintro H3 ⟨k3, d3⟩
        have d13 := k3 _ _ nDD d1
        refine ⟨.inl ⟨rfl, _, SqL.of d3⟩, ?_⟩
        walk_at "el"
        refine ⟨D2, [kAt i x, kAt i y, kAt i z], [.str (kS (x.1.getD i false)), .str (kS (y.1.getD i false)), .str (kS (z.1.getD i false))], .str "early", .str "early", rfl, rfl, SqL.of d3, .cons (.str _) (.cons (.str _) (.cons (.str _) .nil)), .str _, rfl, rfl, by decide, ?_⟩
        walk_at "el"
        rw [cntE]
        have hz : (z3 maj x.1 y.1 z.1)[i]? = some (maj (x.1.getD i false) (y.1.getD i false) (z.1.getD i false)) := z3_at (by rw [List.getD, List.getElem?_eq_getElem hi]; rfl) (by rw [List.getD, List.getElem?_eq_getElem (by omega)]; rfl) (by rw [List.getD, List.getElem?_eq_getElem (by omega)]; rfl)
        have fin : ∃ acc, H3 D = some (.lst acc) ∧ acc.length < sizeLine ∧ Kp D H (upd H3 D (.lst (acc ++ [V.str (kS (maj (x.1.getD i false) (y.1.getD i false) (z.1.getD i false)))]))) ∧ upd H3 D (.lst (acc ++ [V.str (kS (maj (x.1.getD i false) (y.1.getD i false) (z.1.getD i false)))])) D = some (.lst (((z3 maj x.1 y.1 z.1).take (i + 1)).map fun b => V.str (kS b))) :=
          ⟨_, d13, by rw [List.length_map, List.length_take]; exact Nat.lt_of_le_of_lt (m := 8) (by omega) (by decide), fun a o n e => by
            rw [upd_ne n]
            have := k1 _ _ n e
            exact k3 _ _ (fun z => by rw [z, hD2] at this; cases this) this, grow (g := fun b => V.str (kS b)) d13 hz⟩
        generalize maj (x.1.getD i false) (y.1.getD i false) (z.1.getD i false) = mb at fin ⊢
        cases mb
        · walk_at "el"
          exact fin
        · walk_at "el"
          exact fin
    · rintro H1 ⟨k1, d1⟩
      rw [← lz, List.take_length] at d1
      have s1 : Same H H1 := fun a o e => k1 _ _ (fun z => by rw [z, hD] at e; cases e) e
      clear k1 nl eD
      have hl := s1 _ _ hl
      have X := X.same s1
      have p1 := s1 _ _ p1
      have p3 := s1 _ _ p3
      have lz2 : (z3 mid x.2 y.2 z.2).length = x.2.length := z3_len ey2.symm ez2.symm
      walk_at "el"
      refine ⟨_, _, rfl, .inl ⟨SqL.of d1, fun o1 h1 => ?_⟩⟩
      have e5 := nw_of h1 (.tup ((z3 maj x.1 y.1 z.1).map fun b => V.str (kS b)))
      have g5 := upd_at h1 (.tup ((z3 maj x.1 y.1 z.1).map fun b => V.str (kS b)))
      have hl := e5 _ _ hl
      have X := X.same e5
      have p1 := e5 _ _ p1
      have p3 := e5 _ _ p3
      have s5 := s1.trans e5
      generalize upd H1 o1 (.tup ((z3 maj x.1 y.1 z.1).map fun b => V.str (kS b))) = H5 at g5 hl X p1 p3 s5 ⊢
      clear e5 s1 d1 h1
      walk_at "el"
      rw [lt]
      refine ⟨by omega, by omega, fun D3 hD3 => ?_⟩
      have eD := nw_of hD3 (.lst [])
      have nl : l ≠ D3 := fun z => by rw [z, hD3] at hl; cases hl
      refine lc_of (walk_range (lo := 0) (n := x.2.length)) (fun i H1 => Kp D3 H5 H1 ∧ H1 D3 = some (.lst (((z3 mid x.2 y.2 z.2).take i).map V.int))) ⟨same_kp eD, upd_same⟩ (fun _ _ _ _ => trivial) ?_ ?_
      · rintro i x' H1 H2 hi ⟨k1, d1⟩ ⟨rfl, rfl⟩
        have hl1 := k1 _ _ nl hl
        walk_at "el"
        refine ⟨rfl, ?_⟩
        walk_at "el"
        refine a_iSeq (.inl (a_iList ?_))
        walk_at "el"
        refine ⟨l, rfl, ⟨_, SqL.of hl1⟩, fun D2 hD2 => ?_⟩
        have n2 : l ≠ D2 := fun z => by rw [z, hD2] at hl1; cases hl1
        have nDD : D3 ≠ D2 := fun z => by rw [z, hD2] at d1; cases d1
        refine lc_of (walk_list (xs := [.ref p, .ref q, .ref r])) (fun j H3 => Kp D2 H2 H3 ∧ H3 D2 = some (.lst (([x, y, z].take j).map (tAt i)))) ⟨same_kp (nw_of hD2 _), upd_same⟩ (fun j H3 hj h => SqL.of (h.1 _ _ n2 hl1)) ?_ ?_
        · rintro j v H3 H4 hj ⟨k3, d3⟩ ⟨rfl, hv⟩
          obtain ⟨p', x'', rfl, hx, hp'⟩ := X.at_ j v hv
          obtain ⟨qa, ya, yb, h1, h2, h3, h4⟩ := hp'.tat (K := K) (w := i) (by rw [(lens x'' (List.mem_of_getElem? hx)).2]; exact hi)
          have up : ∀ {a : Addr} {ys : List V}, H5 a = some (.tup ys) → H4 a = some (.tup ys) := fun {a ys} h => by
            have := k1 _ _ (fun z => by rw [z, hD3] at h; cases h) h
            exact k3 _ _ (fun z => by rw [z, hD2] at this; cases this) this
          walk_at "el"
          refine ⟨rfl, ?_⟩
          walk_at "el"
          refine n_ixT (SqT.of (up h1)) h2 ?_
          walk_at "el"
          refine n_ixT (SqT.of (up h3)) h4 ?_
          exact ⟨_, d3, by rw [List.length_map, List.length_take]; exact Nat.lt_of_le_of_lt (m := 3) (by show min j 3 ≤ 3; omega) (by decide), fun a o n e => by rw [upd_ne n]; exact k3 _ _ n e, grow d3 hx⟩
        · rintro H3 ⟨k3, d3⟩
          have d13 := k3 _ _ nDD d1
          refine ⟨D2, [x.2.getD i 0, y.2.getD i 0, z.2.getD i 0], rfl, SqL.of d3, by show 3 < 64; decide, fun ys d pm so hd => ?_⟩
          have es := nw_of hd (.lst (ys.map V.int))
          refine n_ixL (v := .int (mid (x.2.getD i 0) (y.2.getD i 0) (z.2.getD i 0))) (SqL.of upd_same) ?_ ?_
          · have l3 : ys.length = 3 := pm.length_eq
            have := mid_of pm so
            unfold atI ixN
            rw [List.length_map, l3, if_pos (by decide), if_pos (by decide)]
            show (ys.map V.int)[1]? = _
            rw [List.getElem?_map, this]
            rfl
          have hz : (z3 mid x.2 y.2 z.2)[i]? = some (mid (x.2.getD i 0) (y.2.getD i 0) (z.2.getD i 0)) := z3_at (by rw [List.getD, List.getElem?_eq_getElem hi]; rfl) (by rw [List.getD, List.getElem?_eq_getElem (by omega)]; rfl) (by rw [List.getD, List.getElem?_eq_getElem (by omega)]; rfl)
          exact ⟨_, es _ _ d13, by rw [List.length_map, List.length_take]; exact Nat.lt_of_le_of_lt (m := 8) (by omega) (by decide), fun a o n e => by
            rw [upd_ne n]
            have := k1 _ _ n e
            exact es _ _ (k3 _ _ (fun z => by rw [z, hD2] at this; cases this) this), grow (g := V.int) (es _ _ d13) hz⟩
      · rintro H4 ⟨k4, d4⟩
        rw [← lz2, List.take_length] at d4
        have s4 : Same H5 H4 := fun a o e => k4 _ _ (fun z => by rw [z, hD3] at e; cases e) e
        have g5 := s4 _ _ g5
        walk_at "el"
        refine ⟨_, _, rfl, .inl ⟨SqL.of d4, fun o2 h2 => ?_⟩⟩
        have e6 := nw_of h2 (.tup ((z3 mid x.2 y.2 z.2).map V.int))
        have g6 := upd_at h2 (.tup ((z3 mid x.2 y.2 z.2).map V.int))
        have g5 := e6 _ _ g5
        walk_at "el"
        refine ⟨by show 2 ≤ sizeLine; decide, fun o3 h3 => ?_⟩
        have e7 := nw_of h3 (.tup [.ref o1, .ref o2])
        exact k _ o3 (((s5.trans s4).trans e6).trans e7) ⟨o1, o2, upd_same, e7 _ _ g5, e7 _ _ g6⟩
end
end EL

/- part K50E -/
namespace EL
open PySem PySem.Spec PyProof.Rows L2
open PySem.W (Frag)
local macro_rules | `(tactic| walk_at "el1") => `(tactic| with_reducible first
  | refine a_sasg ?_ | refine a_sdrop ?_ | refine a_saugS ?_ | refine a_spar ?_ | refine a_seq ?_ | refine a_asg ?_ | refine a_drop ?_ | refine a_ret ?_ | refine a_if ?_ | refine a_next ?_
  | refine a_op ?_ | refine a_cons ?_ | refine a_nil ?_ | refine a_cb ?_ | refine a_call ?_ | refine a_c ?_ | refine a_gn ?_ | refine a_nx ?_ | refine a_rt ?_ | refine a_un ?_
  | refine a_test ?_ | refine a_B ?_ | refine a_bl ?_ | refine a_and ?_ | refine a_or ?_ | refine a_not ?_ | refine a_andV ?_ | refine a_orV ?_ | refine a_notV ?_ | refine a_ifx ?_ | refine a_chain ?_
  | refine a_nT ?_ | refine a_nF ?_ | refine a_fld ?_ | refine a_getF ?_ | refine a_T ?_ | refine a_F ?_ | refine a_tup ?_ | refine a_lst ?_ | refine a_sub ?_ | refine a_augS ?_ | refine a_two ?_ | refine a_I0 ?_ | refine a_U ?_ | refine n_add ?_ | refine n_int ?_ | refine n_ib ?_ | refine a_ip ?_ | refine a_rng1 ?_ | refine a_rng2 ?_ | refine a_bm ?_ | refine a_abs ?_ | refine a_pairs ?_ | refine a_pairs0 ?_ | refine a_bk ?_ | refine a_prp ?_ | refine a_lc ?_ | refine a_yes ?_ | refine a_sl ?_ | refine a_nop ?_ | refine a_prt ?_ | refine a_ex1 ?_ | refine a_for ?_ | refine a_sfor ?_ | refine a_iE1 ?_ | refine a_iEs ?_ | refine a_iEz ?_ | refine a_iEnum ?_ | refine a_iTup ?_ | refine a_iList ?_ | refine a_gcons ?_ | refine a_gnil ?_ | refine a_revT ?_ | refine a_spar3 ?_ | refine a_par3 ?_ | refine a_three ?_)
local macro_rules | `(tactic| walk_at "el2") => `(tactic| first
  | (refine a_var (by rfl) ?_)
  | (refine n_ixL (SqL.of (by assumption)) (by rfl) ?_) | (refine n_ixT (SqT.of (by assumption)) (by rfl) ?_) | (refine n_eq (by rfl) ?_) | (refine n_ne (by rfl) ?_)
  | (refine n_isN ?_) | (refine n_notN ?_) | (refine n_isB ?_) | (refine n_notB ?_) | (refine n_isBI ?_) | (refine n_notBI ?_) | (refine n_len (.inl (SqL.of (by assumption))) ?_) | (refine n_len (.inr (SqT.of (by assumption))) ?_)
  | (refine a_getL (SqL.of (by assumption)) (by rfl) ?_)
  | (refine n_isInt (by assumption) ?_) | (refine n_isBool (by assumption) ?_) | (refine n_isStr (by assumption) ?_) | (refine n_isTup (by assumption) ?_) | (refine n_isLst (by assumption) ?_))
local macro_rules | `(tactic| walk_at "el") => `(tactic| repeat (first | walk_at "el1" | walk_at "el2"))

def endK (b a c : Bool) : Bool := if b then a || c else a && c
def endT (b : Bool) (i j : Int) : Int := if b then max i j else min i j
def endF (b : Bool) (x y : Xn) : Xn := (z3 (fun a c _ => endK b a c) x.1 y.1 y.1, z3 (fun i j _ => endT b i j) x.2 y.2 y.2)
theorem endF_eq (b : Bool) (x y : Xn) : endF b x y = if b then joinF x y else metF x y := by cases b <;> rfl
theorem inE (b a c : Bool) : inV (.str (kS b)) [.str (kS a), .str (kS c)] = (decide (a = b) || decide (c = b)) := by cases b <;> cases a <;> cases c <;> decide +kernel
theorem endK_eq (b a c : Bool) : (if (decide (a = b) || decide (c = b)) = true then b else !b) = endK b a c := by cases b <;> cases a <;> cases c <;> rfl
theorem end_of {b : Bool} {i j : Int} {ns : List Int} (p : ns.Perm [i, j]) (s : ns.Pairwise (fun x y => x ≤ y)) : atI (ns.map V.int) (if b then -1 else 0) = some (.int (endT b i j)) := by
  have go : ∀ l : List Int, l.Perm [i, j] → l.Pairwise (fun x y => x ≤ y) → ns = l := fun l pl sl => List.Perm.eq_of_pairwise (fun a b _ _ h1 h2 => Int.le_antisymm h1 h2) s sl (p.trans pl.symm)
  have s2 : ∀ {a b : Int}, a ≤ b → [a, b].Pairwise (fun x y => x ≤ y) := fun h1 => by simp; omega
  by_cases h : i ≤ j
  · rw [go _ (.refl _) (s2 h)]
    cases b
    · show some (V.int i) = some (.int (min i j)); rw [show min i j = i by omega]
    · show some (V.int j) = some (.int (max i j)); rw [show max i j = j by omega]
  · rw [go _ (.swap _ _ _) (s2 (by omega))]
    cases b
    · show some (V.int j) = some (.int (min i j)); rw [show min i j = j by omega]
    · show some (V.int i) = some (.int (max i j)); rw [show max i j = i by omega]
section
variable {P : Program} {w : World} {K : Frag} {mg : Str → Option Value} {base : Heap} {f CU : Addr} {fd : FuncData}
theorem ok_ends (F : Fun K "_law_ends" "_law_ends" s_ends f fd) (T : Tb mg) (hsd : mg "sorted" = none) : FnOk P w K mg base CX0 1 f fd ["_law_some", "_law_kind_here", "_law_spot"] spEnds2 := by
  refine F.ok sc_ends (fun vs H Q E h => ?_) (fun cdv A outer s H vs Q E hr h => ?_)
  · obtain ⟨_, _, _, _, _, _, rfl, _⟩ := h
    rfl
  · obtain ⟨l, p, q, x, y, b, rfl, hl, hp, hq, ⟨sm1, sm2⟩, ⟨ey1, ey2⟩, k⟩ := h
    rw [← endF_eq] at k
    have X : Exs H [.ref p, .ref q] [x, y] := .cons hp (.cons hq .nil)
    have lk : (ksV x).length = x.1.length := by unfold ksV; rw [List.length_map]
    have lt : (tsV x).length = x.2.length := by unfold tsV; rw [List.length_map]
    have lens : ∀ x'' ∈ [x, y], x''.1.length = x.1.length ∧ x''.2.length = x.2.length := all_cons ⟨rfl, rfl⟩ (all_cons ⟨ey1, ey2⟩ all_nil)
    have lz : (endF b x y).1.length = x.1.length := z3_len ey1.symm ey1.symm
    have lz2 : (endF b x y).2.length = x.2.length := z3_len ey2.symm ey2.symm
    refine ⟨_, (pss_cons (ps_par (i := 3) (j := 4) rfl sc_ends.nd rfl rfl (by decide) rfl rfl (pa_cons (pe_lst pa_nil) (pa_cons (pe_ifExp (pt_cmpR (u_eq hr.units) (pv 1) pe_str (nomark _)) pe_str pe_str) pa_nil)) (by with_unfolding_all rfl))
  (pss_cons (ps_for PassesOwn.never rfl (pi_range1 rfl T.b.range_ (pa_cons (pe_callB u_len rfl T.b.len_ boot_len (pa_cons (pe_ix ix_seq (pe_ix ix_seq (pv 0) pe_int (fun _ _ => rfl)) pe_int (fun _ _ => rfl)) pa_nil)) pa_nil)) (pg_name (i := 5) sc_ends.nd rfl (Or.inr rfl))
    (pss_one (ps_expr (pe_bm PySem.F.plainAttrs_list PySem.F.slot_list_append PySem.F.type_list_append mt_append (pv 3) (pa_cons (pe_ifExp (pt_cmpR u_in (pv 1) (pe_lc (own := [("_law_one_here", 6)]) rfl sc_ends.nd (u_iter (pv 0)) (blkOk_by (own := [("_law_one_here", 6)]) (N := N_ends) (sc := defScope s_ends) (by decide +kernel)) (fun _ _ _ _ _ => (pg_name (i := 6) sc_ends.nd rfl (Or.inl rfl))) (fun _ _ _ _ _ => pts_nil) (fun _ _ _ _ _ => (pe_ix (show IxR _ (rIx K) from ix_seq) (pe_ix (show IxR _ (rIx K) from ix_seq) (pv 6) pe_int (fun _ _ => rfl)) (pv 5) (fun _ _ => rfl)))) rfl) (pv 1) (pv 4)) pa_nil)))))
  (pss_cons (ps_set (i := 7) sc_ends.nd rfl (Or.inl rfl) (pe_lst pa_nil))
  (pss_cons (ps_for PassesOwn.never rfl (pi_range1 rfl T.b.range_ (pa_cons (pe_callB u_len rfl T.b.len_ boot_len (pa_cons (pe_ix ix_seq (pe_ix ix_seq (pv 0) pe_int (fun _ _ => rfl)) pe_int (fun _ _ => rfl)) pa_nil)) pa_nil)) (pg_name (i := 8) sc_ends.nd rfl (Or.inr rfl))
    (pss_one (ps_expr (pe_bm PySem.F.plainAttrs_list PySem.F.slot_list_append PySem.F.type_list_append mt_append (pv 7) (pa_cons (pe_ix ix_seq (pe_callB (show CallR _ (.builtin "sorted") (rSorted K) from cr_sorted) rfl hsd (by decide +kernel) (pa_cons (pe_lc (own := [("_law_one_here", 6)]) rfl sc_ends.nd (u_iter (pv 0)) (blkOk_by (own := [("_law_one_here", 6)]) (N := N_ends) (sc := defScope s_ends) (by decide +kernel)) (fun _ _ _ _ _ => (pg_name (i := 6) sc_ends.nd rfl (Or.inl rfl))) (fun _ _ _ _ _ => pts_nil) (fun _ _ _ _ _ => (pe_ix (show IxR _ (rIx K) from ix_seq) (pe_ix (show IxR _ (rIx K) from ix_seq) (pv 6) pe_int (fun _ _ => rfl)) (pv 8) (fun _ _ => rfl)))) pa_nil)) (pv 2) (fun _ _ => rfl)) pa_nil)))))
  (pss_one (ps_ret (pe_tup (pa_cons (pe_callTy u_tuple rfl T.b.tuple_ (by decide +kernel) (pa_cons (pv 3) pa_nil)) (pa_cons (pe_callTy u_tuple rfl T.b.tuple_ (by decide +kernel) (pa_cons (pv 7) pa_nil)) pa_nil))))))))), ?_⟩
    walk_at "el"
    refine ⟨by show 0 ≤ sizeLine; decide, fun D hD => ?_⟩
    have eD := nw_of hD (.lst [])
    have gD := upd_at hD (.lst [])
    have hl1 := eD _ _ hl
    have X := X.same eD
    obtain ⟨pa, pc, p1, p2, p3⟩ := hp.same eD
    have s1 := eD
    generalize upd H D (.lst []) = H1 at eD gD hl1 X p1 p2 p3 s1 ⊢
    walk_at "el"
    have er : decide (V.str (kS b) = V.str "early") = b := by cases b <;> decide +kernel
    rw [er]
    refine (show ∀ R : VK, R (.str (kS (!b))) H1 → (if b = true then tC (V.str "late") (L2.start N_ends [V.ref l, V.str (kS b), V.int (if b = true then -1 else 0)]) H1 R else tC (V.str "early") (L2.start N_ends [V.ref l, V.str (kS b), V.int (if b = true then -1 else 0)]) H1 R) from fun R h => by cases b <;> exact h) _ ?_
    walk_at "el"
    rw [lk]
    refine ⟨by omega, by omega, ?_⟩
    refine lp_range (fun i σ H2 => Kp D H1 H2 ∧ H2 D = some (.lst (((endF b x y).1.take i).map fun b => V.str (kS b))) ∧ ∃ v5 v6 v7 v8, σ = [some (.ref l), some (.str (kS b)), some (.int (if b then -1 else 0)), some (.ref D), some (.str (kS (!b))), v5, v6, v7, v8]) ⟨Kp.refl D H1, gD, _, _, _, _, rfl⟩ ?_ ?_
    · rintro i σ H2 hi ⟨k2, d2, v5, v6, v7, v8, rfl⟩
      have hi : i < x.1.length := hi
      have nl : l ≠ D := fun z => by rw [z, hD] at hl; cases hl
      have hl2 := k2 _ _ nl hl1
      walk_at "el"
      refine ⟨.inl ⟨rfl, _, SqL.of d2⟩, ?_⟩
      walk_at "el"
      refine a_iSeq (.inl (a_iList ?_))
      walk_at "el"
      refine ⟨l, rfl, ⟨_, SqL.of hl2⟩, fun D2 hD2 => ?_⟩
      have n2 : l ≠ D2 := fun z => by rw [z, hD2] at hl2; cases hl2
      have nDD : D ≠ D2 := fun z => by rw [z, hD2] at d2; cases d2
      refine lc_of (walk_list (xs := [.ref p, .ref q])) (fun j H3 => Kp D2 H2 H3 ∧ H3 D2 = some (.lst (([x, y].take j).map (kAt i)))) ⟨same_kp (nw_of hD2 _), upd_same⟩ (fun j H3 hj h => SqL.of (h.1 _ _ n2 hl2)) ?_ ?_
      · rintro j v H3 H4 hj ⟨k3, d3⟩ ⟨rfl, hv⟩
        obtain ⟨p', x'', rfl, hx, hp'⟩ := X.at_ j v hv
        obtain ⟨qa, ya, yb, h1, h2, h3, h4⟩ := hp'.kat (K := K) (w := i) (by rw [(lens x'' (List.mem_of_getElem? hx)).1]; exact hi)
        have up : ∀ {a : Addr} {ys : List V}, H1 a = some (.tup ys) → H4 a = some (.tup ys) := fun {a ys} h => by
          have := k2 _ _ (fun z => by rw [z, gD] at h; cases h) h
          exact k3 _ _ (fun z => by rw [z, hD2] at this; cases this) this
        walk_at "el"
        refine ⟨rfl, ?_⟩
        walk_at "el"
        refine n_ixT (SqT.of (up h1)) h2 ?_
        walk_at "el"
        refine n_ixT (SqT.of (up h3)) h4 ?_
        exact ⟨_, d3, by rw [List.length_map, List.length_take]; exact Nat.lt_of_le_of_lt (m := 2) (by show min j 2 ≤ 2; omega) (by decide), fun a o n e => by rw [upd_ne n]; exact k3 _ _ n e, grow d3 hx⟩
      · rintro H3 ⟨k3, d3⟩
        have d23 := k3 _ _ nDD d2
        have k13 : Kp D H1 H3 := fun a o n e => by
          have := k2 _ _ n e
          exact k3 _ _ (fun z => by rw [z, hD2] at this; cases this) this
        have d3 : H3 D2 = some (.lst [kAt i x, kAt i y]) := d3
        refine n_inL d3 rfl rfl ?_
        rw [show inV (V.str (kS b)) [kAt i x, kAt i y] = _ from inE b (x.1.getD i false) (y.1.getD i false)]
        have hz : (endF b x y).1[i]? = some (endK b (x.1.getD i false) (y.1.getD i false)) := z3_at (by rw [List.getD, List.getElem?_eq_getElem hi]; rfl) (by rw [List.getD, List.getElem?_eq_getElem (by omega)]; rfl) (by rw [List.getElem?_eq_getElem (by omega)])
        rw [← endK_eq] at hz
        have lb : (((endF b x y).1.take i).map fun b => V.str (kS b)).length < sizeLine := by rw [List.length_map, List.length_take]; exact Nat.lt_of_le_of_lt (m := 8) (by omega) (by decide)
        generalize (decide (x.1.getD i false = b) || decide (y.1.getD i false = b)) = mb at hz ⊢
        cases mb
        · walk_at "el"
          refine ⟨_, _, _, rfl, rfl, d23, lb, ?_⟩
          walk_at "el"
          exact ⟨fun a o n e => by rw [upd_ne n]; exact k13 _ _ n e, grow (g := fun b => V.str (kS b)) d23 hz, _, _, _, _, rfl⟩
        · walk_at "el"
          refine ⟨_, _, _, rfl, rfl, d23, lb, ?_⟩
          walk_at "el"
          exact ⟨fun a o n e => by rw [upd_ne n]; exact k13 _ _ n e, grow (g := fun b => V.str (kS b)) d23 hz, _, _, _, _, rfl⟩
    · rintro σ H2 ⟨k2, d2, v5, v6, v7, v8, rfl⟩
      rw [show ((x.1.length : Int)).toNat = (endF b x y).1.length from lz.symm, List.take_length] at d2
      have nl : l ≠ D := fun z => by rw [z, hD] at hl; cases hl
      have nT : ∀ {a : Addr} {ys : List V}, H1 a = some (.tup ys) → a ≠ D := fun h z => by rw [z, gD] at h; cases h
      have s12 : Same H H2 := fun a o e => k2 _ _ (fun z => by rw [z, hD] at e; cases e) (s1 _ _ e)
      have hl2 := k2 _ _ nl hl1
      have X2 : Exs H2 [.ref p, .ref q] [x, y] := .cons (hp.same s12) (.cons (hq.same s12) .nil)
      have p1 := k2 _ _ (nT p1) p1
      have p3 := k2 _ _ (nT p3) p3
      clear k2 X nT hp hq gD eD hl1 p2
      walk_at "el"
      refine ⟨by show 0 ≤ sizeLine; decide, fun D3 hD3 => ?_⟩
      have e3 := nw_of hD3 (.lst [])
      have g3 := upd_at hD3 (.lst [])
      have nl3 : l ≠ D3 := fun z => by rw [z, hD3] at hl2; cases hl2
      have nD3 : D ≠ D3 := fun z => by rw [z, hD3] at d2; cases d2
      have hl3 := e3 _ _ hl2
      have X3 := X2.same e3
      have p1 := e3 _ _ p1
      have p3 := e3 _ _ p3
      have d2 := e3 _ _ d2
      have s13 := s12.trans e3
      have f3 : H D3 = none := by
        cases e : H D3 with
        | none => rfl
        | some o => have := s12 _ _ e; rw [hD3] at this; cases this
      generalize upd H2 D3 (.lst []) = H3 at e3 g3 hl3 X3 p1 p3 d2 s13 ⊢
      clear s12 X2 hl2
      walk_at "el"
      rw [lt]
      refine ⟨by omega, by omega, ?_⟩
      refine lp_range (fun i σ H4 => Kp D3 H3 H4 ∧ H4 D3 = some (.lst (((endF b x y).2.take i).map V.int)) ∧ ∃ v5 v6 v8, σ = [some (.ref l), some (.str (kS b)), some (.int (if b then -1 else 0)), some (.ref D), some (.str (kS (!b))), v5, v6, some (.ref D3), v8]) ⟨Kp.refl D3 H3, g3, _, _, _, rfl⟩ ?_ ?_
      · clear v5 v6 v7 v8
        rintro i σ H4 hi ⟨k4, d4, v5, v6, v8, rfl⟩
        have hi : i < x.2.length := hi
        have hl4 := k4 _ _ nl3 hl3
        walk_at "el"
        refine ⟨.inl ⟨rfl, _, SqL.of d4⟩, ?_⟩
        walk_at "el"
        refine a_iSeq (.inl (a_iList ?_))
        walk_at "el"
        refine ⟨l, rfl, ⟨_, SqL.of hl4⟩, fun D5 hD5 => ?_⟩
        have n5 : l ≠ D5 := fun z => by rw [z, hD5] at hl4; cases hl4
        have nDD : D3 ≠ D5 := fun z => by rw [z, hD5] at d4; cases d4
        refine lc_of (walk_list (xs := [.ref p, .ref q])) (fun j H5 => Kp D5 H4 H5 ∧ H5 D5 = some (.lst (([x, y].take j).map (tAt i)))) ⟨same_kp (nw_of hD5 _), upd_same⟩ (fun j H5 hj h => SqL.of (h.1 _ _ n5 hl4)) ?_ ?_
        · rintro j v H5 H6 hj ⟨k5, d5⟩ ⟨rfl, hv⟩
          obtain ⟨p', x'', rfl, hx, hp'⟩ := X3.at_ j v hv
          obtain ⟨qa, ya, yb, h1, h2, h3, h4⟩ := hp'.tat (K := K) (w := i) (by rw [(lens x'' (List.mem_of_getElem? hx)).2]; exact hi)
          have up : ∀ {a : Addr} {ys : List V}, H3 a = some (.tup ys) → H6 a = some (.tup ys) := fun {a ys} h => by
            have := k4 _ _ (fun z => by rw [z, g3] at h; cases h) h
            exact k5 _ _ (fun z => by rw [z, hD5] at this; cases this) this
          walk_at "el"
          refine ⟨rfl, ?_⟩
          walk_at "el"
          refine n_ixT (SqT.of (up h1)) h2 ?_
          walk_at "el"
          refine n_ixT (SqT.of (up h3)) h4 ?_
          exact ⟨_, d5, by rw [List.length_map, List.length_take]; exact Nat.lt_of_le_of_lt (m := 2) (by show min j 2 ≤ 2; omega) (by decide), fun a o n e => by rw [upd_ne n]; exact k5 _ _ n e, grow d5 hx⟩
        · rintro H5 ⟨k5, d5⟩
          have d45 := k5 _ _ nDD d4
          refine ⟨D5, [x.2.getD i 0, y.2.getD i 0], rfl, SqL.of d5, by show 2 < 64; decide, fun ys d pm so hd => ?_⟩
          have es := nw_of hd (.lst (ys.map V.int))
          walk_at "el"
          refine n_ixL (SqL.of upd_same) (end_of (b := b) pm so) ?_
          have hz : (endF b x y).2[i]? = some (endT b (x.2.getD i 0) (y.2.getD i 0)) := z3_at (by rw [List.getD, List.getElem?_eq_getElem hi]; rfl) (by rw [List.getD, List.getElem?_eq_getElem (by omega)]; rfl) (by rw [List.getElem?_eq_getElem (by omega)])
          walk_at "el"
          refine ⟨_, _, _, rfl, rfl, es _ _ d45, by rw [List.length_map, List.length_take]; exact Nat.lt_of_le_of_lt (m := 8) (by omega) (by decide), ?_⟩
          walk_at "el"
          exact ⟨fun a o n e => by
            rw [upd_ne n]
            have := k4 _ _ n e
            exact es _ _ (k5 _ _ (fun z => by rw [z, hD5] at this; cases this) this), grow (g := V.int) (es _ _ d45) hz, _, _, _, rfl⟩
      · rintro σ H4 ⟨k4, d4, v5, v6, v8, rfl⟩
        rw [show ((x.2.length : Int)).toNat = (endF b x y).2.length from lz2.symm, List.take_length] at d4
        have s4 : Same H H4 := fun a o e => k4 _ _ (fun z => by rw [z, f3] at e; cases e) (s13 _ _ e)
        have d24 := k4 _ _ nD3 d2
        walk_at "el"
        refine ⟨_, _, rfl, .inl ⟨SqL.of d24, fun o1 h1 => ?_⟩⟩
        have e5 := nw_of h1 (.tup ((endF b x y).1.map fun b => V.str (kS b)))
        have g5 := upd_at h1 (.tup ((endF b x y).1.map fun b => V.str (kS b)))
        have d4 := e5 _ _ d4
        walk_at "el"
        refine ⟨_, _, rfl, .inl ⟨SqL.of d4, fun o2 h2 => ?_⟩⟩
        have e6 := nw_of h2 (.tup ((endF b x y).2.map V.int))
        have g6 := upd_at h2 (.tup ((endF b x y).2.map V.int))
        have g5 := e6 _ _ g5
        walk_at "el"
        refine ⟨by show 2 ≤ sizeLine; decide, fun o3 h3 => ?_⟩
        have e7 := nw_of h3 (.tup [.ref o1, .ref o2])
        exact k _ o3 (((s4.trans e5).trans e6).trans e7) ⟨o1, o2, upd_same, e7 _ _ g5, e7 _ _ g6⟩
end
end EL

/- part K50D -/
namespace EL
open PySem PySem.Spec PyProof.Rows L2
open PySem.W (Frag)
abbrev s_right : Stmt := top 22
abbrev N_right : List Str := ["_law_one_here", "_law_two", "_law_three", "_law_kept", "_law_found", "_law_due", "_law_pair", "_law_wished"]
theorem sc_right : FnScope N_right ["_law_one_here", "_law_two", "_law_three"] (defScope s_right) := ⟨rfl, rfl, rfl, by decide +kernel, rfl, by decide +kernel, by decide +kernel⟩
local macro_rules | `(tactic| walk_at "el1") => `(tactic| with_reducible first
  | refine a_sasg ?_ | refine a_sdrop ?_ | refine a_saugS ?_ | refine a_spar ?_ | refine a_seq ?_ | refine a_asg ?_ | refine a_drop ?_ | refine a_ret ?_ | refine a_if ?_ | refine a_next ?_
  | refine a_op ?_ | refine a_cons ?_ | refine a_nil ?_ | refine a_cb ?_ | refine a_call ?_ | refine a_c ?_ | refine a_gn ?_ | refine a_nx ?_ | refine a_rt ?_ | refine a_un ?_
  | refine a_test ?_ | refine a_B ?_ | refine a_bl ?_ | refine a_and ?_ | refine a_or ?_ | refine a_not ?_ | refine a_andV ?_ | refine a_orV ?_ | refine a_notV ?_ | refine a_ifx ?_ | refine a_chain ?_
  | refine a_nT ?_ | refine a_nF ?_ | refine a_fld ?_ | refine a_getF ?_ | refine a_T ?_ | refine a_F ?_ | refine a_tup ?_ | refine a_lst ?_ | refine a_sub ?_ | refine a_augS ?_ | refine a_two ?_ | refine a_I0 ?_ | refine a_U ?_ | refine n_add ?_ | refine n_int ?_ | refine n_ib ?_ | refine a_ip ?_ | refine a_rng1 ?_ | refine a_rng2 ?_ | refine a_bm ?_ | refine a_abs ?_ | refine a_pairs ?_ | refine a_pairs0 ?_ | refine a_bk ?_ | refine a_prp ?_ | refine a_lc ?_ | refine a_yes ?_ | refine a_sl ?_ | refine a_nop ?_ | refine a_prt ?_ | refine a_ex1 ?_ | refine a_for ?_ | refine a_sfor ?_ | refine a_iE1 ?_ | refine a_iEs ?_ | refine a_iEz ?_ | refine a_iEnum ?_ | refine a_iTup ?_ | refine a_iList ?_ | refine a_gcons ?_ | refine a_gnil ?_ | refine a_revT ?_ | refine a_spar3 ?_ | refine a_par3 ?_ | refine a_three ?_)
local macro_rules | `(tactic| walk_at "el2") => `(tactic| first
  | (refine a_var (by rfl) ?_)
  | (refine n_ixL (SqL.of (by assumption)) (by rfl) ?_) | (refine n_ixT (SqT.of (by assumption)) (by rfl) ?_) | (refine n_eq (by rfl) ?_) | (refine n_ne (by rfl) ?_)
  | (refine n_isN ?_) | (refine n_notN ?_) | (refine n_isB ?_) | (refine n_notB ?_) | (refine n_isBI ?_) | (refine n_notBI ?_) | (refine n_len (.inl (SqL.of (by assumption))) ?_) | (refine n_len (.inr (SqT.of (by assumption))) ?_)
  | (refine a_getL (SqL.of (by assumption)) (by rfl) ?_)
  | (refine n_isInt (by assumption) ?_) | (refine n_isBool (by assumption) ?_) | (refine n_isStr (by assumption) ?_) | (refine n_isTup (by assumption) ?_) | (refine n_isLst (by assumption) ?_))
local macro_rules | `(tactic| walk_at "el") => `(tactic| repeat (first | walk_at "el1" | walk_at "el2"))

abbrev qL : Str := (envOfC "_law_right" (defScope s_right) 0 0 .none).qual ++ "<lambda>"
/-- what becomes of a table: all else stays -/
def spRight (Ta : Addr) : Sp := fun vs H Q _ => ∃ (p q r : Addr) (x y z : Xn), vs = [.ref p, .ref q, .ref r] ∧ ExAt H p x ∧ ExAt H q y ∧ ExAt H r z ∧ Bd x ∧ Bd y ∧ Bd z ∧ LamX.TabS H Ta qL ∧ ∀ H', LamX.ExtN H H' → LamX.TabS H' Ta qL → Q (.bl true) H'
theorem ExAt.ext {H H' : Hp} {p : Addr} {x : Xn} (h : ExAt H p x) (e : LamX.ExtN H H') : ExAt H' p x := let ⟨a, c, h1, h2, h3⟩ := h; ⟨a, c, e _ _ h1 (fun _ z => nomatch z), e _ _ h2 (fun _ z => nomatch z), e _ _ h3 (fun _ z => nomatch z)⟩
theorem extS {H H' : Hp} (s : Same H H') : LamX.ExtN H H' := fun b o h _ => s b o h
def FzT (H : Hp) (p : Addr) : Prop := ∀ o, H p = some o → ∃ ps, o = .tbl ps
theorem extMu {H H1 : Hp} {p : Addr} {o : HO} (e : LamX.ExtN H H1) (n : FzT H p) : LamX.ExtN H (upd H1 p o) := fun b u h nt => by
  have nb : b ≠ p := fun z => by
    subst z
    obtain ⟨ps, hp⟩ := n u h
    exact nt ps hp
  rw [upd_ne nb]
  exact e b u h nt
theorem fr0_of {H H1 : Hp} {p : Addr} (e : LamX.ExtN H H1) (h : H1 p = none) : FzT H p := fun o ho => by
  cases o with
  | tbl ps => exact ⟨ps, rfl⟩
  | _ =>
    have := e _ _ ho (fun _ z => nomatch z)
    rw [h] at this
    cases this
def OutAt (H : Hp) (o : Addr) (u : Option (Nat × Nat)) (F : Xn) : Prop := match u with | some (m, n) => H o = some (.tup [.str "unequal", .int (m : Nat), .int (n : Nat)]) | none => ∃ r, H o = some (.tup [.str "told", .ref r]) ∧ ExAt H r F
def outD (u : Option (Nat × Nat)) (F : Xn) : PyData := match u with | some (m, n) => .tuple [.str "unequal", .int (m : Nat), .int (n : Nat)] | none => .tuple [.str "told", exD F]
theorem OutAt.ext {H H' : Hp} {o : Addr} {u : Option (Nat × Nat)} {F : Xn} (h : OutAt H o u F) (e : LamX.ExtN H H') : OutAt H' o u F := by
  cases u with
  | some q => exact e _ _ h (fun _ z => nomatch z)
  | none => obtain ⟨r, h1, h2⟩ := h; exact ⟨r, e _ _ h1 (fun _ z => nomatch z), h2.ext e⟩
theorem OutAt.dp {K : Frag} {H : Hp} {o : Addr} {u : Option (Nat × Nat)} {F : Xn} (h : OutAt H o u F) : Dp K H (.ref o) (outD u F) := by
  cases u with
  | some q => exact .tup (SqT.of h) (.cons (.str _) (.cons (.int _) (.cons (.int _) .nil)))
  | none => obtain ⟨r, h1, h2⟩ := h; exact .tup (SqT.of h1) (.cons (.str _) (.cons h2.dp .nil))
section
variable {K : Frag} {H : Hp} {Q : VK} {σ : L2.St} {p q r CU Ta : Addr} {x y z : Xn}
theorem lam3 (h0 : σ[0]? = some (some (.ref p))) (h1 : σ[1]? = some (some (.ref q))) (h2 : σ[2]? = some (some (.ref r))) (hp : ExAt H p x) (hq : ExAt H q y) (hr : ExAt H r z) (sm : Sm x) (tb : LamX.TabS H Ta qL)
    (k : ∀ H' o, LamX.ExtN H H' → LamX.TabS H' Ta qL → OutAt H' o (uneq [x, y, z]) (midF x y z) → Q (.ref o) H') :
    LamX.tLam [(Ta, qL)] (TRais CU "unequal" "one" "other") (fun E => tCall (spX3 CU) [] E (tCons (tVar 0) (tCons (tVar 1) (tCons (tVar 2) tNil)))) σ H Q := by
  refine ⟨fun t ht => by cases List.mem_singleton.mp ht; exact tb, fun H1 e1 t1 => ?_⟩
  have tb1 := t1 _ (List.Mem.head _)
  refine a_call (a_cons (a_var h0 (a_cons (a_var h1 (a_cons (a_var h2 (a_nil ?_)))))))
  refine ⟨p, q, r, x, y, z, rfl, hp.ext e1, hq.ext e1, hr.ext e1, sm, fun m n hu H' d s' hd => ⟨rfl, d, _, _, rfl, upd_same, fun H2 o s2 ho => ?_⟩, fun hn H' o s' ho => ⟨by show 2 ≤ sizeLine; decide, fun t ht => ?_⟩⟩
  · have s3 : Same H1 H2 := (s'.trans (nw_of hd _)).trans s2
    exact k H2 o (e1.trans (extS s3)) (tabS_same tb1 s3) (by rw [hu]; exact ho)
  · have s3 : Same H1 (upd H' t (.tup [.str "told", .ref o])) := s'.trans (nw_of ht _)
    exact k _ t (e1.trans (extS s3)) (tabS_same tb1 s3) (by rw [hn]; exact ⟨o, upd_same, ho.same (nw_of ht _)⟩)
theorem lam2 {F : Xn → Xn → Xn} (h0 : σ[0]? = some (some (.ref p))) (h1 : σ[1]? = some (some (.ref q))) (hp : ExAt H p x) (hq : ExAt H q y) (sm : Sm x) (tb : LamX.TabS H Ta qL)
    (k : ∀ H' o, LamX.ExtN H H' → LamX.TabS H' Ta qL → OutAt H' o (uneq [x, y]) (F x y) → Q (.ref o) H') :
    LamX.tLam [(Ta, qL)] (TRais CU "unequal" "one" "other") (fun E => tCall (spX2 CU F) [] E (tCons (tVar 0) (tCons (tVar 1) tNil))) σ H Q := by
  refine ⟨fun t ht => by cases List.mem_singleton.mp ht; exact tb, fun H1 e1 t1 => ?_⟩
  have tb1 := t1 _ (List.Mem.head _)
  refine a_call (a_cons (a_var h0 (a_cons (a_var h1 (a_nil ?_)))))
  refine ⟨p, q, x, y, rfl, hp.ext e1, hq.ext e1, sm, fun m n hu H' d s' hd => ⟨rfl, d, _, _, rfl, upd_same, fun H2 o s2 ho => ?_⟩, fun hn H' o s' ho => ⟨by show 2 ≤ sizeLine; decide, fun t ht => ?_⟩⟩
  · have s3 : Same H1 H2 := (s'.trans (nw_of hd _)).trans s2
    exact k H2 o (e1.trans (extS s3)) (tabS_same tb1 s3) (by rw [hu]; exact ho)
  · have s3 : Same H1 (upd H' t (.tup [.str "told", .ref o])) := s'.trans (nw_of ht _)
    exact k _ t (e1.trans (extS s3)) (tabS_same tb1 s3) (by rw [hn]; exact ⟨o, upd_same, ho.same (nw_of ht _)⟩)
end
theorem ch_of {H : Hp} {a : Addr} {xs ys : List V} (h : H a = some (.lst xs)) : Kp a H (upd H a (.lst ys)) ∧ upd H a (.lst ys) a = some (.lst ys) := ⟨fun b o n e => by rw [upd_ne n]; exact e, upd_same⟩
theorem ExAt.lst {H H' : Hp} {a p : Addr} {xs : List V} {x : Xn} (h : ExAt H p x) (ha : H a = some (.lst xs)) (k : Kp a H H') : ExAt H' p x := by
  obtain ⟨b, c, h1, h2, h3⟩ := h
  have n : ∀ {q : Addr} {ys : List V}, H q = some (.tup ys) → q ≠ a := fun h z => by rw [z, ha] at h; cases h
  exact ⟨b, c, k _ _ (n h1) h1, k _ _ (n h2) h2, k _ _ (n h3) h3⟩
theorem OutAt.lst {H H' : Hp} {a o : Addr} {xs : List V} {u : Option (Nat × Nat)} {F : Xn} (h : OutAt H o u F) (ha : H a = some (.lst xs)) (k : Kp a H H') : OutAt H' o u F := by
  have n : ∀ {q : Addr} {ys : List V}, H q = some (.tup ys) → q ≠ a := fun h z => by rw [z, ha] at h; cases h
  cases u with
  | some q => exact k _ _ (n h) h
  | none => obtain ⟨r, h1, h2⟩ := h; exact ⟨r, k _ _ (n h1) h1, h2.lst ha k⟩
theorem lay_ks : ∀ l : List Bool, PyData.canLayAll0 (l.map fun b => .str (kS b)) = true ∧ PyData.depthAll (l.map fun b => .str (kS b)) ≤ 0
  | [] => ⟨rfl, Nat.le_refl _⟩
  | b :: r => by
    obtain ⟨h1, h2⟩ := lay_ks r
    constructor
    · show (PyData.canLay0 (.str (kS b)) && _) = true
      rw [h1]
      cases b <;> decide +kernel
    · show max (PyData.depth (.str (kS b))) _ ≤ 0
      exact Nat.max_le.mpr ⟨Nat.le_refl _, h2⟩
theorem lay_ts : ∀ l : List Int, PyData.canLayAll0 (l.map PyData.int) = true ∧ PyData.depthAll (l.map PyData.int) ≤ 0
  | [] => ⟨rfl, Nat.le_refl _⟩
  | b :: r => by
    obtain ⟨h1, h2⟩ := lay_ts r
    constructor
    · show (PyData.canLay0 (.int b) && _) = true
      rw [h1]; rfl
    · show max (PyData.depth (.int b)) _ ≤ 0
      exact Nat.max_le.mpr ⟨Nat.le_refl _, h2⟩
theorem lay_out (u : Option (Nat × Nat)) (F : Xn) : PyData.canLay0 (outD u F) = true ∧ (outD u F).depth ≤ 3 := by
  cases u with
  | some q => exact ⟨by simp [outD, PyData.canLay0, PyData.canLayAll0] <;> decide +kernel, by simp [outD, PyData.depth, PyData.depthAll]⟩
  | none =>
    obtain ⟨a1, a2⟩ := lay_ks F.1
    obtain ⟨b1, b2⟩ := lay_ts F.2
    refine ⟨?_, ?_⟩
    · simp only [outD, exD, PyData.canLay0, PyData.canLayAll0, a1, b1, Bool.and_true]
      decide +kernel
    · simp only [outD, exD, PyData.depth, PyData.depthAll]
      omega
theorem sz_out {u : Option (Nat × Nat)} {F : Xn} (hu : ∀ m n, u = some (m, n) → m < 10 ^ 39 ∧ n < 10 ^ 39) (h : u = none → Bd F) : Sz 500 3 (outD u F) := by
  cases u with
  | some q =>
    obtain ⟨a, b⟩ := hu q.1 q.2 rfl
    exact (sz_tup (n := 10) (k := 0) (ds := [_, _, _]) (all_cons ((sz_str (s := "unequal") (by decide +kernel)).le (by decide +kernel) (Nat.le_refl _)) (all_cons ((sz_int (by omega)).le (Nat.zero_le _) (Nat.le_refl _)) (all_cons ((sz_int (by omega)).le (Nat.zero_le _) (Nat.le_refl _)) all_nil)))).le (by show 3 * 11 ≤ 500; decide) (by decide)
  | none =>
    exact (sz_tup (n := 200) (k := 2) (ds := [_, _]) (all_cons ((sz_str (s := "told") (by decide +kernel)).le (by decide +kernel) (by decide)) (all_cons (sz_ex (h rfl)) all_nil))).le (by show 2 * 201 ≤ 500; decide) (by decide)
def DueAt (H : Hp) (v : V) (u : Option (Nat × Nat)) : Prop := match u with | some (m, n) => ∃ o, v = .ref o ∧ H o = some (.tup [.str "unequal", .int (m : Nat), .int (n : Nat)]) | none => v = .non
theorem DueAt.same {H H' : Hp} {v : V} {u : Option (Nat × Nat)} (h : DueAt H v u) (s : Same H H') : DueAt H' v u := by
  cases u with
  | none => exact h
  | some q => obtain ⟨o, e, ho⟩ := h; exact ⟨o, e, s _ _ ho⟩
theorem DueAt.lst {H H' : Hp} {a : Addr} {xs : List V} {v : V} {u : Option (Nat × Nat)} (h : DueAt H v u) (ha : H a = some (.lst xs)) (k : Kp a H H') : DueAt H' v u := by
  cases u with
  | none => exact h
  | some q =>
    obtain ⟨o, e, ho⟩ := h
    exact ⟨o, e, k _ _ (fun z => by rw [z, ha] at ho; cases ho) ho⟩
theorem n_uneq {H : Hp} {Q : VK} {E : XK} {l : Addr} {ps : List V} {xs : List Xn} (hl : H l = some (.lst ps)) (X : Exs H ps xs) (l0 : 0 < xs.length) (l3 : xs.length ≤ 3) (k : ∀ v H', Same H H' → DueAt H' v (uneq xs) → Q v H') : spUneq [.ref l] H Q E :=
  ⟨l, ps, xs, rfl, hl, X, l0, l3, fun hn H' s => k _ _ s (by rw [hn]; rfl), fun m n hu H' o s ho => k _ _ s (by rw [hu]; exact ⟨o, rfl, ho⟩)⟩
theorem due3 {H : Hp} {Q : VK} {σ : L2.St} {i : Nat} {v : V} {u : Option (Nat × Nat)} {F : Xn} {te : TE} (hv : σ[i]? = some (some v)) (d : DueAt H v u) (hn : u = none → ∀ Q' : VK, (∀ o H', Same H H' → OutAt H' o none F → Q' (.ref o) H') → te σ H Q')
    (k : ∀ o H', Same H H' → OutAt H' o u F → Q (.ref o) H') : if (!decide (v = V.non)) = true then tVar i σ H Q else te σ H Q := by
  cases u with
  | none =>
    have : v = .non := d
    subst this
    rw [decide_eq_true rfl]
    exact hn rfl Q k
  | some q =>
    obtain ⟨o, rfl, ho⟩ := d
    rw [decide_eq_false (fun z => nomatch z)]
    exact a_var hv (k o H (Same.refl _) ho)
theorem bd_end {b : Bool} {x y : Xn} (hx : Bd x) (hy : Bd y) (e : Eqs x y) : Bd (endF b x y) := by
  obtain ⟨⟨a1, a2⟩, at'⟩ := hx
  refine ⟨⟨by show (z3 _ x.1 y.1 y.1).length ≤ 8; rw [z3_len e.1.symm e.1.symm]; exact a1, by show (z3 _ x.2 y.2 y.2).length ≤ 8; rw [z3_len e.2.symm e.2.symm]; exact a2⟩, fun t ht => ?_⟩
  have go : ∀ (l m : List Int), (∀ t ∈ l, t.natAbs < 10 ^ 40) → (∀ t ∈ m, t.natAbs < 10 ^ 40) → ∀ t ∈ z3 (fun i j _ => endT b i j) l m m, t.natAbs < 10 ^ 40 := by
    intro l
    induction l with
    | nil => exact fun m _ _ t ht => nomatch ht
    | cons i r ih =>
      intro m hl hm t ht
      cases m with
      | nil => exact nomatch ht
      | cons j m' =>
        cases ht with
        | head =>
          have h1 := hl i List.mem_cons_self
          have h2 := hm j List.mem_cons_self
          show (endT b i j).natAbs < _
          unfold endT
          split <;> omega
        | tail _ z => exact ih m' (fun t h => hl t (List.mem_cons_of_mem _ h)) (fun t h => hm t (List.mem_cons_of_mem _ h)) t z
  exact go _ _ at' hy.2 t ht
theorem bd_mid {x y z : Xn} (hx : Bd x) (hy : Bd y) (hz : Bd z) (e : Eqs x y) (e' : Eqs x z) : Bd (midF x y z) := by
  obtain ⟨⟨a1, a2⟩, at'⟩ := hx
  refine ⟨⟨by show (z3 _ x.1 y.1 z.1).length ≤ 8; rw [z3_len e.1.symm e'.1.symm]; exact a1, by show (z3 _ x.2 y.2 z.2).length ≤ 8; rw [z3_len e.2.symm e'.2.symm]; exact a2⟩, fun t ht => ?_⟩
  have go : ∀ (l m n : List Int), (∀ t ∈ l, t.natAbs < 10 ^ 40) → (∀ t ∈ m, t.natAbs < 10 ^ 40) → (∀ t ∈ n, t.natAbs < 10 ^ 40) → ∀ t ∈ z3 mid l m n, t.natAbs < 10 ^ 40 := by
    intro l
    induction l with
    | nil => exact fun m n _ _ _ t ht => nomatch ht
    | cons i r ih =>
      intro m n hl hm hn t ht
      cases m with
      | nil => exact nomatch ht
      | cons j m' =>
        cases n with
        | nil => exact nomatch ht
        | cons k n' =>
          cases ht with
          | head =>
            have h1 := hl i List.mem_cons_self
            have h2 := hm j List.mem_cons_self
            have h3 := hn k List.mem_cons_self
            show (mid i j k).natAbs < _
            unfold mid
            omega
          | tail _ z => exact ih m' n' (fun t h => hl t (List.mem_cons_of_mem _ h)) (fun t h => hm t (List.mem_cons_of_mem _ h)) (fun t h => hn t (List.mem_cons_of_mem _ h)) t z
  exact go _ _ _ at' hy.2 hz.2 t ht
theorem dif_small {n m : Nat} (hm : m ≤ 8) : ∀ {xs : List Xn} {a b : Nat}, (∀ x ∈ xs, Sm x) → n < 2 → dif n m xs = some (a, b) → a ≤ 8 ∧ b ≤ 8
  | [], a, b, _, _, h => nomatch h
  | x :: r, a, b, hs, hn, h => by
    unfold dif at h
    split at h
    · exact dif_small hm (fun y hy => hs y (List.mem_cons_of_mem _ hy)) hn h
    · cases h
      obtain ⟨s1, s2⟩ := hs x List.mem_cons_self
      have : n = 0 ∨ n = 1 := by omega
      rcases this with rfl | rfl
      · exact ⟨hm, by rw [sz0]; exact s1⟩
      · exact ⟨hm, by rw [sz1]; exact s2⟩
theorem uneq_small {x : Xn} {r : List Xn} {a b : Nat} (hs : ∀ y ∈ x :: r, Sm y) (h : uneq (x :: r) = some (a, b)) : a < 10 ^ 39 ∧ b < 10 ^ 39 := by
  have s0 := hs x List.mem_cons_self
  have go : a ≤ 8 ∧ b ≤ 8 := by
    unfold uneq at h
    cases e : uneqP 0 (x :: r) with
    | some q =>
      rw [e] at h
      cases h
      exact dif_small (n := 0) (m := szP 0 x) (by rw [sz0]; exact s0.1) hs (by decide) e
    | none =>
      rw [e] at h
      exact dif_small (n := 1) (m := szP 1 x) (by rw [sz1]; exact s0.2) hs (by decide) h
  omega
section
variable {P : Program} {w : World} {K : Frag} {mg : Str → Option Value} {base : Heap} {f g CU c Ta : Addr} {fd : FuncData} {oc kV doc pm ct oc' kV' doc' pm' cdg ct' : Value} {od an od' an' : Option Addr} {osl osl' : Array (Option Value)}
theorem ok_right (lk : K.lookup f = some ⟨oc, od, .func (PySem.W.fnOf "_law_right" "_law_right" (defArgs s_right) (defBody s_right) (defScope s_right) .none kV doc pm an (.ref c) ct), osl⟩) (hcd : PySem.W.codeIn K (.ref c) "_law_right" = true) (T : Tb mg)
    (g_raised : mg "_law_raised" = some (.ref g)) (kp_raised : PySem.W.keepIn K (.ref g) = true) (lk_raised : K.lookup g = some ⟨oc', od', .func (PySem.W.fnOf "_law_raised" "_law_raised" (defArgs s_raised) (defBody s_raised) (defScope s_raised) .none kV' doc' pm' an' cdg ct'), osl'⟩) (hc_raised : PySem.W.codeIn K cdg "_law_raised" = true)
    (hb_raised : L2.Binds K (PySem.W.fnOf "_law_raised" "_law_raised" (defArgs s_raised) (defBody s_raised) (defScope s_raised) .none kV' doc' pm' an' cdg ct') ["_law_act"] []) (HU : HearU K mg CU) (TB : LamX.TabB base mg c Ta)
    (c_median : Cal P w K mg base (L2.CX P w) 4 "median" ["one", "two", "three"] (spX3 CU)) (c_joined : Cal P w K mg base (L2.CX P w) 4 "joined" ["one", "other"] (spX2 CU joinF)) (c_met : Cal P w K mg base (L2.CX P w) 4 "met" ["one", "other"] (spX2 CU metF))
    (c_unequal : Cal P w K mg base CX0 1 "_law_unequal" ["_law_some"] spUneq) (c_middle : Cal P w K mg base CX0 1 "_law_middle" ["_law_some"] spMid) (c_ends : Cal P w K mg base CX0 1 "_law_ends" ["_law_some", "_law_kind_here", "_law_spot"] spEnds2) (c_alike : CalG P w K mg base CX0 1 "_law_alike" ["_law_found", "_law_due"] (spAlk K)) :
    FnG P w K mg base CX0 8 f (PySem.W.fnOf "_law_right" "_law_right" (defArgs s_right) (defBody s_right) (defScope s_right) .none kV doc pm an (.ref c) ct) ["_law_one_here", "_law_two", "_law_three"] (spRight Ta) := by
  refine fnG_ofC lk hcd sc_right (fun vs H Q E h => ?_) (fun A outer s H vs Q E hr hq h => ?_)
  · obtain ⟨_, _, _, _, _, _, rfl, _⟩ := h
    rfl
  · obtain ⟨p, q, r, x, y, z, rfl, hp, hq', hr', bx, by_, bz, tb, k⟩ := h
    refine ⟨_, PSs.nox (pss_cons (ps_set (i := 3) sc_right.nd rfl (Or.inl rfl) (pe_callB (u_show hq hr.units) rfl T.b.repr_ (by decide +kernel) (pa_cons (pe_lst (pa_cons (pv 0) (pa_cons (pv 1) (pa_cons (pv 2) pa_nil)))) pa_nil)))
  (pss_cons (ps_set (i := 4) sc_right.nd rfl (Or.inl rfl) (pe_lst (pa_cons (LamX.pe_lamcall (T := [(Ta, qL)]) rfl g_raised kp_raised lk_raised hc_raised hb_raised sc_raised rfl (.inl rfl) (gives_raised HU) TB rfl (List.Mem.head _) (fun p h _ => by cases List.mem_singleton.mp h; rfl) (hr.mono (by decide)) (LamX.lamS_by (by rfl)) rfl (fun _ _ _ _ _ => rfl) (fun A outer s H E f c' hr' => (pe_cal c_median hr' (passE (takes_of rfl rfl rfl rfl)) (pa_cons (pv 0) (pa_cons (pv 1) (pa_cons (pv 2) pa_nil)))))) pa_nil)))
  (pss_cons (ps_expr (pe_bm PySem.F.plainAttrs_list PySem.F.slot_list_append PySem.F.type_list_append mt_append (pv 4) (pa_cons (LamX.pe_lamcall (T := [(Ta, qL)]) rfl g_raised kp_raised lk_raised hc_raised hb_raised sc_raised rfl (.inl rfl) (gives_raised HU) TB rfl (List.Mem.head _) (fun p h _ => by cases List.mem_singleton.mp h; rfl) (hr.mono (by decide)) (LamX.lamS_by (by rfl)) rfl (fun _ _ _ _ _ => rfl) (fun A outer s H E f c' hr' => (pe_cal c_joined hr' (passE (takes_of rfl rfl rfl rfl)) (pa_cons (pv 0) (pa_cons (pv 1) pa_nil))))) pa_nil)))
  (pss_cons (ps_expr (pe_bm PySem.F.plainAttrs_list PySem.F.slot_list_append PySem.F.type_list_append mt_append (pv 4) (pa_cons (LamX.pe_lamcall (T := [(Ta, qL)]) rfl g_raised kp_raised lk_raised hc_raised hb_raised sc_raised rfl (.inl rfl) (gives_raised HU) TB rfl (List.Mem.head _) (fun p h _ => by cases List.mem_singleton.mp h; rfl) (hr.mono (by decide)) (LamX.lamS_by (by rfl)) rfl (fun _ _ _ _ _ => rfl) (fun A outer s H E f c' hr' => (pe_cal c_met hr' (passE (takes_of rfl rfl rfl rfl)) (pa_cons (pv 0) (pa_cons (pv 1) pa_nil))))) pa_nil)))
  (pss_cons (ps_par (i := 5) (j := 6) rfl sc_right.nd rfl rfl (by decide) rfl rfl (pa_cons (pe_cal c_unequal (hr.mono (by decide)) pass0 (pa_cons (pe_lst (pa_cons (pv 0) (pa_cons (pv 1) (pa_cons (pv 2) pa_nil)))) pa_nil)) (pa_cons (pe_cal c_unequal (hr.mono (by decide)) pass0 (pa_cons (pe_lst (pa_cons (pv 0) (pa_cons (pv 1) pa_nil))) pa_nil)) pa_nil)) (by with_unfolding_all rfl))
  (pss_cons (ps_set (i := 7) sc_right.nd rfl (Or.inl rfl) (pe_lst (pa_cons (pe_ifExp (pt_cmpR u_isnot (pv 5) pe_non (nomark _)) (pv 5) (pe_tup (pa_cons pe_str (pa_cons (pe_cal c_middle (hr.mono (by decide)) pass0 (pa_cons (pe_lst (pa_cons (pv 0) (pa_cons (pv 1) (pa_cons (pv 2) pa_nil)))) pa_nil)) pa_nil)))) pa_nil)))
  (pss_cons (ps_expr (pe_bm PySem.F.plainAttrs_list PySem.F.slot_list_append PySem.F.type_list_append mt_append (pv 7) (pa_cons (pe_ifExp (pt_cmpR u_isnot (pv 6) pe_non (nomark _)) (pv 6) (pe_tup (pa_cons pe_str (pa_cons (pe_cal c_ends (hr.mono (by decide)) pass0 (pa_cons (pe_lst (pa_cons (pv 0) (pa_cons (pv 1) pa_nil))) (pa_cons pe_str (pa_cons (pe_un un_neg pe_int) pa_nil)))) pa_nil)))) pa_nil)))
  (pss_cons (ps_expr (pe_bm PySem.F.plainAttrs_list PySem.F.slot_list_append PySem.F.type_list_append mt_append (pv 7) (pa_cons (pe_ifExp (pt_cmpR u_isnot (pv 6) pe_non (nomark _)) (pv 6) (pe_tup (pa_cons pe_str (pa_cons (pe_cal c_ends (hr.mono (by decide)) pass0 (pa_cons (pe_lst (pa_cons (pv 0) (pa_cons (pv 1) pa_nil))) (pa_cons pe_str (pa_cons pe_int pa_nil)))) pa_nil)))) pa_nil)))
  (pss_one (ps_ret (pe_and (pe_calG c_alike (hr.mono (by decide)) hq pass0 (pa_cons (pv 4) (pa_cons (pv 7) pa_nil))) (pe_one (pe_cmpR (u_eq hr.units) (pe_callB (u_show hq hr.units) rfl T.b.repr_ (by decide +kernel) (pa_cons (pe_lst (pa_cons (pv 0) (pa_cons (pv 1) (pa_cons (pv 2) pa_nil)))) pa_nil)) (pv 3) (nomark _)))))))))))))), ?_⟩
    have fi0 : Fine (.list [exD x, exD y, exD z]) := (sz_lst (n := 200) (k := 2) (ds := [_, _, _]) (all_cons (sz_ex bx) (all_cons (sz_ex by_) (all_cons (sz_ex bz) all_nil)))).fine (by show 3 * 201 ≤ 300000; decide) (by decide)
    have shw : ∀ {H' : Hp} {m : Addr} {Q' : VK}, H' m = some (.lst [.ref p, .ref q, .ref r]) → ExAt H' p x → ExAt H' q y → ExAt H' r z → Q' (.str (PyData.list [exD x, exD y, exD z]).shown) H' → rShowU K [.ref m] H' Q' := fun hm h1 h2 h3 qq => .inl ⟨_, _, rfl, .lst (SqL.of hm) (.cons h1.dp (.cons h2.dp (.cons h3.dp .nil))), gd_showable _ fi0.good, by have := fi0.depth; omega, fi0.len, qq⟩
    walk_at "el"
    refine ⟨by show 3 ≤ sizeLine; decide, fun m1 hm1 => ?_⟩
    have e1 := nw_of hm1 (.lst [.ref p, .ref q, .ref r])
    have g1 := upd_at hm1 (.lst [.ref p, .ref q, .ref r])
    have x1 := extS e1
    have tb1 := tabS_same tb e1
    generalize upd H m1 (.lst [.ref p, .ref q, .ref r]) = H1 at e1 g1 x1 tb1 ⊢
    walk_at "el"
    refine shw g1 (hp.ext x1) (hq'.ext x1) (hr'.ext x1) ?_
    walk_at "el"
    refine lam3 rfl rfl rfl (hp.ext x1) (hq'.ext x1) (hr'.ext x1) bx.1 tb1 fun H2 o1 x12 tb2 O1 => ?_
    have x2 := x1.trans x12
    clear x12 tb1 g1 e1 x1 hm1
    walk_at "el"
    refine ⟨by show 1 ≤ sizeLine; decide, fun fd hfd => ?_⟩
    have e3 := nw_of hfd (.lst [.ref o1])
    have gf := upd_at hfd (.lst [.ref o1])
    have zf := fr0_of x2 hfd
    have x3 := x2.trans (extS e3)
    have tb3 := tabS_same tb2 e3
    have O1 := O1.ext (extS e3)
    generalize upd H2 fd (.lst [.ref o1]) = H3 at e3 gf x3 tb3 O1 ⊢
    clear e3 tb2 x2 hfd
    walk_at "el"
    refine ⟨.inl ⟨rfl, _, SqL.of gf⟩, ?_⟩
    walk_at "el"
    refine lam2 rfl rfl (hp.ext x3) (hq'.ext x3) bx.1 tb3 fun H4 o2 x34 tb4 O2 => ?_
    have x4 := x3.trans x34
    have O1 := O1.ext x34
    have gf := x34 _ _ gf (fun _ z => nomatch z)
    clear x34 x3 tb3
    walk_at "el"
    refine ⟨_, _, _, rfl, rfl, gf, by show 1 < sizeLine; decide, ?_⟩
    have ch := ch_of (ys := [.ref o1, .ref o2]) gf
    have x5 := extMu (o := .lst [.ref o1, .ref o2]) x4 zf
    have tb5 := tabS_kp tb4 gf ch.1
    have O1 := O1.lst gf ch.1
    have O2 := O2.lst gf ch.1
    have gf := ch.2
    show tSeq _ _ _ _ (upd H4 fd (.lst [.ref o1, .ref o2]))
    generalize upd H4 fd (.lst [.ref o1, .ref o2]) = H5 at x5 tb5 O1 O2 gf ⊢
    clear ch x4 tb4
    walk_at "el"
    refine ⟨.inl ⟨rfl, _, SqL.of gf⟩, ?_⟩
    walk_at "el"
    refine lam2 rfl rfl (hp.ext x5) (hq'.ext x5) bx.1 tb5 fun H6 o3 x56 tb6 O3 => ?_
    have x6 := x5.trans x56
    have O1 := O1.ext x56
    have O2 := O2.ext x56
    have gf := x56 _ _ gf (fun _ z => nomatch z)
    clear x56 x5 tb5
    walk_at "el"
    refine ⟨_, _, _, rfl, rfl, gf, by show 2 < sizeLine; decide, ?_⟩
    have ch := ch_of (ys := [.ref o1, .ref o2, .ref o3]) gf
    have x7 := extMu (o := .lst [.ref o1, .ref o2, .ref o3]) x6 zf
    have tb7 := tabS_kp tb6 gf ch.1
    have O1 := O1.lst gf ch.1
    have O2 := O2.lst gf ch.1
    have O3 := O3.lst gf ch.1
    have gf := ch.2
    show tSeq _ _ _ _ (upd H6 fd (.lst [.ref o1, .ref o2, .ref o3]))
    generalize upd H6 fd (.lst [.ref o1, .ref o2, .ref o3]) = H7 at x7 tb7 O1 O2 O3 gf ⊢
    clear ch x6 tb6
    walk_at "el"
    refine ⟨by show 3 ≤ sizeLine; decide, fun m2 hm2 => ?_⟩
    have e8 := nw_of hm2 (.lst [.ref p, .ref q, .ref r])
    have g8 := upd_at hm2 (.lst [.ref p, .ref q, .ref r])
    have x8 := x7.trans (extS e8)
    walk_at "el"
    refine n_uneq g8 (.cons (hp.ext x8) (.cons (hq'.ext x8) (.cons (hr'.ext x8) .nil))) (by show 0 < 3; decide) (by show 3 ≤ 3; decide) fun v5 H9 s9 d5 => ?_
    have s79 := e8.trans s9
    clear x8 g8 hm2 e8 s9
    walk_at "el"
    refine ⟨by show 2 ≤ sizeLine; decide, fun m3 hm3 => ?_⟩
    have e10 := nw_of hm3 (.lst [.ref p, .ref q])
    have g10 := upd_at hm3 (.lst [.ref p, .ref q])
    have x10 := (x7.trans (extS s79)).trans (extS e10)
    walk_at "el"
    refine n_uneq g10 (.cons (hp.ext x10) (.cons (hq'.ext x10) .nil)) (by show 0 < 2; decide) (by show 2 ≤ 3; decide) fun v6 H11 s11 d6 => ?_
    have s711 := (s79.trans e10).trans s11
    have d5 := d5.same (e10.trans s11)
    have x11 := x7.trans (extS s711)
    have tb11 := tabS_same tb7 s711
    have O1 := O1.ext (extS s711)
    have O2 := O2.ext (extS s711)
    have O3 := O3.ext (extS s711)
    have gf := s711 _ _ gf
    clear x10 g10 hm3 e10 s11 s79 s711 tb7 x7
    walk_at "el"
    refine due3 (F := midF x y z) (by rfl) d5 (fun hn Q' kQ => ?_) fun w1 H12 s12 W1 => ?_
    · have eq := uneq_none hn
      walk_at "el"
      refine ⟨by show 3 ≤ sizeLine; decide, fun m4 hm4 => ?_⟩
      have e := nw_of hm4 (.lst [.ref p, .ref q, .ref r])
      have xx := x11.trans (extS e)
      walk_at "el"
      refine ⟨m4, p, q, r, x, y, z, rfl, upd_at hm4 _, hp.ext xx, hq'.ext xx, hr'.ext xx, bx.1, eq y (by simp), eq z (by simp), fun H' o s' ho => ?_⟩
      walk_at "el"
      refine ⟨by show 2 ≤ sizeLine; decide, fun o4 ho4 => ?_⟩
      exact kQ o4 _ ((e.trans s').trans (nw_of ho4 _)) ⟨o, upd_same, ho.same (nw_of ho4 _)⟩
    have d6 := d6.same s12
    have x12 := x11.trans (extS s12)
    have tb12 := tabS_same tb11 s12
    have O1 := O1.ext (extS s12)
    have O2 := O2.ext (extS s12)
    have O3 := O3.ext (extS s12)
    have gf := s12 _ _ gf
    clear d5 s12 x11 tb11
    walk_at "el"
    refine ⟨by show 1 ≤ sizeLine; decide, fun wl hwl => ?_⟩
    have e13 := nw_of hwl (.lst [.ref w1])
    have gw := upd_at hwl (.lst [.ref w1])
    have zw := fr0_of x12 hwl
    have nfw : fd ≠ wl := fun z => by rw [z, hwl] at gf; cases gf
    have x13 := x12.trans (extS e13)
    have tb13 := tabS_same tb12 e13
    have d6 := d6.same e13
    have O1 := O1.ext (extS e13)
    have O2 := O2.ext (extS e13)
    have O3 := O3.ext (extS e13)
    have W1 := W1.ext (extS e13)
    have gf := e13 _ _ gf
    generalize upd H12 wl (.lst [.ref w1]) = H13 at e13 gw x13 tb13 d6 O1 O2 O3 W1 gf ⊢
    clear e13 x12 tb12 hwl
    walk_at "el"
    refine ⟨.inl ⟨rfl, _, SqL.of gw⟩, ?_⟩
    walk_at "el"
    refine due3 (F := joinF x y) (by rfl) d6 (fun hn Q' kQ => ?_) fun w2 H14 s14 W2 => ?_
    · have eq := uneq_none hn
      walk_at "el"
      refine ⟨by show 2 ≤ sizeLine; decide, fun m4 hm4 => ?_⟩
      have e := nw_of hm4 (.lst [.ref p, .ref q])
      have xx := x13.trans (extS e)
      walk_at "el"
      refine ⟨m4, p, q, x, y, true, rfl, upd_at hm4 _, hp.ext xx, hq'.ext xx, bx.1, eq y (by simp), fun H' o s' ho => ?_⟩
      walk_at "el"
      refine ⟨by show 2 ≤ sizeLine; decide, fun o4 ho4 => ?_⟩
      exact kQ o4 _ ((e.trans s').trans (nw_of ho4 _)) ⟨o, upd_same, (show ExAt H' o (joinF x y) from ho).same (nw_of ho4 _)⟩
    have d6 := d6.same s14
    have x14 := x13.trans (extS s14)
    have tb14 := tabS_same tb13 s14
    have O1 := O1.ext (extS s14)
    have O2 := O2.ext (extS s14)
    have O3 := O3.ext (extS s14)
    have W1 := W1.ext (extS s14)
    have gf := s14 _ _ gf
    have gw := s14 _ _ gw
    clear s14 x13 tb13
    walk_at "el"
    refine ⟨_, _, _, rfl, rfl, gw, by show 1 < sizeLine; decide, ?_⟩
    have ch := ch_of (ys := [.ref w1, .ref w2]) gw
    have x15 := extMu (o := .lst [.ref w1, .ref w2]) x14 zw
    have tb15 := tabS_kp tb14 gw ch.1
    have d6 := d6.lst gw ch.1
    have O1 := O1.lst gw ch.1
    have O2 := O2.lst gw ch.1
    have O3 := O3.lst gw ch.1
    have W1 := W1.lst gw ch.1
    have W2 := W2.lst gw ch.1
    have gf := ch.1 _ _ nfw gf
    have gw := ch.2
    show tSeq _ _ _ _ (upd H14 wl (.lst [.ref w1, .ref w2]))
    generalize upd H14 wl (.lst [.ref w1, .ref w2]) = H15 at x15 tb15 d6 O1 O2 O3 W1 W2 gf gw ⊢
    clear ch x14 tb14
    walk_at "el"
    refine ⟨.inl ⟨rfl, _, SqL.of gw⟩, ?_⟩
    walk_at "el"
    refine due3 (F := metF x y) (by rfl) d6 (fun hn Q' kQ => ?_) fun w3 H16 s16 W3 => ?_
    · have eq := uneq_none hn
      walk_at "el"
      refine ⟨by show 2 ≤ sizeLine; decide, fun m4 hm4 => ?_⟩
      have e := nw_of hm4 (.lst [.ref p, .ref q])
      have xx := x15.trans (extS e)
      walk_at "el"
      refine ⟨m4, p, q, x, y, false, rfl, upd_at hm4 _, hp.ext xx, hq'.ext xx, bx.1, eq y (by simp), fun H' o s' ho => ?_⟩
      walk_at "el"
      refine ⟨by show 2 ≤ sizeLine; decide, fun o4 ho4 => ?_⟩
      exact kQ o4 _ ((e.trans s').trans (nw_of ho4 _)) ⟨o, upd_same, (show ExAt H' o (metF x y) from ho).same (nw_of ho4 _)⟩
    have x16 := x15.trans (extS s16)
    have tb16 := tabS_same tb15 s16
    have O1 := O1.ext (extS s16)
    have O2 := O2.ext (extS s16)
    have O3 := O3.ext (extS s16)
    have W1 := W1.ext (extS s16)
    have W2 := W2.ext (extS s16)
    have gf := s16 _ _ gf
    have gw := s16 _ _ gw
    clear s16 x15 tb15 d6
    walk_at "el"
    refine ⟨_, _, _, rfl, rfl, gw, by show 2 < sizeLine; decide, ?_⟩
    have ch := ch_of (ys := [.ref w1, .ref w2, .ref w3]) gw
    have x17 := extMu (o := .lst [.ref w1, .ref w2, .ref w3]) x16 zw
    have tb17 := tabS_kp tb16 gw ch.1
    have O1 := O1.lst gw ch.1
    have O2 := O2.lst gw ch.1
    have O3 := O3.lst gw ch.1
    have W1 := W1.lst gw ch.1
    have W2 := W2.lst gw ch.1
    have W3 := W3.lst gw ch.1
    have gf := ch.1 _ _ nfw gf
    have gw := ch.2
    have gw : upd H16 wl (.lst ([.ref w1, .ref w2] ++ [.ref w3])) wl = some (.lst [.ref w1, .ref w2, .ref w3]) := gw
    have gf : upd H16 wl (.lst ([.ref w1, .ref w2] ++ [.ref w3])) fd = some (.lst [.ref o1, .ref o2, .ref o3]) := gf
    have sh : SeqAt.shaped (.list [outD (uneq [x, y, z]) (midF x y z), outD (uneq [x, y]) (joinF x y), outD (uneq [x, y]) (metF x y)]) = true := by
      obtain ⟨a1, a2⟩ := lay_out (uneq [x, y, z]) (midF x y z)
      obtain ⟨b1, b2⟩ := lay_out (uneq [x, y]) (joinF x y)
      obtain ⟨c1, c2⟩ := lay_out (uneq [x, y]) (metF x y)
      simp only [SeqAt.shaped, PyData.canLay0, PyData.canLayAll0, PyData.depth, PyData.depthAll, a1, b1, c1, Bool.and_true, Bool.true_and]
      exact decide_eq_true (by omega)
    have fi : Fine (.list [outD (uneq [x, y, z]) (midF x y z), outD (uneq [x, y]) (joinF x y), outD (uneq [x, y]) (metF x y)]) := by
      refine (sz_lst (n := 500) (k := 3) (ds := [_, _, _]) (all_cons (sz_out (fun m n hu => uneq_small (all_cons bx.1 (all_cons by_.1 (all_cons bz.1 all_nil))) hu) fun hn => ?_) (all_cons (sz_out (fun m n hu => uneq_small (all_cons bx.1 (all_cons by_.1 all_nil)) hu) fun hn => ?_) (all_cons (sz_out (fun m n hu => uneq_small (all_cons bx.1 (all_cons by_.1 all_nil)) hu) fun hn => ?_) all_nil)))).fine (by show 3 * 501 ≤ 300000; decide) (by decide)
      · exact bd_mid bx by_ bz (uneq_none hn y (by simp)) (uneq_none hn z (by simp))
      · exact (show Bd (endF true x y) from bd_end bx by_ (uneq_none hn y (by simp)))
      · exact (show Bd (endF false x y) from bd_end bx by_ (uneq_none hn y (by simp)))
    walk_at "el"
    refine ⟨.ref fd, .ref wl, _, rfl, .lst (SqL.of gf) (.cons O1.dp (.cons O2.dp (.cons O3.dp .nil))), .lst (SqL.of gw) (.cons W1.dp (.cons W2.dp (.cons W3.dp .nil))), sh, fi, ?_⟩
    walk_at "el"
    refine ⟨by show 3 ≤ sizeLine; decide, fun m6 hm6 => ?_⟩
    have e18 := nw_of hm6 (.lst [.ref p, .ref q, .ref r])
    have x18 := x17.trans (extS e18)
    walk_at "el"
    refine shw (upd_at hm6 _) (hp.ext x18) (hq'.ext x18) (hr'.ext x18) ?_
    walk_at "el"
    rw [decide_eq_true rfl]
    exact k _ x18 (tabS_same tb17 e18)
end
end EL

/- part K50L -/
namespace EL
open PySem PySem.Spec PyProof.Rows L2
open PySem.W (Frag)
abbrev s_law : Stmt := top 23
abbrev N_law : List Str := ["_law_script", "_law_bag_here", "_law_turn", "_law_witnesses", "_law_events", "_law_some", "_law_k", "_law_more", "_law_j"]
theorem sc_law : FnScope N_law ["_law_script"] (defScope s_law) := ⟨rfl, rfl, rfl, by decide +kernel, rfl, by decide +kernel, by decide +kernel⟩
local macro_rules | `(tactic| walk_at "el1") => `(tactic| with_reducible first
  | refine a_sasg ?_ | refine a_sdrop ?_ | refine a_saugS ?_ | refine a_spar ?_ | refine a_seq ?_ | refine a_asg ?_ | refine a_drop ?_ | refine a_ret ?_ | refine a_if ?_ | refine a_next ?_
  | refine a_op ?_ | refine a_cons ?_ | refine a_nil ?_ | refine a_cb ?_ | refine a_call ?_ | refine a_c ?_ | refine a_gn ?_ | refine a_nx ?_ | refine a_rt ?_ | refine a_un ?_
  | refine a_test ?_ | refine a_B ?_ | refine a_bl ?_ | refine a_and ?_ | refine a_or ?_ | refine a_not ?_ | refine a_andV ?_ | refine a_orV ?_ | refine a_notV ?_ | refine a_ifx ?_ | refine a_chain ?_
  | refine a_nT ?_ | refine a_nF ?_ | refine a_fld ?_ | refine a_getF ?_ | refine a_T ?_ | refine a_F ?_ | refine a_tup ?_ | refine a_lst ?_ | refine a_sub ?_ | refine a_augS ?_ | refine a_two ?_ | refine a_I0 ?_ | refine a_U ?_ | refine n_add ?_ | refine n_int ?_ | refine n_ib ?_ | refine a_ip ?_ | refine a_rng1 ?_ | refine a_rng2 ?_ | refine a_bm ?_ | refine a_abs ?_ | refine a_pairs ?_ | refine a_pairs0 ?_ | refine a_bk ?_ | refine a_prp ?_ | refine a_lc ?_ | refine a_yes ?_ | refine a_sl ?_ | refine a_nop ?_ | refine a_prt ?_ | refine a_ex1 ?_ | refine a_for ?_ | refine a_sfor ?_ | refine a_iE1 ?_ | refine a_iEs ?_ | refine a_iEz ?_ | refine a_iEnum ?_ | refine a_iTup ?_ | refine a_iList ?_ | refine a_gcons ?_ | refine a_gnil ?_ | refine a_revT ?_ | refine a_spar3 ?_ | refine a_par3 ?_ | refine a_three ?_)
local macro_rules | `(tactic| walk_at "el2") => `(tactic| first
  | (refine a_var (by rfl) ?_)
  | (refine n_ixL (SqL.of (by assumption)) (by rfl) ?_) | (refine n_ixT (SqT.of (by assumption)) (by rfl) ?_) | (refine n_eq (by rfl) ?_) | (refine n_ne (by rfl) ?_)
  | (refine n_isN ?_) | (refine n_notN ?_) | (refine n_isB ?_) | (refine n_notB ?_) | (refine n_isBI ?_) | (refine n_notBI ?_) | (refine n_len (.inl (SqL.of (by assumption))) ?_) | (refine n_len (.inr (SqT.of (by assumption))) ?_)
  | (refine a_getL (SqL.of (by assumption)) (by rfl) ?_)
  | (refine n_isInt (by assumption) ?_) | (refine n_isBool (by assumption) ?_) | (refine n_isStr (by assumption) ?_) | (refine n_isTup (by assumption) ?_) | (refine n_isLst (by assumption) ?_))
local macro_rules | `(tactic| walk_at "el") => `(tactic| repeat (first | walk_at "el1" | walk_at "el2"))

theorem exm_of {K : Frag} {N E : Addr} (he : PySem.W.subIn K (.ref E) (.type "BaseException") = some true) (hc : PySem.W.isClsIn K E = true) (ht : PySem.W.typeIn K (.ref E) = some (.type "type")) (hs : PySem.W.subIn K (.ref N) (.ref E) = some true) : PySem.W.exmOne K (.ref N) (.ref E) = some true := by
  have c1 : (PySem.W.clsIn K E).isSome = true := hc
  unfold PySem.W.exmOne
  rw [he, if_pos (by simp)]
  show (if ((PySem.W.clsIn K E).isSome && PySem.W.typeIn K (.ref E) == some (.type "type")) = true then PySem.W.subIn K (.ref N) (.ref E) else none) = _
  rw [c1, ht, if_pos (by simp)]
  exact hs
def spLawT (K : Frag) (Ta : Addr) : Sp := fun vs H Q _ => ∃ (a : Addr) (ns : List Int), vs = [.ref a] ∧ SqL K H a (ns.map V.int) ∧ H Ta = some (.tbl #[]) ∧ ∀ H', Q (.bl true) H'
theorem Bag.ext {H H' : Hp} {b c : Addr} (h : Bag H b c) (e : LamX.ExtN H H') : Bag H' b c := by
  obtain ⟨i, j, n, cs, h1, h2, r⟩ := h
  exact ⟨i, j, n, cs, e _ _ h1 (fun _ z => nomatch z), e _ _ h2 (fun _ z => nomatch z), r⟩
theorem tabS_bag {H H' : Hp} {b c Ta : Addr} {q : Str} (t : LamX.TabS H Ta q) (hb : Bag H b c) (k : Kp b H H') : LamX.TabS H' Ta q := by
  obtain ⟨i, j, n, cs, h1, h2, r⟩ := hb
  exact tabS_kp t h1 k
theorem ExAt.kp {H H' : Hp} {p b c : Addr} {x : Xn} (h : ExAt H p x) (hb : Bag H b c) (k : Kp b H H') : ExAt H' p x := by
  obtain ⟨u, v, h1, h2, h3⟩ := h
  exact ⟨u, v, k _ _ (hb.neT h1) h1, k _ _ (hb.neT h2) h2, k _ _ (hb.neT h3) h3⟩
section
variable {P : Program} {w : World} {K : Frag} {mg : Str → Option Value} {base : Heap} {f Ta : Addr} {fd : FuncData}
theorem ok_Unequal (F : Fun K "__init__" "Unequal.__init__" s_Unequal_init f fd) {C : Addr} (O : OexC K C) (n : PySem.W.findIn K (.ref C) "one" = some none) (n2 : PySem.W.findIn K (.ref C) "other" = some none) : FnOk P w K mg base CX0 1 f fd ["self", "one", "other"] (spErr2 C "one" "other") := by
  refine F.ok sc_Unequal_init (fun vs H Q E h => ?_) (fun cdv A outer s H vs Q E hr h => ?_)
  · obtain ⟨_, _, _, rfl, _⟩ := h
    rfl
  · obtain ⟨a, y, z, rfl, ha, k⟩ := h
    refine ⟨_, (pss_cons (ps_ost (pv 0) (pv 1))
  (pss_one (ps_ost (pv 0) (pv 2)))), ?_⟩
    walk_at "el"
    refine ⟨a, C, rfl, O, n, .inl ⟨ha, fun dx hd ne => ?_⟩⟩
    walk_at "el"
    refine ⟨a, C, rfl, O, n2, .inr ⟨dx, [("one", y)], upd_same, by rw [upd_ne ne]; exact upd_same, by show 1 ≤ 900; decide, ?_⟩⟩
    walk_at "el"
    exact k dx hd ne
theorem ok_law (F : Fun K "law" "law" s_law f fd) (T : Tb mg) (c_bag : Cal P w K mg base CX0 1 "_law_bag" ["_law_script"] (spBag K)) (c_take : Cal P w K mg base CX0 1 "_law_take" ["_law_bag_here", "_law_many"] spTake) (c_one : Cal P w K mg base CX0 2 "_law_one" ["_law_bag_here", "_law_menu"] (spOne K))
    (c_drawn : Cal P w K mg base CX0 4 "_law_drawn" ["_law_bag_here", "_law_witnesses", "_law_events"] spDrX) (c_right : CalG P w K mg base CX0 8 "_law_right" ["_law_one_here", "_law_two", "_law_three"] (spRight Ta)) : FnG P w K mg base CX0 10 f fd ["_law_script"] (spLawT K Ta) := by
  refine fnG_of F sc_law (fun vs H Q E h => ?_) (fun cdv A outer s H vs Q E hr hq h => ?_)
  · obtain ⟨_, _, rfl, _⟩ := h
    rfl
  · obtain ⟨a, ns, rfl, ha, hT, k⟩ := h
    refine ⟨_, PSs.nox (pss_cons (ps_set (i := 1) sc_law.nd rfl (Or.inr rfl) (pe_cal c_bag (hr.mono (by decide)) pass0 (pa_cons (pv 0) pa_nil)))
  (pss_cons (ps_for PassesOwn.never rfl (pi_range1 rfl T.b.range_ (pa_cons pe_int pa_nil)) (pg_name (i := 2) sc_law.nd rfl (Or.inl rfl))
    (pss_cons (ps_par (i := 3) (j := 4) rfl sc_law.nd rfl rfl (by decide) rfl rfl (pa_cons (pe_cal c_take (hr.mono (by decide)) pass0 (pa_cons (pv 1) (pa_cons pe_int pa_nil))) (pa_cons (pe_cal c_take (hr.mono (by decide)) pass0 (pa_cons (pv 1) (pa_cons pe_int pa_nil))) pa_nil)) (by with_unfolding_all rfl))
  (pss_cons (ps_set (i := 5) sc_law.nd rfl (Or.inl rfl) (pe_lst pa_nil))
  (pss_cons (ps_for PassesOwn.never rfl (pi_range1 rfl T.b.range_ (pa_cons pe_int pa_nil)) (pg_name (i := 6) sc_law.nd rfl (Or.inl rfl))
    (pss_cons (ps_setLc (i := 7) (own := [("_law_j", 8)]) rfl sc_law.nd rfl rfl (sw_true rfl rfl rfl (by decide +kernel)) (pi_range1 rfl T.b.range_ (pa_cons pe_int pa_nil)) (blkOk_by (own := [("_law_j", 8)]) (N := N_law) (sc := defScope s_law) (by decide +kernel)) (fun _ _ _ _ _ => (pg_name (i := 8) sc_law.nd rfl (Or.inl rfl))) (fun _ _ _ _ _ => pts_nil) (fun _ _ _ _ _ => (pe_cal c_one (hr.mono (by decide)) pass0 (pa_cons (pv 1) (pa_cons (pe_lst (pa_cons pe_int (pa_cons pe_int (pa_cons pe_int (pa_cons pe_int (pa_cons pe_int (pa_cons pe_int (pa_cons pe_int pa_nil)))))))) pa_nil)))))
  (pss_one (ps_expr (pe_bm PySem.F.plainAttrs_list PySem.F.slot_list_append PySem.F.type_list_append mt_append (pv 5) (pa_cons (pe_cal c_drawn (hr.mono (by decide)) pass0 (pa_cons (pv 1) (pa_cons (pe_op u_add (pv 3) (pe_ix ix_seq (pv 7) pe_int (fun _ _ => rfl))) (pa_cons (pe_op u_add (pv 4) (pe_ix ix_seq (pv 7) pe_int (fun _ _ => rfl))) pa_nil)))) pa_nil))))))
  (pss_one (ps_if (PW.pt (pw_or (pt_not (pt_val (pe_calG c_right (hr.mono (by decide)) hq pass0 (pa_cons (pe_ix ix_seq (pv 5) pe_int (fun _ _ => rfl)) (pa_cons (pe_ix ix_seq (pv 5) pe_int (fun _ _ => rfl)) (pa_cons (pe_ix ix_seq (pv 5) pe_int (fun _ _ => rfl)) pa_nil)))))) (pw_or1 (pt_not (pt_val (pe_calG c_right (hr.mono (by decide)) hq pass0 (pa_cons (pe_ix ix_seq (pv 5) pe_int (fun _ _ => rfl)) (pa_cons (pe_ix ix_seq (pv 5) pe_int (fun _ _ => rfl)) (pa_cons (pe_ix ix_seq (pv 5) pe_int (fun _ _ => rfl)) pa_nil)))))))))
    (pss_one (ps_ret pe_bl))
    pss_nil))))))
  (pss_one (ps_ret pe_bl)))), ?_⟩
    walk_at "el"
    refine ⟨a, ns, rfl, ha, fun b c H1 hb0 hc0 hb1 s1 => ?_⟩
    have t1 : LamX.TabS H1 Ta qL := tabS_same (LamX.TabS.nil hT) s1
    walk_at "el"
    refine ⟨by decide, by decide, ?_⟩
    refine lp_range (fun i σ H2 => (Bag H2 b c ∧ LamX.TabS H2 Ta qL) ∧ ∃ v2 v3 v4 v5 v6 v7 v8, σ = [some (.ref a), some (.ref b), v2, v3, v4, v5, v6, v7, v8]) ⟨⟨hb1, t1⟩, _, _, _, _, _, _, _, rfl⟩ ?_ ?_
    · clear hb0 hc0 hb1 s1 ha t1 hT
      rintro t σ H2 ht ⟨⟨hb2, t2⟩, v2, v3, v4, v5, v6, v7, v8, rfl⟩
      walk_at "el"
      refine ⟨b, c, 7, rfl, hb2, by decide, by decide, fun nw H3 n0 n7 hb3 k3 => ?_⟩
      walk_at "el"
      refine ⟨b, c, 7, rfl, hb3, by decide, by decide, fun ne H4 m0 m7 hb4 k4 => ?_⟩
      have t4 := tabS_bag (tabS_bag t2 hb2 k3) hb3 k4
      clear hb2 hb3 k3 k4 t2
      walk_at "el"
      refine ⟨by show 0 ≤ sizeLine; decide, fun D hD => ?_⟩
      have e5 := nw_of hD (.lst [])
      have nD := hb4.ne hD
      have nDc := bagNd hb4 hD
      walk_at "el"
      refine ⟨by decide, by decide, ?_⟩
      refine lp_range (fun i σ H5 => (Bag H5 b c ∧ LamX.TabS H5 Ta qL) ∧ (∃ (ps : List V) (xs : List Xn), ps.length = i ∧ H5 D = some (.lst ps) ∧ Exs H5 ps xs ∧ ∀ x ∈ xs, Bd x) ∧ ∃ v6 v7 v8, σ = [some (.ref a), some (.ref b), some (.int (0 + (t : Int))), some (.int nw), some (.int ne), some (.ref D), v6, v7, v8]) ⟨⟨hb4.same e5, tabS_same t4 e5⟩, ⟨[], [], rfl, upd_same, .nil, fun _ h => nomatch h⟩, _, _, _, rfl⟩ ?_ ?_
      · rintro i σ H5 hi ⟨⟨hb5, t5⟩, ⟨ps, xs, lp, d5, X5, bd⟩, v6, v7, v8, rfl⟩
        walk_at "el"
        refine ⟨by decide, by decide, fun D2 hD2 => ?_⟩
        have e6 := nw_of hD2 (.lst [])
        have nD2 := hb5.ne hD2
        have nDc2 := bagNd hb5 hD2
        refine lc_of (walk_range (lo := 0) (n := 2)) (fun j H6 => Bag H6 b c ∧ Kp b H5 H6 ∧ ∃ ms : List Int, ms.length = j ∧ (∀ m ∈ ms, 0 ≤ m ∧ m ≤ 2) ∧ H6 D2 = some (.lst (ms.map V.int))) ⟨hb5.same e6, same_kp e6, [], rfl, (fun _ h => nomatch h), upd_same⟩ (fun _ _ _ _ => trivial) ?_ ?_
        · rintro j x H6 H7 hj ⟨hb6, k6, ms, ml, mb, d6⟩ ⟨rfl, rfl⟩
          walk_at "el"
          refine ⟨rfl, ?_⟩
          walk_at "el"
          refine ⟨by show 7 ≤ sizeLine; decide, fun m hm => ?_⟩
          have e7 := nw_of hm
          walk_at "el"
          refine ⟨b, c, m, _, rfl, hb6.same (e7 _), hb6.ne hm, .inl upd_same, by show 0 < 7; decide, by show 7 ≤ 1000000000; decide, fun y H8 hy hb8 k8 => ?_⟩
          have k78 := Kp.into k8 (e7 _)
          obtain ⟨r, rfl, r0, r2⟩ : ∃ r : Int, y = .int r ∧ 0 ≤ r ∧ r ≤ 2 := by
            clear k8 hb8 k78
            revert y
            exact all_cons ⟨_, rfl, by decide, by decide⟩ (all_cons ⟨_, rfl, by decide, by decide⟩ (all_cons ⟨_, rfl, by decide, by decide⟩ (all_cons ⟨_, rfl, by decide, by decide⟩ (all_cons ⟨_, rfl, by decide, by decide⟩ (all_cons ⟨_, rfl, by decide, by decide⟩ (all_cons ⟨_, rfl, by decide, by decide⟩ all_nil))))))
          have d8 := k78 _ _ nD2 d6
          exact ⟨_, d8, by rw [List.length_map, ml]; exact Nat.lt_of_lt_of_le hj (by decide), bagMv hb8 nD2 nDc2, (k6.trans k78).mut hD2, ms ++ [r], by rw [List.length_append, ml]; rfl, all_app mb (all_cons ⟨r0, r2⟩ all_nil), by rw [upd_same, List.map_append]; rfl⟩
        · rintro H6 ⟨hb6, k6, ms, ml, mb, d6⟩
          match ms, ml with
          | [m0, m1], _ =>
          have d6 : H6 D2 = some (.lst [.int m0, .int m1]) := d6
          obtain ⟨b1, b2⟩ := mb m0 (by simp)
          obtain ⟨b3, b4⟩ := mb m1 (by simp)
          have d56 := k6 _ _ nD d5
          have t6 := tabS_bag t5 hb5 k6
          have X6 : Exs H6 ps xs := ⟨X5.len, fun k v hv => let ⟨p, x, e, hx, hp⟩ := X5.at_ k v hv; ⟨p, x, e, hx, hp.kp hb5 k6⟩⟩
          obtain ⟨n1, hn1⟩ := Int.eq_ofNat_of_zero_le (show 0 ≤ nw + m0 by omega)
          obtain ⟨n2, hn2⟩ := Int.eq_ofNat_of_zero_le (show 0 ≤ ne + m1 by omega)
          walk_at "el"
          refine ⟨.inl ⟨rfl, _, SqL.of d56⟩, ?_⟩
          walk_at "el"
          rw [hn1, hn2]
          refine ⟨b, c, n1, n2, rfl, hb6, by omega, by omega, fun x H7 p bx hx hb7 k7 => ?_⟩
          have d7 := k7 _ _ nD d56
          have X7 : Exs H7 ps xs := ⟨X6.len, fun k v hv => let ⟨p, x, e, hx, hp⟩ := X6.at_ k v hv; ⟨p, x, e, hx, hp.kp hb6 k7⟩⟩
          have t7 := tabS_bag t6 hb6 k7
          have ch := ch_of (ys := ps ++ [.ref p]) d7
          walk_at "el"
          refine ⟨_, _, _, rfl, rfl, d7, by rw [lp]; exact Nat.lt_of_lt_of_le (m := 3) hi (by decide), ?_⟩
          have X8 : Exs (upd H7 D (.lst (ps ++ [.ref p]))) (ps ++ [.ref p]) (xs ++ [x]) := by
            have base : Exs (upd H7 D (.lst (ps ++ [.ref p]))) ps xs := ⟨X7.len, fun k v hv => let ⟨p, x, e, hx, hp⟩ := X7.at_ k v hv; ⟨p, x, e, hx, hp.lst d7 ch.1⟩⟩
            have hp' := hx.lst d7 ch.1
            refine ⟨by rw [List.length_append, List.length_append, base.len]; rfl, fun k v hv => ?_⟩
            rw [List.getElem?_append] at hv
            split at hv
            · rename_i lt
              obtain ⟨p', x', e, hx', hp''⟩ := base.at_ k v hv
              exact ⟨p', x', e, by rw [List.getElem?_append_left (by rw [← base.len]; exact lt)]; exact hx', hp''⟩
            · cases e : k - ps.length with
              | zero =>
                rw [e] at hv
                cases hv
                exact ⟨p, x, rfl, by rw [List.getElem?_append_right (by rw [← base.len]; omega), ← base.len, e]; rfl, hp'⟩
              | succ m => rw [e] at hv; cases hv
          walk_at "el"
          exact ⟨⟨bagMv hb7 nD nDc, tabS_kp t7 d7 ch.1⟩, ⟨ps ++ [.ref p], xs ++ [x], by rw [List.length_append, lp]; rfl, upd_same, X8, all_app bd (all_cons bx all_nil)⟩, _, _, _, rfl⟩
      · rintro σ H5 ⟨⟨hb5, t5⟩, ⟨ps, xs, lp, d5, X5, bd⟩, v6, v7, v8, rfl⟩
        match ps, lp with
        | [u0, u1, u2], _ =>
        obtain ⟨p, x, rfl, hx, hp⟩ := X5.at_ 0 u0 rfl
        obtain ⟨q, y, rfl, hy, hq'⟩ := X5.at_ 1 u1 rfl
        obtain ⟨r, z, rfl, hz, hr'⟩ := X5.at_ 2 u2 rfl
        have bx := bd x (List.mem_of_getElem? hx)
        have by_ := bd y (List.mem_of_getElem? hy)
        have bz := bd z (List.mem_of_getElem? hz)
        walk_at "el"
        refine ⟨p, q, r, x, y, z, rfl, hp, hq', hr', bx, by_, bz, t5, fun H6 e6 t6 => ?_⟩
        have d6 := e6 _ _ d5 (fun _ z => nomatch z)
        walk_at "el"
        refine ⟨r, p, q, z, x, y, rfl, hr'.ext e6, hp.ext e6, hq'.ext e6, bz, bx, by_, t6, fun H7 e7 t7 => ?_⟩
        walk_at "el"
        exact ⟨⟨hb5.ext (e6.trans e7), t7⟩, _, _, _, _, _, _, _, rfl⟩
    · rintro σ H2 ⟨-, v2, v3, v4, v5, v6, v7, v8, rfl⟩
      walk_at "el"
      exact k _
end
end EL

/- part M50 -/
namespace EL
open PySem PySem.Spec PyProof.Rows L2
open PySem.W (Frag)
set_option maxHeartbeats 0 in
theorem all_mk {P : Program} {w : World} {K : Frag} {h : Heap} {mg : Str → Option Value} {fa : Addr} (X : K.In h) (G : h.Ns mainGlobals mg) (hfa : mg "law" = some (.ref fa))
    {f_bag : Addr} {od_bag an_bag : Option Addr} {sl_bag : Array (Option Value)} {oc_bag kV_bag dc_bag pm_bag cd_bag ct_bag : Value}
    {f_take : Addr} {od_take an_take : Option Addr} {sl_take : Array (Option Value)} {oc_take kV_take dc_take pm_take cd_take ct_take : Value}
    {f_one : Addr} {od_one an_one : Option Addr} {sl_one : Array (Option Value)} {oc_one kV_one dc_one pm_one cd_one ct_one : Value}
    {f__check_sizes : Addr} {od__check_sizes an__check_sizes : Option Addr} {sl__check_sizes : Array (Option Value)} {oc__check_sizes kV__check_sizes dc__check_sizes pm__check_sizes cd__check_sizes ct__check_sizes : Value}
    {f__early_if : Addr} {od__early_if an__early_if : Option Addr} {sl__early_if : Array (Option Value)} {oc__early_if kV__early_if dc__early_if pm__early_if cd__early_if ct__early_if : Value}
    {f_median : Addr} {od_median an_median : Option Addr} {sl_median : Array (Option Value)} {oc_median kV_median dc_median pm_median cd_median ct_median : Value}
    {f_joined : Addr} {od_joined an_joined : Option Addr} {sl_joined : Array (Option Value)} {oc_joined kV_joined dc_joined pm_joined cd_joined ct_joined : Value}
    {f_met : Addr} {od_met an_met : Option Addr} {sl_met : Array (Option Value)} {oc_met kV_met dc_met pm_met cd_met ct_met : Value}
    {f_number : Addr} {od_number an_number : Option Addr} {sl_number : Array (Option Value)} {oc_number kV_number dc_number pm_number cd_number ct_number : Value}
    {f_kind : Addr} {od_kind an_kind : Option Addr} {sl_kind : Array (Option Value)} {oc_kind kV_kind dc_kind pm_kind cd_kind ct_kind : Value}
    {f_any : Addr} {od_any an_any : Option Addr} {sl_any : Array (Option Value)} {oc_any kV_any dc_any pm_any cd_any ct_any : Value}
    {f_drawn : Addr} {od_drawn an_drawn : Option Addr} {sl_drawn : Array (Option Value)} {oc_drawn kV_drawn dc_drawn pm_drawn cd_drawn ct_drawn : Value}
    {f_middle : Addr} {od_middle an_middle : Option Addr} {sl_middle : Array (Option Value)} {oc_middle kV_middle dc_middle pm_middle cd_middle ct_middle : Value}
    {f_ends : Addr} {od_ends an_ends : Option Addr} {sl_ends : Array (Option Value)} {oc_ends kV_ends dc_ends pm_ends cd_ends ct_ends : Value}
    {f_unequal : Addr} {od_unequal an_unequal : Option Addr} {sl_unequal : Array (Option Value)} {oc_unequal kV_unequal dc_unequal pm_unequal cd_unequal ct_unequal : Value}
    {f_alike : Addr} {od_alike an_alike : Option Addr} {sl_alike : Array (Option Value)} {oc_alike kV_alike dc_alike pm_alike cd_alike ct_alike : Value}
    {f_raised : Addr} {od_raised an_raised : Option Addr} {sl_raised : Array (Option Value)} {oc_raised kV_raised dc_raised pm_raised cd_raised ct_raised : Value}
    {f_right : Addr} {od_right an_right : Option Addr} {sl_right : Array (Option Value)} {oc_right kV_right dc_right pm_right cd_right ct_right : Value}
    {f_law : Addr} {od_law an_law : Option Addr} {sl_law : Array (Option Value)} {oc_law kV_law dc_law pm_law cd_law ct_law : Value}
    {cT TT : Addr} {ts : List Addr}
    {CE : Addr}
    {CUn fUn : Addr} {odUn anUn : Option Addr} {slUn : Array (Option Value)} {ocUn kVUn dcUn pmUn cdUn ctUn : Value} {nmUn qUn : Str} {NUn : Addr} {bsUn bmUn : List Value} {snUn : List Str} {subUn : List Value} {abUn : Bool} {colUn : Option Bool} {ddUn : Option Addr} {k0Un k1Un k2Un k3Un k5Un : Option Value}
    (a_bag : PySem.W.nsIn K mainGlobals "_law_bag" = some (some (.ref f_bag)))
    (l_bag : K.lookup f_bag = some ⟨oc_bag, od_bag, .func (PySem.W.fnOf "_law_bag" "_law_bag" (defArgs s_bag) (defBody s_bag) (defScope s_bag) .none kV_bag dc_bag pm_bag an_bag cd_bag ct_bag), sl_bag⟩)
    (c_bag : PySem.W.codeIn K cd_bag "_law_bag" = true)
    (k_bag : PySem.W.keepIn K (.ref f_bag) = true)
    (a_take : PySem.W.nsIn K mainGlobals "_law_take" = some (some (.ref f_take)))
    (l_take : K.lookup f_take = some ⟨oc_take, od_take, .func (PySem.W.fnOf "_law_take" "_law_take" (defArgs s_take) (defBody s_take) (defScope s_take) .none kV_take dc_take pm_take an_take cd_take ct_take), sl_take⟩)
    (c_take : PySem.W.codeIn K cd_take "_law_take" = true)
    (k_take : PySem.W.keepIn K (.ref f_take) = true)
    (a_one : PySem.W.nsIn K mainGlobals "_law_one" = some (some (.ref f_one)))
    (l_one : K.lookup f_one = some ⟨oc_one, od_one, .func (PySem.W.fnOf "_law_one" "_law_one" (defArgs s_one) (defBody s_one) (defScope s_one) .none kV_one dc_one pm_one an_one cd_one ct_one), sl_one⟩)
    (c_one : PySem.W.codeIn K cd_one "_law_one" = true)
    (k_one : PySem.W.keepIn K (.ref f_one) = true)
    (a__check_sizes : PySem.W.nsIn K mainGlobals "_check_sizes" = some (some (.ref f__check_sizes)))
    (l__check_sizes : K.lookup f__check_sizes = some ⟨oc__check_sizes, od__check_sizes, .func (PySem.W.fnOf "_check_sizes" "_check_sizes" (defArgs s__check_sizes) (defBody s__check_sizes) (defScope s__check_sizes) .none kV__check_sizes dc__check_sizes pm__check_sizes an__check_sizes cd__check_sizes ct__check_sizes), sl__check_sizes⟩)
    (c__check_sizes : PySem.W.codeIn K cd__check_sizes "_check_sizes" = true)
    (k__check_sizes : PySem.W.keepIn K (.ref f__check_sizes) = true)
    (a__early_if : PySem.W.nsIn K mainGlobals "_early_if" = some (some (.ref f__early_if)))
    (l__early_if : K.lookup f__early_if = some ⟨oc__early_if, od__early_if, .func (PySem.W.fnOf "_early_if" "_early_if" (defArgs s__early_if) (defBody s__early_if) (defScope s__early_if) .none kV__early_if dc__early_if pm__early_if an__early_if cd__early_if ct__early_if), sl__early_if⟩)
    (c__early_if : PySem.W.codeIn K cd__early_if "_early_if" = true)
    (k__early_if : PySem.W.keepIn K (.ref f__early_if) = true)
    (a_median : PySem.W.nsIn K mainGlobals "median" = some (some (.ref f_median)))
    (l_median : K.lookup f_median = some ⟨oc_median, od_median, .func (PySem.W.fnOf "median" "median" (defArgs s_median) (defBody s_median) (defScope s_median) .none kV_median dc_median pm_median an_median cd_median ct_median), sl_median⟩)
    (c_median : PySem.W.codeIn K cd_median "median" = true)
    (k_median : PySem.W.keepIn K (.ref f_median) = true)
    (a_joined : PySem.W.nsIn K mainGlobals "joined" = some (some (.ref f_joined)))
    (l_joined : K.lookup f_joined = some ⟨oc_joined, od_joined, .func (PySem.W.fnOf "joined" "joined" (defArgs s_joined) (defBody s_joined) (defScope s_joined) .none kV_joined dc_joined pm_joined an_joined cd_joined ct_joined), sl_joined⟩)
    (c_joined : PySem.W.codeIn K cd_joined "joined" = true)
    (k_joined : PySem.W.keepIn K (.ref f_joined) = true)
    (a_met : PySem.W.nsIn K mainGlobals "met" = some (some (.ref f_met)))
    (l_met : K.lookup f_met = some ⟨oc_met, od_met, .func (PySem.W.fnOf "met" "met" (defArgs s_met) (defBody s_met) (defScope s_met) .none kV_met dc_met pm_met an_met cd_met ct_met), sl_met⟩)
    (c_met : PySem.W.codeIn K cd_met "met" = true)
    (k_met : PySem.W.keepIn K (.ref f_met) = true)
    (a_number : PySem.W.nsIn K mainGlobals "_law_number" = some (some (.ref f_number)))
    (l_number : K.lookup f_number = some ⟨oc_number, od_number, .func (PySem.W.fnOf "_law_number" "_law_number" (defArgs s_number) (defBody s_number) (defScope s_number) .none kV_number dc_number pm_number an_number cd_number ct_number), sl_number⟩)
    (c_number : PySem.W.codeIn K cd_number "_law_number" = true)
    (k_number : PySem.W.keepIn K (.ref f_number) = true)
    (a_kind : PySem.W.nsIn K mainGlobals "_law_kind" = some (some (.ref f_kind)))
    (l_kind : K.lookup f_kind = some ⟨oc_kind, od_kind, .func (PySem.W.fnOf "_law_kind" "_law_kind" (defArgs s_kind) (defBody s_kind) (defScope s_kind) .none kV_kind dc_kind pm_kind an_kind cd_kind ct_kind), sl_kind⟩)
    (c_kind : PySem.W.codeIn K cd_kind "_law_kind" = true)
    (k_kind : PySem.W.keepIn K (.ref f_kind) = true)
    (a_any : PySem.W.nsIn K mainGlobals "_law_any" = some (some (.ref f_any)))
    (l_any : K.lookup f_any = some ⟨oc_any, od_any, .func (PySem.W.fnOf "_law_any" "_law_any" (defArgs s_any) (defBody s_any) (defScope s_any) .none kV_any dc_any pm_any an_any cd_any ct_any), sl_any⟩)
    (c_any : PySem.W.codeIn K cd_any "_law_any" = true)
    (k_any : PySem.W.keepIn K (.ref f_any) = true)
    (a_drawn : PySem.W.nsIn K mainGlobals "_law_drawn" = some (some (.ref f_drawn)))
    (l_drawn : K.lookup f_drawn = some ⟨oc_drawn, od_drawn, .func (PySem.W.fnOf "_law_drawn" "_law_drawn" (defArgs s_drawn) (defBody s_drawn) (defScope s_drawn) .none kV_drawn dc_drawn pm_drawn an_drawn cd_drawn ct_drawn), sl_drawn⟩)
    (c_drawn : PySem.W.codeIn K cd_drawn "_law_drawn" = true)
    (k_drawn : PySem.W.keepIn K (.ref f_drawn) = true)
    (a_middle : PySem.W.nsIn K mainGlobals "_law_middle" = some (some (.ref f_middle)))
    (l_middle : K.lookup f_middle = some ⟨oc_middle, od_middle, .func (PySem.W.fnOf "_law_middle" "_law_middle" (defArgs s_middle) (defBody s_middle) (defScope s_middle) .none kV_middle dc_middle pm_middle an_middle cd_middle ct_middle), sl_middle⟩)
    (c_middle : PySem.W.codeIn K cd_middle "_law_middle" = true)
    (k_middle : PySem.W.keepIn K (.ref f_middle) = true)
    (a_ends : PySem.W.nsIn K mainGlobals "_law_ends" = some (some (.ref f_ends)))
    (l_ends : K.lookup f_ends = some ⟨oc_ends, od_ends, .func (PySem.W.fnOf "_law_ends" "_law_ends" (defArgs s_ends) (defBody s_ends) (defScope s_ends) .none kV_ends dc_ends pm_ends an_ends cd_ends ct_ends), sl_ends⟩)
    (c_ends : PySem.W.codeIn K cd_ends "_law_ends" = true)
    (k_ends : PySem.W.keepIn K (.ref f_ends) = true)
    (a_unequal : PySem.W.nsIn K mainGlobals "_law_unequal" = some (some (.ref f_unequal)))
    (l_unequal : K.lookup f_unequal = some ⟨oc_unequal, od_unequal, .func (PySem.W.fnOf "_law_unequal" "_law_unequal" (defArgs s_unequal) (defBody s_unequal) (defScope s_unequal) .none kV_unequal dc_unequal pm_unequal an_unequal cd_unequal ct_unequal), sl_unequal⟩)
    (c_unequal : PySem.W.codeIn K cd_unequal "_law_unequal" = true)
    (k_unequal : PySem.W.keepIn K (.ref f_unequal) = true)
    (a_alike : PySem.W.nsIn K mainGlobals "_law_alike" = some (some (.ref f_alike)))
    (l_alike : K.lookup f_alike = some ⟨oc_alike, od_alike, .func (PySem.W.fnOf "_law_alike" "_law_alike" (defArgs s_alike) (defBody s_alike) (defScope s_alike) .none kV_alike dc_alike pm_alike an_alike cd_alike ct_alike), sl_alike⟩)
    (c_alike : PySem.W.codeIn K cd_alike "_law_alike" = true)
    (k_alike : PySem.W.keepIn K (.ref f_alike) = true)
    (a_raised : PySem.W.nsIn K mainGlobals "_law_raised" = some (some (.ref f_raised)))
    (l_raised : K.lookup f_raised = some ⟨oc_raised, od_raised, .func (PySem.W.fnOf "_law_raised" "_law_raised" (defArgs s_raised) (defBody s_raised) (defScope s_raised) .none kV_raised dc_raised pm_raised an_raised cd_raised ct_raised), sl_raised⟩)
    (c_raised : PySem.W.codeIn K cd_raised "_law_raised" = true)
    (k_raised : PySem.W.keepIn K (.ref f_raised) = true)
    (a_right : PySem.W.nsIn K mainGlobals "_law_right" = some (some (.ref f_right)))
    (l_right : K.lookup f_right = some ⟨oc_right, od_right, .func (PySem.W.fnOf "_law_right" "_law_right" (defArgs s_right) (defBody s_right) (defScope s_right) .none kV_right dc_right pm_right an_right cd_right ct_right), sl_right⟩)
    (c_right : PySem.W.codeIn K cd_right "_law_right" = true)
    (k_right : PySem.W.keepIn K (.ref f_right) = true)
    (a_law : PySem.W.nsIn K mainGlobals "law" = some (some (.ref f_law)))
    (l_law : K.lookup f_law = some ⟨oc_law, od_law, .func (PySem.W.fnOf "law" "law" (defArgs s_law) (defBody s_law) (defScope s_law) .none kV_law dc_law pm_law an_law cd_law ct_law), sl_law⟩)
    (c_law : PySem.W.codeIn K cd_law "law" = true)
    (k_law : PySem.W.keepIn K (.ref f_law) = true)
    (cdR : cd_right = .ref cT)
    (memT : TT ∈ ts)
    (noT : K.lookup TT = none)
    (hdT : PySem.W.codeHdIn K cT TT = true)
    (z_sorted : PySem.W.nsIn K mainGlobals "sorted" = some none)
    (z_len : PySem.W.nsIn K mainGlobals "len" = some none)
    (z_isinstance : PySem.W.nsIn K mainGlobals "isinstance" = some none)
    (z_int : PySem.W.nsIn K mainGlobals "int" = some none)
    (z_bool : PySem.W.nsIn K mainGlobals "bool" = some none)
    (z_str : PySem.W.nsIn K mainGlobals "str" = some none)
    (z_list : PySem.W.nsIn K mainGlobals "list" = some none)
    (z_tuple : PySem.W.nsIn K mainGlobals "tuple" = some none)
    (z_range : PySem.W.nsIn K mainGlobals "range" = some none)
    (z_enumerate : PySem.W.nsIn K mainGlobals "enumerate" = some none)
    (z_zip : PySem.W.nsIn K mainGlobals "zip" = some none)
    (z_abs : PySem.W.nsIn K mainGlobals "abs" = some none)
    (z_repr : PySem.W.nsIn K mainGlobals "repr" = some none)
    (z_min : PySem.W.nsIn K mainGlobals "min" = some none)
    (z_max : PySem.W.nsIn K mainGlobals "max" = some none)
    (z_sum : PySem.W.nsIn K mainGlobals "sum" = some none)
    (z_all : PySem.W.nsIn K mainGlobals "all" = some none)
    (aE : PySem.W.nsIn K mainGlobals "CaseError" = some (some (.ref CE)))
    (yeE : PySem.W.subIn K (.ref CE) (.type "BaseException") = some true)
    (yiE : PySem.W.isClsIn K CE = true)
    (ytE : PySem.W.typeIn K (.ref CE) = some (.type "type"))
    (aUn : PySem.W.nsIn K mainGlobals "Unequal" = some (some (.ref CUn)))
    (iUn : PySem.W.findIn K (.ref CUn) "__init__" = some (some (.ref fUn)))
    (tUn : PySem.W.typeIn K (.ref fUn) = some (.type "function"))
    (lUn : K.lookup fUn = some ⟨ocUn, odUn, .func (PySem.W.fnOf "__init__" "Unequal.__init__" (defArgs s_Unequal_init) (defBody s_Unequal_init) (defScope s_Unequal_init) .none kVUn dcUn pmUn anUn cdUn ctUn), slUn⟩)
    (cUn : PySem.W.codeIn K cdUn "Unequal.__init__" = true)
    (kUn : PySem.W.keepIn K (.ref fUn) = true)
    (xlUn : K.lookup CUn = some (excClassObj nmUn qUn CUn NUn bsUn bmUn true snUn subUn abUn colUn ddUn k0Un k1Un k2Un k3Un k5Un "ValueError.__new__"))
    (xvUn : PySem.HandSPX.refsVE bmUn = true)
    (xsUn : PySem.W.findIn K (.ref CUn) "__setattr__" = some (some (.builtin "object.__setattr__")))
    (xeUn : PySem.W.subIn K (.ref CUn) (.type "BaseException") = some true)
    (xtUn : PySem.W.typeIn K (.ref CUn) = some (.type "type"))
    (xkUn : PySem.W.keepIn K (.ref CUn) = true)
    (xgUn : PySem.W.findIn K (.ref CUn) "__getattribute__" = some (some (.builtin "BaseException.__getattribute__")))
    (xaUn : PySem.W.findIn K (.ref CUn) "__getattr__" = some none)
    (xhUn : PySem.W.hasDictIn K CUn = true)
    (xcUn : PySem.W.findIn K (.ref CUn) "__class__" = some (some (.builtin "object.__class__")))
    (xoUn : PySem.W.mroIn K CUn (.type "object") = some true)
    (xiUn : PySem.W.isClsIn K CUn = true)
    (ysUn : PySem.W.subIn K (.ref CUn) (.ref CE) = some true)
    (x0Un : PySem.W.findIn K (.ref CUn) "one" = some none)
    (x1Un : PySem.W.findIn K (.ref CUn) "other" = some none)
    (sUU : PySem.W.subIn K (.ref CUn) (.ref CUn) = some true) :
    ∃ (c T : Addr) (fd : FuncData), PySem.W.codeHdIn K c T = true ∧ T ∈ ts ∧ K.lookup T = none ∧ (∀ (s : Shared) (v : Value), BindsTo s fd ⟨[v], []⟩ [("_law_script", v)]) ∧ ∀ base : Heap, K.In base → base.Ns mainGlobals mg → base.BuiltinsAt mg T → mainGlobals ≠ T → FnG P w K mg base CX0 10 fa fd ["_law_script"] (spLawT K T) := by
  have e := hfa.symm.trans (PySem.W.mg_of X G a_law)
  cases e
  subst cdR
  have F_bag := fun_mk (st := s_bag) l_bag c_bag k_bag
  have b_bag := F_bag.binds (ps := ["_law_script"]) fun _ _ _ _ _ _ us hl => match us, hl with | [_], _ => rfl
  have F_take := fun_mk (st := s_take) l_take c_take k_take
  have b_take := F_take.binds (ps := ["_law_bag_here", "_law_many"]) fun _ _ _ _ _ _ us hl => match us, hl with | [_, _], _ => rfl
  have F_one := fun_mk (st := s_one) l_one c_one k_one
  have b_one := F_one.binds (ps := ["_law_bag_here", "_law_menu"]) fun _ _ _ _ _ _ us hl => match us, hl with | [_, _], _ => rfl
  have F__check_sizes := fun_mk (st := s__check_sizes) l__check_sizes c__check_sizes k__check_sizes
  have b__check_sizes := F__check_sizes.binds (ps := ["explanations"]) fun _ _ _ _ _ _ us hl => match us, hl with | [_], _ => rfl
  have F__early_if := fun_mk (st := s__early_if) l__early_if c__early_if k__early_if
  have b__early_if := F__early_if.binds (ps := ["truth"]) fun _ _ _ _ _ _ us hl => match us, hl with | [_], _ => rfl
  have F_median := fun_mk (st := s_median) l_median c_median k_median
  have b_median := F_median.binds (ps := ["one", "two", "three"]) fun _ _ _ _ _ _ us hl => match us, hl with | [_, _, _], _ => rfl
  have F_joined := fun_mk (st := s_joined) l_joined c_joined k_joined
  have b_joined := F_joined.binds (ps := ["one", "other"]) fun _ _ _ _ _ _ us hl => match us, hl with | [_, _], _ => rfl
  have F_met := fun_mk (st := s_met) l_met c_met k_met
  have b_met := F_met.binds (ps := ["one", "other"]) fun _ _ _ _ _ _ us hl => match us, hl with | [_, _], _ => rfl
  have F_number := fun_mk (st := s_number) l_number c_number k_number
  have b_number := F_number.binds (ps := ["_law_bag_here"]) fun _ _ _ _ _ _ us hl => match us, hl with | [_], _ => rfl
  have F_kind := fun_mk (st := s_kind) l_kind c_kind k_kind
  have b_kind := F_kind.binds (ps := ["_law_bag_here"]) fun _ _ _ _ _ _ us hl => match us, hl with | [_], _ => rfl
  have F_any := fun_mk (st := s_any) l_any c_any k_any
  have b_any := F_any.binds (ps := ["_law_bag_here"]) fun _ _ _ _ _ _ us hl => match us, hl with | [_], _ => rfl
  have F_drawn := fun_mk (st := s_drawn) l_drawn c_drawn k_drawn
  have b_drawn := F_drawn.binds (ps := ["_law_bag_here", "_law_witnesses", "_law_events"]) fun _ _ _ _ _ _ us hl => match us, hl with | [_, _, _], _ => rfl
  have F_middle := fun_mk (st := s_middle) l_middle c_middle k_middle
  have b_middle := F_middle.binds (ps := ["_law_some"]) fun _ _ _ _ _ _ us hl => match us, hl with | [_], _ => rfl
  have F_ends := fun_mk (st := s_ends) l_ends c_ends k_ends
  have b_ends := F_ends.binds (ps := ["_law_some", "_law_kind_here", "_law_spot"]) fun _ _ _ _ _ _ us hl => match us, hl with | [_, _, _], _ => rfl
  have F_unequal := fun_mk (st := s_unequal) l_unequal c_unequal k_unequal
  have b_unequal := F_unequal.binds (ps := ["_law_some"]) fun _ _ _ _ _ _ us hl => match us, hl with | [_], _ => rfl
  have F_alike := fun_mk (st := s_alike) l_alike c_alike k_alike
  have b_alike := F_alike.binds (ps := ["_law_found", "_law_due"]) fun _ _ _ _ _ _ us hl => match us, hl with | [_, _], _ => rfl
  have F_raised := fun_mk (st := s_raised) l_raised c_raised k_raised
  have b_raised := F_raised.binds (ps := ["_law_act"]) fun _ _ _ _ _ _ us hl => match us, hl with | [_], _ => rfl
  have F_right := fun_mk (st := s_right) l_right c_right k_right
  have b_right := F_right.binds (ps := ["_law_one_here", "_law_two", "_law_three"]) fun _ _ _ _ _ _ us hl => match us, hl with | [_, _, _], _ => rfl
  have F_law := fun_mk (st := s_law) l_law c_law k_law
  have b_law := F_law.binds (ps := ["_law_script"]) fun _ _ _ _ _ _ us hl => match us, hl with | [_], _ => rfl
  have F_ccr := c_right
  have F_ccs := c_raised
  have hsd : mg "sorted" = none := PySem.W.mg_none_of X G z_sorted
  have B : Bi mg := ⟨PySem.W.mg_none_of X G z_len, PySem.W.mg_none_of X G z_isinstance, PySem.W.mg_none_of X G z_int, PySem.W.mg_none_of X G z_bool, PySem.W.mg_none_of X G z_str, PySem.W.mg_none_of X G z_list, PySem.W.mg_none_of X G z_tuple, PySem.W.mg_none_of X G z_range, PySem.W.mg_none_of X G z_enumerate, PySem.W.mg_none_of X G z_zip, PySem.W.mg_none_of X G z_abs, PySem.W.mg_none_of X G z_repr, PySem.W.mg_none_of X G z_min, PySem.W.mg_none_of X G z_max, PySem.W.mg_none_of X G z_sum, PySem.W.mg_none_of X G z_all⟩
  have Tl : Tb mg := ⟨B⟩
  have F_Un := fun_mk (st := s_Unequal_init) lUn cUn kUn
  have b_Un := F_Un.binds (ps := ["self", "one", "other"]) fun _ _ _ _ _ _ us hl => match us, hl with | [_, _, _], _ => rfl
  have OUn : OexC K CUn := ⟨⟨_, _, _, _, _, _, _, _, _, _, _, _, _, _, _, xlUn, xvUn⟩, xsUn, xeUn, xtUn, xkUn⟩
  have xmUn := exm_of yeE yiE ytE ysUn
  have XFUn : XfC K CUn := ⟨xgUn, xaUn, xeUn, xhUn⟩
  have HU : HearU K mg CUn := ⟨PySem.W.mg_of X G aUn, exm_of xeUn xiUn xtUn sUU, XFUn, x0Un, x1Un⟩
  refine ⟨cT, TT, PySem.W.fnOf "law" "law" (defArgs s_law) (defBody s_law) (defScope s_law) .none kV_law dc_law pm_law an_law cd_law ct_law, hdT, memT, noT, fun s v => .of_eq rfl, fun base kin hns hBm gT => ?_⟩
  have TB : LamX.TabB base mg cT TT := ⟨PySem.W.codeHd_of_K kin hdT, hBm, gT⟩
  have EUn : ErrG P w K mg base "Unequal" CUn ["self", "one", "other"] (spErr2 CUn "one" "other") := ⟨⟨_, _, iUn, tUn, ok_Unequal F_Un OUn x0Un x1Un, b_Un⟩, OUn, PySem.W.mg_of X G aUn⟩
  have h_bag : Cal P w K mg base CX0 1 "_law_bag" ["_law_script"] (spBag K) := ⟨_, _, PySem.W.mg_of X G a_bag, k_bag, b_bag, ok_bag F_bag Tl⟩
  have h_take : Cal P w K mg base CX0 1 "_law_take" ["_law_bag_here", "_law_many"] spTake := ⟨_, _, PySem.W.mg_of X G a_take, k_take, b_take, ok_take F_take Tl⟩
  have h_one : Cal P w K mg base CX0 2 "_law_one" ["_law_bag_here", "_law_menu"] (spOne K) := ⟨_, _, PySem.W.mg_of X G a_one, k_one, b_one, ok_one F_one Tl h_take⟩
  have h__check_sizes : Cal P w K mg base (L2.CX P w) 3 "_check_sizes" ["explanations"] (spCkS CUn) := ⟨_, _, PySem.W.mg_of X G a__check_sizes, k__check_sizes, b__check_sizes, ok_ck F__check_sizes Tl EUn⟩
  have h__early_if : Cal P w K mg base CX0 1 "_early_if" ["truth"] spEar := ⟨_, _, PySem.W.mg_of X G a__early_if, k__early_if, b__early_if, ok_early F__early_if Tl⟩
  have h_median : Cal P w K mg base (L2.CX P w) 4 "median" ["one", "two", "three"] (spX3 CUn) := ⟨_, _, PySem.W.mg_of X G a_median, k_median, b_median, ok_median F_median Tl hsd h__check_sizes⟩
  have h_joined : Cal P w K mg base (L2.CX P w) 4 "joined" ["one", "other"] (spX2 CUn joinF) := ⟨_, _, PySem.W.mg_of X G a_joined, k_joined, b_joined, ok_joined F_joined Tl h__check_sizes h__early_if⟩
  have h_met : Cal P w K mg base (L2.CX P w) 4 "met" ["one", "other"] (spX2 CUn metF) := ⟨_, _, PySem.W.mg_of X G a_met, k_met, b_met, ok_met F_met Tl h__check_sizes h__early_if⟩
  have h_number : Cal P w K mg base CX0 2 "_law_number" ["_law_bag_here"] spNum := ⟨_, _, PySem.W.mg_of X G a_number, k_number, b_number, ok_number F_number Tl h_take⟩
  have h_kind : Cal P w K mg base CX0 2 "_law_kind" ["_law_bag_here"] spKnd := ⟨_, _, PySem.W.mg_of X G a_kind, k_kind, b_kind, ok_kind F_kind Tl h_take⟩
  have h_any : Cal P w K mg base CX0 3 "_law_any" ["_law_bag_here"] spAnyT := ⟨_, _, PySem.W.mg_of X G a_any, k_any, b_any, ok_any F_any Tl h_one h_number⟩
  have h_drawn : Cal P w K mg base CX0 4 "_law_drawn" ["_law_bag_here", "_law_witnesses", "_law_events"] spDrX := ⟨_, _, PySem.W.mg_of X G a_drawn, k_drawn, b_drawn, ok_drawn F_drawn Tl h_kind h_any⟩
  have h_middle : Cal P w K mg base CX0 1 "_law_middle" ["_law_some"] spMid := ⟨_, _, PySem.W.mg_of X G a_middle, k_middle, b_middle, ok_middle F_middle Tl hsd⟩
  have h_ends : Cal P w K mg base CX0 1 "_law_ends" ["_law_some", "_law_kind_here", "_law_spot"] spEnds2 := ⟨_, _, PySem.W.mg_of X G a_ends, k_ends, b_ends, ok_ends F_ends Tl hsd⟩
  have h_unequal : Cal P w K mg base CX0 1 "_law_unequal" ["_law_some"] spUneq := ⟨_, _, PySem.W.mg_of X G a_unequal, k_unequal, b_unequal, ok_uneq F_unequal Tl⟩
  have h_alike : CalG P w K mg base CX0 1 "_law_alike" ["_law_found", "_law_due"] (spAlk K) := ⟨_, _, PySem.W.mg_of X G a_alike, k_alike, b_alike, ok_alike F_alike Tl⟩
  have h_right : CalG P w K mg base CX0 8 "_law_right" ["_law_one_here", "_law_two", "_law_three"] (spRight TT) := ⟨_, _, PySem.W.mg_of X G a_right, k_right, b_right, ok_right l_right F_ccr Tl (PySem.W.mg_of X G a_raised) k_raised l_raised F_ccs b_raised HU TB h_median h_joined h_met h_unequal h_middle h_ends h_alike⟩
  exact ok_law F_law Tl h_bag h_take h_one h_drawn h_right
end EL

open PySem PySem.W PyProof.Rows
set_option maxRecDepth 100000 in
set_option maxHeartbeats 0 in
theorem PySem.Challenge.cw_earlyorlate_k50_middles_reckoned_holds : PySem.Challenge.rw_earlyorlate_k50_middles_reckoned.Holds := by
  w_on; o_law; k_head; (case hw => w_witness2)
  k_fill
  refine EL.walk_lawT (l := PySem.Challenge.rw_earlyorlate_k50_middles_reckoned) (k := 10) (n := 63) (x := "_law_script") (CX := fun _ => L2.CX0) (sp := fun w T => EL.spLawT _ T) rfl (by decide) rfl ⟨rfl, by decide, by decide⟩ (fun w h Y => PySem.W.km_in_of Y) (fun w h Y => PySem.W.km_tabs_of Y) ?F (fun _ _ a T ns _ hT hS => ⟨a, ns, rfl, hS, hT, fun _ => rfl⟩) (fun _ _ _ _ _ z => z)
  case F =>
    intro w mg fa h KX G hmg
    refine' EL.all_mk KX G hmg ?a_bag ?l_bag ?c_bag ?k_bag ?a_take ?l_take ?c_take ?k_take ?a_one ?l_one ?c_one ?k_one ?a__check_sizes ?l__check_sizes ?c__check_sizes ?k__check_sizes ?a__early_if ?l__early_if ?c__early_if ?k__early_if ?a_median ?l_median ?c_median ?k_median ?a_joined ?l_joined ?c_joined ?k_joined ?a_met ?l_met ?c_met ?k_met ?a_number ?l_number ?c_number ?k_number ?a_kind ?l_kind ?c_kind ?k_kind ?a_any ?l_any ?c_any ?k_any ?a_drawn ?l_drawn ?c_drawn ?k_drawn ?a_middle ?l_middle ?c_middle ?k_middle ?a_ends ?l_ends ?c_ends ?k_ends ?a_unequal ?l_unequal ?c_unequal ?k_unequal ?a_alike ?l_alike ?c_alike ?k_alike ?a_raised ?l_raised ?c_raised ?k_raised ?a_right ?l_right ?c_right ?k_right ?a_law ?l_law ?c_law ?k_law ?cdR ?memT ?noT ?hdT ?z_sorted ?z_len ?z_isinstance ?z_int ?z_bool ?z_str ?z_list ?z_tuple ?z_range ?z_enumerate ?z_zip ?z_abs ?z_repr ?z_min ?z_max ?z_sum ?z_all ?aE ?yeE ?yiE ?ytE ?aUn ?iUn ?tUn ?lUn ?cUn ?kUn ?xlUn ?xvUn ?xsUn ?xeUn ?xtUn ?xkUn ?xgUn ?xaUn ?xhUn ?xcUn ?xoUn ?xiUn ?ysUn ?x0Un ?x1Un ?sUU
    (case a_bag => k_is)
    (case l_bag => k_is)
    (case c_bag => k_is)
    (case k_bag => k_is)
    (case a_take => k_is)
    (case l_take => k_is)
    (case c_take => k_is)
    (case k_take => k_is)
    (case a_one => k_is)
    (case l_one => k_is)
    (case c_one => k_is)
    (case k_one => k_is)
    (case a__check_sizes => k_is)
    (case l__check_sizes => k_is)
    (case c__check_sizes => k_is)
    (case k__check_sizes => k_is)
    (case a__early_if => k_is)
    (case l__early_if => k_is)
    (case c__early_if => k_is)
    (case k__early_if => k_is)
    (case a_median => k_is)
    (case l_median => k_is)
    (case c_median => k_is)
    (case k_median => k_is)
    (case a_joined => k_is)
    (case l_joined => k_is)
    (case c_joined => k_is)
    (case k_joined => k_is)
    (case a_met => k_is)
    (case l_met => k_is)
    (case c_met => k_is)
    (case k_met => k_is)
    (case a_number => k_is)
    (case l_number => k_is)
    (case c_number => k_is)
    (case k_number => k_is)
    (case a_kind => k_is)
    (case l_kind => k_is)
    (case c_kind => k_is)
    (case k_kind => k_is)
    (case a_any => k_is)
    (case l_any => k_is)
    (case c_any => k_is)
    (case k_any => k_is)
    (case a_drawn => k_is)
    (case l_drawn => k_is)
    (case c_drawn => k_is)
    (case k_drawn => k_is)
    (case a_middle => k_is)
    (case l_middle => k_is)
    (case c_middle => k_is)
    (case k_middle => k_is)
    (case a_ends => k_is)
    (case l_ends => k_is)
    (case c_ends => k_is)
    (case k_ends => k_is)
    (case a_unequal => k_is)
    (case l_unequal => k_is)
    (case c_unequal => k_is)
    (case k_unequal => k_is)
    (case a_alike => k_is)
    (case l_alike => k_is)
    (case c_alike => k_is)
    (case k_alike => k_is)
    (case a_raised => k_is)
    (case l_raised => k_is)
    (case c_raised => k_is)
    (case k_raised => k_is)
    (case a_right => k_is)
    (case l_right => k_is)
    (case c_right => k_is)
    (case k_right => k_is)
    (case a_law => k_is)
    (case l_law => k_is)
    (case c_law => k_is)
    (case k_law => k_is)
    (case cdR => rfl)
    (case memT => exact List.Mem.head _)
    (case noT => rfl)
    (case hdT => rfl)
    (case z_sorted => k_is)
    (case z_len => k_is)
    (case z_isinstance => k_is)
    (case z_int => k_is)
    (case z_bool => k_is)
    (case z_str => k_is)
    (case z_list => k_is)
    (case z_tuple => k_is)
    (case z_range => k_is)
    (case z_enumerate => k_is)
    (case z_zip => k_is)
    (case z_abs => k_is)
    (case z_repr => k_is)
    (case z_min => k_is)
    (case z_max => k_is)
    (case z_sum => k_is)
    (case z_all => k_is)
    (case aE => k_is)
    (case yeE => k_is)
    (case yiE => k_is)
    (case ytE => k_is)
    (case aUn => k_is)
    (case iUn => k_is)
    (case tUn => k_is)
    (case lUn => k_is)
    (case cUn => k_is)
    (case kUn => k_is)
    (case xlUn => k_is)
    (case xvUn => decide)
    (case xsUn => k_is)
    (case xeUn => k_is)
    (case xtUn => k_is)
    (case xkUn => k_is)
    (case xgUn => k_is)
    (case xaUn => k_is)
    (case xhUn => k_is)
    (case xcUn => k_is)
    (case xoUn => k_is)
    (case xiUn => k_is)
    (case ysUn => k_is)
    (case x0Un => k_is)
    (case x1Un => k_is)
    (case sUU => k_is)
