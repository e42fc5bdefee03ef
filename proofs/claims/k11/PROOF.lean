import PyProof.Rows.All
import Wide.All
import OpenK.AllK
import Wide.FinOn
import HandS.ForMost
import HandS.ForExc
import HandS.More
import HandS.Flow
import HandS.Style
import HandS.IsInst
import HandS.Property
import HandS.OwnEq
import HandS.Evl
import KE.GoesEnum
import HandS.SortKw
import KE.GoesEnumKw
import HandS.Walk
import HandS.TupAny
import PySem.Challenge.RW_earlyorlate_k11_errors_apart
import HandS.Defaults
import HandS.ExcField
import HandS.ExcIs
import KE.KExcIs
import HandS.TryElse
import HandS.ExcInit
import HandS.Star
import HandS.Finally
import HandS.Small
set_option Elab.async false
set_option linter.all false
set_option maxRecDepth 100000
set_option maxHeartbeats 4000000
/- part P0 -/
/-! Early or late: own words over the hand layer. Part 0: defs that know that no repr is under way. -/
namespace EL
open PySem PySem.Spec PyProof.Rows L2
open PySem.W (Frag)

/-- no repr is under way around -/
abbrev Quiet (A : Around) : Prop := A.guards = some []

/-- a def's promise, for callers around which no repr is under way -/
structure FnG (P : Program) (w : World) (K : Frag) (mg : Str → Option Value) (base : Heap) (X : CXT) (k : Nat) (f : Addr) (fd : FuncData) (ps : List Str) (sp : Sp) : Prop where
  len : ∀ vs H Q E, sp vs H Q E → vs.length = ps.length
  run : ∀ (A : Around) (out : List Env) (s : Shared) (H : Hp) (args : Args) (us : List Value) (vs : List V) (Q : VK) (E : XK),
    Room k A → Quiet A → Env0 P w K mg base A out s H → BindsTo s fd args (ps.zip us) → Vals vs us → sp vs H Q E →
    codeAny (model P w) A (.call (.ref f) args) (CR X out P w H s Q E) s

theorem FnG.of {P : Program} {w : World} {K : Frag} {mg : Str → Option Value} {base : Heap} {X : CXT} {k : Nat} {f : Addr} {fd : FuncData} {ps : List Str} {sp : Sp}
    (F : FnOk P w K mg base X k f fd ps sp) : FnG P w K mg base X k f fd ps sp :=
  ⟨F.len, fun A out s H args us vs Q E hr _ he hb hv hs => F.run A out s H args us vs Q E hr he hb hv hs⟩

theorem FnG.up {P : Program} {w : World} {K : Frag} {mg : Str → Option Value} {base : Heap} {X : CXT} {j k : Nat} {f : Addr} {fd : FuncData} {ps : List Str} {sp : Sp}
    (F : FnG P w K mg base X j f fd ps sp) (h : j ≤ k) : FnG P w K mg base X k f fd ps sp :=
  ⟨F.len, fun A out s H args us vs Q E hr => F.run A out s H args us vs Q E (hr.mono h)⟩

/-- the end of a body, told to the caller -/
theorem ended {X : CXT} {P : Program} {w : World} {K : Frag} {mg : Str → Option Value} {base : Heap} {N : List Str} {qual : Str} {sc : Scope} {f : Addr} {cd : Value} {A : Around} {out : List Env}
    {s s' : Shared} {H H' : Hp} {E : XK} {Q : VK} {σ : L2.St} {v : V} {u : Value}
    (J : Inv (cxOf X P w K mg base N qual sc f cd A out s H E) [] σ H' s') (rv : RelV v u) (q : Q v H') : CE out P w H s Q u s' :=
  ⟨v, H', J.os, J.bare, J.base, J.hok, rv, q⟩

theorem fnG_of {X : CXT} {P : Program} {w : World} {K : Frag} {mg : Str → Option Value} {base : Heap} {k : Nat} {x qual : Str} {st : Stmt} {f : Addr} {fd : FuncData} {N ps : List Str} {sp : Sp}
    (F : Fun K x qual st f fd) (S : FnScope N ps (defScope st)) (len : ∀ vs H Q E, sp vs H Q E → vs.length = ps.length)
    (hbody : ∀ (cd : Value) (A : Around) (out : List Env) (s : Shared) (H : Hp) (vs : List V) (Q : VK) (E : XK), Room k (A.deeper (envOfC qual (defScope st) s.heap.objs.size f cd)) →
      Quiet (A.deeper (envOfC qual (defScope st) s.heap.objs.size f cd)) → sp vs H Q E →
      ∃ t, PSs (cxOf X P w K mg base N qual (defScope st) f cd A out s H E) (defBody st) t ∧ t { nx := fun _ H' => Q .non H', rt := Q } (start N vs) H) :
    FnG P w K mg base X (k + 1) f fd ps sp := by
  obtain ⟨oc, od, kV, doc, pm, an, cd, ct, osl, rfl, lk, hcd⟩ := F.ex
  constructor
  · exact len
  intro A out s H args us vs Q E hr hg e0 hb r hsp
  have old : ∀ b o, base.get? b = some o → s.heap.get? b = some o := fun b o e => (e0.bs b o e).1
  have KX := e0.mod.kin.keeps old
  have kinds : ∀ y ∈ ps.zip us, (defScope st).names.lookup y.1 = some .local ∨ ((defScope st).names.lookup y.1 = some .cell ∧ ((cellsFrom (s.heap.objs.size + 1) (defScope st).names []).lookup y.1).isSome = true) := by
    rintro ⟨n, v⟩ hy
    cases S.par n (List.of_mem_zip hy).1 with
    | inl q => exact .inl q
    | inr q => exact .inr ⟨q, PySem.W.cellsFrom_some _ _ _ (.inl q)⟩
  apply codeAny_call_function hr.depth (KX _ _ lk) rfl S.co S.gen rfl (PySem.W.codeRec_of KX hcd)
  apply hb
  apply wpAny_newFunctionEnv_cells S.kind kinds
  rintro env rfl s1 x
  refine ⟨(e0.mod.nolimit.keeps old).keeps x.toInCall.keep, codeAny_func ?_⟩
  obtain ⟨t, ht, hq⟩ := hbody cd A out s H vs Q E (hr.deeper _) hg hsp
  have I := inv_start (CX := X) (E := E) S hr.hd e0 (len _ _ _ _ hsp) r x
  refine wpAny_mono (ht.run [] s1 _ H _ I hq) ?_ (fun _ _ z => z)
  intro fl s' hs
  cases fl with
  | next =>
    obtain ⟨σ', H', J, q⟩ := hs
    exact ended (v := V.non) (u := Value.none) J rfl q
  | ret u =>
    obtain ⟨v, σ', H', J, rv, q⟩ := hs
    exact ended J rv q
  | brk => exact (let ⟨_, _, _, z⟩ := hs; False.elim z)
  | cont => exact (let ⟨_, _, _, z⟩ := hs; False.elim z)

/-- a def of the module by its name: where it stands, how its arguments bind, its promise -/
structure Cal (P : Program) (w : World) (K : Frag) (mg : Str → Option Value) (base : Heap) (CX : CXT) (k : Nat) (x : Str) (ps : List Str) (sp : Sp) : Prop where
  ex : ∃ f fd, mg x = some (.ref f) ∧ PySem.W.keepIn K (.ref f) = true ∧ Binds K fd ps [] ∧ FnOk P w K mg base CX k f fd ps sp
structure CalG (P : Program) (w : World) (K : Frag) (mg : Str → Option Value) (base : Heap) (CX : CXT) (k : Nat) (x : Str) (ps : List Str) (sp : Sp) : Prop where
  ex : ∃ f fd, mg x = some (.ref f) ∧ PySem.W.keepIn K (.ref f) = true ∧ Binds K fd ps [] ∧ FnG P w K mg base CX k f fd ps sp
theorem Cal.g {P : Program} {w : World} {K : Frag} {mg : Str → Option Value} {base : Heap} {CX : CXT} {k : Nat} {x : Str} {ps : List Str} {sp : Sp} (C : Cal P w K mg base CX k x ps sp) : CalG P w K mg base CX k x ps sp := by
  obtain ⟨f, fd, h1, h2, h3, h4⟩ := C.ex
  exact ⟨f, fd, h1, h2, h3, .of h4⟩
section
variable {X : Cx} {CX : CXT} {k : Nat} {x : Str} {ps : List Str} {sp : Sp} {E : XK} {p pos : Pos} {e : Expr} {es : List Expr} {t : TA}
theorem pe_cal (C : Cal X.prog X.w X.K X.mg X.base CX k x ps sp) (hr : Room k X.A) (hx : Passes CX X E) (ha : PA X (e :: es) t) (hg : Gl X x := by rfl) (hdb : (x == ("__debug__" : Str)) = false := by decide)
    (he : starEach (e :: es) X.env = (false, eval e X.env) :: starEach es X.env := by rfl) (hpl : (backTo pos (starEach es X.env)).any (·.1) = false := by rfl) :
    PE X (.Call (.Name x p) (e :: es) [] pos) (tCall sp [] E t) := by
  obtain ⟨f, fd, h1, h2, h3, h4⟩ := C.ex
  exact pe_call h4 hr hg h1 h2 h3 .nil hx ha hdb he hpl
theorem pe_cal0 (C : Cal X.prog X.w X.K X.mg X.base CX k x ps sp) (hr : Room k X.A) (hx : Passes CX X E) (hg : Gl X x := by rfl) (hdb : (x == ("__debug__" : Str)) = false := by decide) :
    PE X (.Call (.Name x p) [] [] pos) (tCall sp [] E tNil) := by
  obtain ⟨f, fd, h1, h2, h3, h4⟩ := C.ex
  exact pe_call0 h4 hr hg h1 h2 h3 .nil hx hdb
theorem run_calG {f : Addr} {fd : FuncData} {pins : List (Addr × Obj)} {σ : L2.St} {H : Hp} {s : Shared} {Q : VK} {us : List Value} {vs : List V} (F : FnG X.prog X.w X.K X.mg X.base CX k f fd ps sp) (hr : Room k X.A) (hq : Quiet X.A) (hb : Binds X.K fd ps [])
    (hx : Passes CX X E) (I : Inv X pins σ H s) (r : Vals vs us) (h : sp vs H Q E) : wpAny (model X.prog X.w) X.A (call (.ref f) us) (EP X pins σ Q) X.xe s := by
  have hl : us.length = ps.length := r.length.symm.trans (F.len _ _ _ _ h)
  have hb1 := hb s us I.kIn (by rw [List.append_nil]; exact hl)
  rw [List.append_nil] at hb1
  refine wpAny_call (codeAny_mono (F.run X.A X.stack s H ⟨us, []⟩ us vs Q E hr hq I.env0 hb1 r h) ?_)
  rintro (e | fl) s' hz
  · exact hx pins σ H s e s' I hz
  · cases fl with
    | ret u => exact I.after hz
    | next => exact False.elim hz
    | brk => exact False.elim hz
    | cont => exact False.elim hz
theorem pe_calG (C : CalG X.prog X.w X.K X.mg X.base CX k x ps sp) (hr : Room k X.A) (hq : Quiet X.A) (hx : Passes CX X E) (ha : PA X (e :: es) t) (hg : Gl X x := by rfl) (hdb : (x == ("__debug__" : Str)) = false := by decide)
    (he : starEach (e :: es) X.env = (false, eval e X.env) :: starEach es X.env := by rfl) (hpl : (backTo pos (starEach es X.env)).any (·.1) = false := by rfl) :
    PE X (.Call (.Name x p) (e :: es) [] pos) (tCall sp [] E t) := by
  obtain ⟨f, fd, h1, h2, h3, h4⟩ := C.ex
  constructor
  intro pins s σ H Q I h
  apply wpAny_Call_Name_kw
  refine ld_glob I hg h1 (PySem.W.callWith_K (h₀ := X.base) I.ok.mod.kin h2 (thn (ha.run pos pins s σ H _ I h) ?_) he hpl) hdb
  rintro us s1 ⟨vs, H1, I1, r, q⟩
  rw [List.append_nil] at q
  exact ⟨I1.kIn, run_calG h4 hr hq h3 hx I1 r q⟩
theorem pe_calG0 (C : CalG X.prog X.w X.K X.mg X.base CX k x ps sp) (hr : Room k X.A) (hq : Quiet X.A) (hx : Passes CX X E) (hg : Gl X x := by rfl) (hdb : (x == ("__debug__" : Str)) = false := by decide) :
    PE X (.Call (.Name x p) [] [] pos) (tCall sp [] E tNil) := by
  obtain ⟨f, fd, h1, h2, h3, h4⟩ := C.ex
  constructor
  intro pins s σ H Q I h
  apply wpAny_Call_Name_kw
  exact ld_glob I hg h1 (PySem.W.callWith_K0 I.kIn h2 (run_calG (us := []) h4 hr hq h3 hx I .nil h)) hdb
end
end EL

/- part P1 -/
/-! the end of a law whose def wants that no repr is under way -/
namespace EL
open PySem PySem.Spec PyProof.Rows L2
open PySem.W (Frag)

theorem law_from {P : Program} {w : World} {K : Frag} {mg mb : Str → Option Value} {CX : CXT} {k : Nat} {fa a : Addr} {fd : FuncData} {x : Str} {sp : Sp} {s : Shared} {vs : List Value} {H : Hp}
    (KX : K.In s.heap) (hns : s.heap.Ns mainGlobals mg) (hb : s.heap.Ns builtinsNs mb) (hbb : ∀ y : Str, y ≠ "__name__" → mb y = bootBuiltins y) (hlim : s.heap.NoLimit) (hg : s.gens = #[])
    (ha : s.heap.get? a = some { cls := .type "list", data := .seq vs.toArray }) (hr : Room k PySem.callerA)
    (F : ∀ base : Heap, K.In base → base.Ns mainGlobals mg → FnG P w K mg base CX k fa fd [x] sp) (hbind : ∀ (s : Shared) (u : Value), BindsTo s fd ⟨[u], []⟩ [(x, u)])
    (hsp : sp [.ref a] H (fun v _ => v = .bl true) fun _ _ _ => False) (hCX : ∀ e s', CX [] H s (fun _ _ _ => False) e s' → False)
    (hO : Only H) (hok : HOk P w H s.heap) (hA : ∀ b, H b ≠ none → b = a) (hK : H a ≠ none → K.lookup a = none) :
    codeAny (model P w) PySem.callerA (.call (.ref fa) ⟨[.ref a], []⟩) (fun r s' => r = .ok (.ret (.bool true)) ∧ OldK s.heap s'.heap ∧ s'.os = s.os ∧ AllBare s'.gens) s := by
  have free : ∀ {b : Addr} {o : Obj}, s.heap.get? b = some o → (b = a → False) ∨ (H b = none) → (hidT s.heap H).get? b = some o := by
    intro b o e z
    apply hidT_get e
    rcases z with z | z
    · cases q : H b with
      | none => rfl
      | some u => exact (z (hA b (by simp [q]))).elim
    · exact z
  have dict : ∀ {b : Addr} {m : Str → Option Value}, s.heap.Ns b m → (hidT s.heap H).Ns b m := by
    rintro b m ⟨o, es, ep, e, d, r⟩
    refine ⟨o, es, ep, free e (.inl fun z => ?_), d, r⟩
    rw [z, ha] at e
    cases e
    exact nomatch d
  have kin : K.In (hidT s.heap H) := by
    intro b o e
    cases q : H b with
    | none => exact free (KX b o e) (.inr q)
    | some u =>
      have ba := hA b (by simp [q])
      rw [ba] at e q
      rw [hK (by simp [q])] at e
      exact nomatch e
  have M : Mod K mg (hidT s.heap H) := ⟨kin, dict hns, ⟨mb, dict hb, hbb⟩, let ⟨mc, h1, h2⟩ := hlim; ⟨mc, dict h1, h2⟩⟩
  have none_in : ∀ b : Addr, b ∉ ([] : List Addr) := fun b z => by simp at z
  have e0 : Env0 P w K mg (hidT s.heap H) PySem.callerA [] s H :=
    { frames := rfl, mod := M, bs := fun b o e => of_hidT e, bsz := Nat.le_of_eq (hidT_size _ _), funs := trivial, frf := fun b z => (none_in b z).elim, hok := hok, bare := .of_eq hg }
  refine codeAny_mono ((F _ kin (dict hns)).run PySem.callerA [] s H _ [.ref a] [.ref a] _ _ hr rfl e0 (hbind s (.ref a)) (.cons rfl .nil) hsp) ?_
  rintro (e | fl) s' hz
  · exact (hCX e s' hz).elim
  · cases fl with
    | next => exact False.elim hz
    | brk => exact False.elim hz
    | cont => exact False.elim hz
    | ret u =>
      obtain ⟨v, H', os, bare, un, hok', r', q⟩ := hz
      have q2 : v = .bl true := q
      rw [q2] at r'
      have u2 : u = Value.bool true := r'
      rw [u2]
      refine ⟨rfl, OldK.of_keep fun b o e => ?_, os, bare⟩
      rcases hO b with z | ⟨ob, xs, z⟩
      · exact un.keep b o e z (none_in b) (none_in b)
      · have e1 := (hok b _ z).1
        rw [e] at e1
        rw [Option.some.inj e1]
        exact (hok' b _ (un.frzs b ob _ z)).1

theorem law_runs {P : Program} {w : World} {K : Frag} {mg mb : Str → Option Value} {CX : CXT} {k : Nat} {fa a : Addr} {fd : FuncData} {x : Str} {sp : Sp} {s : Shared} {vs : List Value} {ns : List Int}
    (KX : K.In s.heap) (hns : s.heap.Ns mainGlobals mg) (hb : s.heap.Ns builtinsNs mb) (hbb : ∀ y : Str, y ≠ "__name__" → mb y = bootBuiltins y) (hlim : s.heap.NoLimit) (hg : s.gens = #[])
    (ha : s.heap.get? a = some { cls := .type "list", data := .seq vs.toArray }) (hi : IntsAre vs ns) (hl : ns.length ≤ sizeLine) (hr : Room k PySem.callerA)
    (F : ∀ base : Heap, K.In base → base.Ns mainGlobals mg → FnG P w K mg base CX k fa fd [x] sp) (hbind : ∀ (s : Shared) (u : Value), BindsTo s fd ⟨[u], []⟩ [(x, u)])
    (hsp : ∀ H : Hp, Only H → SqL K H a (ns.map V.int) → sp [.ref a] H (fun v _ => v = .bl true) fun _ _ _ => False)
    (hCX : ∀ H e s', CX [] H s (fun _ _ _ => False) e s' → False) :
    codeAny (model P w) PySem.callerA (.call (.ref fa) ⟨[.ref a], []⟩) (fun r s' => r = .ok (.ret (.bool true)) ∧ OldK s.heap s'.heap ∧ s'.os = s.os ∧ AllBare s'.gens) s := by
  have rv := vals_ints hi
  by_cases hk : K.lookup a = none
  · let H : Hp := fun b => if b = a then some (.frz { cls := .type "list", data := .seq vs.toArray } (.lst (ns.map V.int))) else none
    have at_ : H a = some (.frz { cls := .type "list", data := .seq vs.toArray } (.lst (ns.map V.int))) := if_pos rfl
    have other : ∀ b, b ≠ a → H b = none := fun b h => if_neg h
    have hO : Only H := fun b => by
      by_cases q : b = a
      · exact .inr ⟨_, _, by rw [q]; exact at_⟩
      · exact .inl (other b q)
    refine law_from (H := H) KX hns hb hbb hlim hg ha hr F hbind (hsp H hO (.inl (.inr ⟨_, at_⟩))) (hCX H) hO ?_ ?_ fun _ => hk
    · intro b u z
      by_cases q : b = a
      · subst q
        rw [at_] at z
        cases z
        refine ⟨ha, ?_, vs, _, rv, ha⟩
        rw [List.length_map]
        exact hl
      · rw [other b q] at z
        exact nomatch z
    · intro b z
      by_cases q : b = a
      · exact q
      · exact (z (other b q)).elim
  · obtain ⟨o, hk⟩ := Option.ne_none_iff_exists'.mp hk
    have e := KX a o hk
    rw [ha] at e
    cases e
    let H : Hp := fun _ => none
    have hO : Only H := fun _ => .inl rfl
    have hS : SqL K H a (ns.map V.int) := .inr ⟨_, vs.toArray, _, hk, rfl, rfl, rfl, by simpa [hi.length] using hl, by simpa using rv⟩
    exact law_from (H := H) KX hns hb hbb hlim hg ha hr F hbind (hsp H hO hS) (hCX H) hO (fun b u z => nomatch (show (none : Option HO) = some u from z)) (fun b z => (z rfl).elim) fun z => (z rfl).elim

theorem walk_law {l : PySem.W.OpenLaw} {n k : Nat} {q : Program} {loose : List Str} {XP : (Str → Option Value) → Heap → Prop} {YP : World → Heap → Prop} {d : DefRec} {K : Params → Frag} {CX : World → CXT} {sp : World → Sp} {x : Str}
    (hn : l.most = some n) (hn2 : n ≤ sizeLine) (hdf : d.params.defaults = []) (hr : Room k PySem.callerA) (hY : ∀ (w : World) (h : Heap), YP w h → (K w.params).In h)
    (F : ∀ (w : World) (mg : Str → Option Value) (fa : Addr) (h : Heap), (K w.params).In h → h.Ns mainGlobals mg → mg d.name = some (.ref fa) →
      ∃ fd : FuncData, (∀ (s : Shared) (u : Value), BindsTo s fd ⟨[u], []⟩ [(x, u)]) ∧ ∀ base : Heap, (K w.params).In base → base.Ns mainGlobals mg → FnG l.prog w (K w.params) mg base (CX w) k fa fd [x] (sp w))
    (hsp : ∀ (w : World) (H : Hp) (a : Addr) (ns : List Int), ns.length ≤ n → Only H → SqL (K w.params) H a (ns.map V.int) → sp w [.ref a] H (fun v _ => v = .bl true) fun _ _ _ => False)
    (hCX : ∀ (w : World) (H : Hp) (s : Shared) (e : Value) (s' : Shared), CX w [] H s (fun _ _ _ => False) e s' → False) :
    PySem.W.WalkO q loose XP YP l.row.toRowW d [] (fun f vs => PySem.call f vs) := by
  refine Att.attach_call hn hdf ?_
  intro w s₀ s₁ mg mb fa o pm cd doc a vs ns G Y ho hd hcd hmg hobj hints hlen hg
  obtain ⟨fd, hb, hF⟩ := F w mg fa _ (hY w _ Y) G.T.g hmg
  exact law_runs (hY w _ Y) G.T.g G.T.b G.T.builtins G.T.nolimit hg hobj hints (Nat.le_trans hlen hn2) hr hF hb (fun H => hsp w H a ns hlen) fun H => hCX w H s₁
end EL

/- part P2 -/
/-! repr of data, where no repr is under way -/
namespace EL
open PySem PySem.Spec PyProof.Rows L2
open PySem.W (Frag)
mutual
theorem dp_nodict {K : Frag} {H : Hp} : ∀ (d : PyData) (v : V), Dp K H v d → d.hasDict = false
  | .none, _, _ => rfl
  | .bool _, _, _ => rfl
  | .int _, _, _ => rfl
  | .str _, _, _ => rfl
  | .list ds, _, h => by
    cases h with
    | lst _ ha => exact dp_nodictAll ds _ ha
  | .tuple ds, _, h => by
    cases h with
    | tup _ ha => exact dp_nodictAll ds _ ha
  | .dict _, _, h => by cases h
theorem dp_nodictAll {K : Frag} {H : Hp} : ∀ (ds : List PyData) (vs : List V), DpAll K H vs ds → PyData.hasDictAll ds = false
  | [], _, _ => rfl
  | d :: ds, _, h => by
    cases h with
    | cons h1 h2 =>
      show (d.hasDict || PyData.hasDictAll ds) = false
      rw [dp_nodict d _ h1, dp_nodictAll ds _ h2]
      rfl
end
/-- what repr hands back of data -/
def rShow (K : Frag) : List V → Hp → VK → Prop := fun xs H Q => ∃ x d, xs = [x] ∧ Dp K H x d ∧ d.showable = true ∧ d.depth ≤ 50 ∧ d.shown.length ≤ sizeLine ∧ Q (.str d.shown) H
theorem call_show {X : Cx} (hq : Quiet X.A) (hu : X.A.units + 64 < cLine) : CallR X (.builtin "repr") (rShow X.K) := by
  rintro pins s σ H xs us Q I r ⟨x, d, rfl, hd, hs, hdep, hlen, q⟩
  cases r with
  | cons rx rn =>
    rename_i u us
    cases rn
    obtain ⟨as, rd⟩ := Dp.reads I d x u hd rx
    have fin : ∀ t k, EP X pins σ Q (.str d.shown t) { s with toks := k } := fun t k => ⟨V.str d.shown, H, I.tok _, ⟨t, rfl⟩, q⟩
    cases rd with
    | none => exact PySem.P.repr_of_none (fin _ _)
    | bool b => exact PySem.P.repr_of_bool (fin _ _)
    | int i t => exact PySem.P.repr_of_int (by simpa [PyData.showable] using hs) (fin _ _)
    | str y t => exact PySem.P.repr_of_str (fin _ _) hlen
    | list h1 h2 h3 h4 =>
      have nd := dp_nodict _ _ hd
      refine repr_of_reads' (h₀ := s.heap) (.list h1 h2 h3 h4) hs (fun z => by rw [nd] at z; cases z) hq (by omega) (fun _ _ e => e) ?_ hlen
      intro h' t tk k
      exact ⟨V.str _, H, I.kept k, ⟨t, rfl⟩, q⟩
    | tuple h1 h2 h3 h4 =>
      have nd := dp_nodict _ _ hd
      refine repr_of_reads' (h₀ := s.heap) (.tuple h1 h2 h3 h4) hs (fun z => by rw [nd] at z; cases z) hq (by omega) (fun _ _ e => e) ?_ hlen
      intro h' t tk k
      exact ⟨V.str _, H, I.kept k, ⟨t, rfl⟩, q⟩
    | dict h1 h2 h3 h4 h5 => cases hd
theorem call_showE {X : Cx} (hq : Quiet X.A) (hu : X.A.units + 64 < cLine) : CallR X (.builtin "repr") (fun xs H Q => ∃ p, xs = [.ref p] ∧ H p = some (.dK []) ∧ Q (.str (PyData.dict []).shown) H) := by
  rintro pins s σ H xs us Q I r ⟨p, rfl, hp, q⟩
  cases r with
  | cons rx rn =>
    rename_i u us
    cases rn
    cases rx
    obtain ⟨_, ns, vs, kv, o, es, ep, ho, ex, hd, _, pr, _⟩ := I.hok p _ hp
    cases kv
    have e0 : es.toList = [] := by
      generalize es.toList = l at pr
      cases pr
      rfl
    have e1 : es = #[] := Array.toList_inj.mp e0
    subst e1
    have hz : X.A.units + ((PyData.dict []).depth + 1) < cLine := by
      have z : (PyData.dict []).depth ≤ 50 := by decide +kernel
      omega
    refine repr_of_reads' (d := .dict []) (h₀ := s.heap) (.dict ho ex.1 hd .nil .nil) (by decide +kernel) (fun _ z => ?_) hq hz (fun _ _ e => e) ?_ (by decide +kernel)
    · have z' : sysModules = p := by simpa using z
      rw [← z'] at ns
      exact absurd ns (by decide)
    · intro h' t tk k
      exact ⟨V.str _, H, I.kept k, ⟨t, rfl⟩, q⟩
/-- repr of data, or of an empty dict -/
def rShowU (K : Frag) : List V → Hp → VK → Prop := fun xs H Q => rShow K xs H Q ∨ ∃ p, xs = [.ref p] ∧ H p = some (.dK []) ∧ Q (.str (PyData.dict []).shown) H
theorem u_show {X : Cx} (hq : Quiet X.A) (hu : X.A.units + 64 < cLine) : CallR X (.builtin "repr") (rShowU X.K) := (call_show hq hu).or (call_showE hq hu)
end EL

/- part E1 -/
/-! enumerate(v, start=k): how it is made -/
namespace EL
open PySem PySem.Spec PyProof.Rows L2
open PySem.W (Frag)
theorem tcall_enum_kw (a b : Value) : checkTypeCall "enumerate" ⟨[a], [("start", b)]⟩ = pure () := by kernel_rfl
theorem ncall_enum_kw (a b : Value) : checkBuiltinCall "enumerate.__new__" ⟨[.type "enumerate", a], [("start", b)]⟩ = pure () := by kernel_rfl
/-- the enumerate object, before its first turn -/
abbrev enumObj (r : Value) (k : Int) : Obj := { cls := .type "enumerate", data := .fields #[.none, .bool false, r, rawInt k, .none, .none] }
set_option maxHeartbeats 2000000 in
theorem meets_enum_kw {v : Value} {rv : Heap → Value} {f : Heap → Heap} {W : Heap → Prop}
    (IT : ∀ (prog : Program) (w : World) (A : Around) (E : Value → Shared → Prop) (s : Shared) (Q : Value → Shared → Prop), W s.heap → Q (rv s.heap) { s with heap := f s.heap } → wpAny (model prog w) A (pyIter v) Q E s)
    (k : Int) (t : Tok) (fit : Builtin.SmallTypes.fitsIndex k = true) :
    Meets (Builtin.«enumerate.__new__» ⟨[.type "enumerate", v], [("start", .int k t)]⟩) (fun _ R s => W s.heap ∧ R (.ok (.ret (.ref (f s.heap).objs.size))) { s with heap := (f s.heap).push (enumObj (rv s.heap) k) }) :=
  .of_wp fun prog w A R s h => by
    obtain ⟨hp, g, d, tk, os⟩ := s
    obtain ⟨h1, h⟩ := h
    have sub := sub_enumerate
    have nf : (!Builtin.SmallTypes.fitsIndex k) = false := by rw [fit]; rfl
    have go : ∀ {A' : Around} {E : Value → Shared → Prop} {Q : Value → Shared → Prop}, Q (rv hp) ⟨f hp, g, d, tk, os⟩ → wpAny (model prog w) A' (pyIter v) Q E ⟨hp, g, d, tk, os⟩ := fun q => IT prog w _ _ ⟨hp, g, d, tk, os⟩ _ h1 q
    wp_walk using go
    refine wpAny_stack_any fun st => wpAny_pure ?_
    split
    · rename_i c _ _ _ _ _
      cases (c == Value.type "enumerate")
      · wp_walk using go
        exact ⟨_, rfl, h⟩
      · wp_walk using go
        exact ⟨_, rfl, h⟩
    · wp_walk using go
      exact ⟨_, rfl, h⟩
end EL

/- part E2 -/
/-! enumerate over any iterator: one turn; zip over two tuples whose pair may still be about -/
namespace EL
open PySem PySem.Spec PyProof.Rows L2
open PySem.W (Frag)
section
variable {prog : Program} {w : World} {A : Around} {E : Value → Shared → Prop} {s : Shared}
theorem alive {a : Addr} {Q : Option Obj → Shared → Prop} (h : Q (s.heap.get? a) s) : wpAny (model prog w) A (loadIfAlive a) Q E s := fun _ _ _ => h
theorem enum_turn {e it : Addr} {c : Int} {old : Value} {R : Value → Heap → Prop} {Q : Value → Shared → Prop} (he : IsEnum s.heap e it c old)
    (inner : ∀ (Q' E' : Value → Shared → Prop), (∀ x h1 tk, IsEnum h1 e it c old → R x h1 → Q' x { s with heap := h1, toks := tk }) → wpAny (model prog w) A (Builtin.SmallTypes.nextOf (.ref it)) Q' E' s)
    (hQ : ∀ x h1 h' tk, R x h1 → e < h1.objs.size → IsEnumOut h' e it (c + 1) x h1.objs.size → h'.get? h1.objs.size = some { cls := .type "tuple", data := .seq #[.int c tk, x] } → h'.objs.size = h1.objs.size + 1 →
      (∀ b o, b ≠ e → h1.get? b = some o → h'.get? b = some o) → Q (.ref h1.objs.size) { s with heap := h', toks := tk + 1 }) :
    wpAny (model prog w) A (Builtin.«enumerate.__next__» ⟨[.ref e], []⟩) (fun fin s' => ∃ v, fin = .done (.ret v) ∧ Q v s') E s := by
  obtain ⟨hp, g, d, tk0, os⟩ := s
  refine wpAny_bind (m := field (.ref e) 2) (wpAny_field he rfl (x := .ref it) rfl (wpAny_bind (inner _ _ fun x h1 tk e1 r1 => ?_)))
  have lt : e < h1.objs.size := Heap.lt_size e1
  refine wpAny_bind (m := field (.ref e) 3) (wpAny_field e1 rfl (x := rawInt c) rfl ?_)
  refine wpAny_bind (m := field (.ref e) 4) (wpAny_field e1 rfl (x := .none) rfl ?_)
  refine wpAny_bind (m := mkInt c) (wpAny_mkInt ?_)
  refine wpAny_bind (m := setField (.ref e) 3 (rawInt (c + 1))) (wpAny_setField_rec e1 (by simp) fun h2 e2 k2 => ?_)
  have e2' : IsEnum h2 e it (c + 1) old := e2
  refine wpAny_bind (m := setField (.ref e) 4 .none) (wpAny_setField_rec e2' (by simp) fun h3 e3 k3 => ?_)
  have e3' : IsEnum h3 e it (c + 1) old := e3
  have z3 : h3.objs.size = h1.objs.size := k3.1.trans k2.1
  have up3 : ∀ b o, b ≠ e → h1.get? b = some o → h3.get? b = some o := fun b o hb q => Heap.SameBut.extBut k3 b o hb (Heap.SameBut.extBut k2 b o hb q)
  refine wpAny_bind (m := newTuple [.int c tk, x]) (wpAny_newTuple ?_)
  have e4 : IsEnum (h3.push { cls := .type "tuple", data := .seq #[.int c tk, x] }) e it (c + 1) old := Heap.get?_push_of_some _ e3'
  have t4 : (h3.push { cls := .type "tuple", data := .seq #[.int c tk, x] }).get? h1.objs.size = some { cls := .type "tuple", data := .seq #[.int c tk, x] } := by
    have q := Heap.get?_push_size h3 (o := { cls := .type "tuple", data := .seq #[.int c tk, x] }) rfl
    rw [z3] at q
    exact q
  have s4 : (h3.push { cls := .type "tuple", data := .seq #[.int c tk, x] }).objs.size = h1.objs.size + 1 := (Heap.size_push ..).trans (by rw [z3])
  have up4 : ∀ b o, b ≠ e → h1.get? b = some o → (h3.push { cls := .type "tuple", data := .seq #[.int c tk, x] }).get? b = some o := fun b o hb q => Heap.get?_push_of_some _ (up3 b o hb q)
  refine wpAny_bind (m := Builtin.SmallTypes.ownedTupleIsFree (.ref e)) ?_
  unfold Builtin.SmallTypes.ownedTupleIsFree
  refine wpAny_bind (m := field (.ref e) 0) (wpAny_field e4 rfl (x := .none) rfl (wpAny_pure ?_))
  rw [if_pos rfl]
  refine wpAny_bind (wpAny_rule (wpAny_bind (wpAny_field e4 rfl (x := old) rfl (wpAny_bind (wpAny_setField_rec e4 (by simp) fun h5 e5 k5 => ?_)))))
  have e5' : IsEnum h5 e it (c + 1) x := e5
  show wpAny _ _ (Builtin.SmallTypes.ownedTupleHandOut (.ref e) (.ref h3.objs.size) >>= _) _ _ _
  rw [z3]
  refine wpAny_bind ?_
  unfold Builtin.SmallTypes.ownedTupleHandOut
  refine wpAny_bind (wpAny_setField_rec e5' (by simp) fun h6 e6 k6 => wpAny_setField_rec e6 (by simp) fun h7 e7 k7 => ?_)
  have up : ∀ b o, b ≠ e → h1.get? b = some o → h7.get? b = some o := fun b o hb q =>
    Heap.SameBut.extBut k7 b o hb (Heap.SameBut.extBut k6 b o hb (Heap.SameBut.extBut k5 b o hb (up4 b o hb q)))
  have ne : h1.objs.size ≠ e := Nat.ne_of_gt lt
  refine wpAny_bind (wpAny_letGo (wpAny_pure ⟨_, rfl, hQ x h1 h7 tk r1 lt e7 ?_ ?_ up⟩))
  · exact Heap.SameBut.extBut k7 _ _ ne (Heap.SameBut.extBut k6 _ _ ne (Heap.SameBut.extBut k5 _ _ ne t4))
  · exact k7.1.trans (k6.1.trans (k5.1.trans s4))
end
end EL

/- part E3 -/
/-! one turn of zip(t1, t2), whatever became of the pair that it handed out last -/
namespace EL
open PySem PySem.Spec PyProof.Rows L2
open PySem.W (Frag)
/-- a zip object; f0 tells the pair that is out, b that it was met alive -/
abbrev zipObj (f0 : Value) (b : Bool) (TI TO : Addr) : Obj := { cls := .type "zip", dict := none, data := .fields #[f0, .bool b, .bool false, .ref TI, .ref TO], slots := #[] }
def OutMark (f0 : Value) : Prop := f0 = .none ∨ ∃ a : Addr, f0 = rawInt a
def ZipAt (h : Heap) (z TI TO : Addr) : Prop := ∃ f0 b, h.get? z = some (zipObj f0 b TI TO) ∧ OutMark f0
/-- the cells of the zip and of its two iterators lie apart -/
structure Apart (z TI TO i1 i2 t1 t2 : Addr) : Prop where
  zTI : z ≠ TI
  zTO : z ≠ TO
  zi1 : z ≠ i1
  zi2 : z ≠ i2
  zt1 : z ≠ t1
  zt2 : z ≠ t2
  TITO : TI ≠ TO
  TIi1 : TI ≠ i1
  TIi2 : TI ≠ i2
  TOi1 : TO ≠ i1
  TOi2 : TO ≠ i2
  TOt1 : TO ≠ t1
  TOt2 : TO ≠ t2
  i12 : i1 ≠ i2
  t1i1 : t1 ≠ i1
  t1i2 : t1 ≠ i2
  t2i1 : t2 ≠ i1
  t2i2 : t2 ≠ i2
section
variable {prog : Program} {w : World} {A : Around} {E : Value → Shared → Prop} {s : Shared} {z TI TO i1 i2 t1 t2 : Addr} {xs ys : Array Value} {i : Nat}
/-- what the zip stands on -/
structure ZipSt (h : Heap) (z TI TO i1 i2 t1 t2 : Addr) (xs ys : Array Value) (i : Nat) : Prop where
  zip : ZipAt h z TI TO
  ti : IsTupOf2 h TI (.ref i1) (.ref i2)
  to : ∃ a b, IsTupOf2 h TO a b
  it1 : h.IsTupleIter i1 t1 i
  it2 : h.IsTupleIter i2 t2 i
  tu1 : h.IsTuple t1 xs
  tu2 : h.IsTuple t2 ys
theorem ext_of {x : Addr} {h h' : Heap} (k : Heap.SameBut x h h') : ∀ b o, b ≠ x → h.get? b = some o → h'.get? b = some o := fun b o hb q => Heap.SameBut.extBut k b o hb q
/-- whether the pair is free: if not, the zip notes it -/
theorem free_or {f0 : Value} {b : Bool} {Q : Bool → Shared → Prop} (hz : s.heap.get? z = some (zipObj f0 b TI TO)) (mark : OutMark f0)
    (h1 : Q true s) (h2 : ∀ h' b', h'.get? z = some (zipObj f0 b' TI TO) → h'.objs.size = s.heap.objs.size → (∀ c o, c ≠ z → s.heap.get? c = some o → h'.get? c = some o) → Q false { s with heap := h' }) :
    wpAny (model prog w) A (Builtin.SmallTypes.ownedTupleIsFree (.ref z)) Q E s := by
  unfold Builtin.SmallTypes.ownedTupleIsFree
  rcases mark with rfl | ⟨a, rfl⟩
  · exact wpAny_bind (wpAny_field hz rfl (x := .none) rfl (wpAny_pure h1))
  · refine wpAny_bind (wpAny_field hz rfl (x := rawInt a) rfl ?_)
    refine wpAny_bind (alive ?_)
    have ea : ((a : Nat) : Int).toNat = a := rfl
    cases hal : s.heap.get? ((a : Nat) : Int).toNat with
    | none => exact wpAny_pure h1
    | some o =>
      refine wpAny_bind (m := field (.ref z) 1) (wpAny_field hz rfl (x := .bool b) rfl ?_)
      cases b with
      | true => exact wpAny_pure (h2 s.heap true hz rfl fun _ _ _ q => q)
      | false =>
        refine wpAny_bind (m := setField (.ref z) 1 (.bool true)) (wpAny_setField_rec hz (by simp) fun h' e' k' => wpAny_pure ?_)
        exact h2 h' true e' k'.1 (ext_of k')
theorem drawn {it t : Addr} {vs : Array Value} {v : Value} {Q : Value → Shared → Prop} (hit : s.heap.IsTupleIter it t i) (ht : s.heap.IsTuple t vs) (hv : vs[i]? = some v)
    (h : ∀ h', h'.IsTupleIter it t (i + 1) → Heap.SameBut it s.heap h' → Q v { s with heap := h' }) : wpAny (model prog w) A (Builtin.SmallTypes.nextOf (.ref it)) Q E s :=
  wpAny_nextOf_tuple_item hit ht hv h
theorem zip_turn {x y : Value} {Q : Value → Shared → Prop} (ap : Apart z TI TO i1 i2 t1 t2) (st : ZipSt s.heap z TI TO i1 i2 t1 t2 xs ys i) (hx : xs[i]? = some x) (hy : ys[i]? = some y)
    (hQ : ∀ h' tk, ZipSt h' z TI TO i1 i2 t1 t2 xs ys (i + 1) → IsTupOf2 h' s.heap.objs.size x y → h'.objs.size = s.heap.objs.size + 1 →
      (∀ c o, c ≠ z → c ≠ TO → c ≠ i1 → c ≠ i2 → s.heap.get? c = some o → h'.get? c = some o) → Q (.ref s.heap.objs.size) { s with heap := h', toks := tk }) :
    wpAny (model prog w) A (Builtin.«zip.__next__» ⟨[.ref z], []⟩) (fun fin s' => ∃ v, fin = .done (.ret v) ∧ Q v s') E s := by
  obtain ⟨⟨f0, b, hz, mark⟩, hti, ⟨a0, b0, hto⟩, h1, h2, u1, u2⟩ := st
  obtain ⟨hp, g, d, tk0, os⟩ := s
  replace hz : hp.get? z = some (zipObj f0 b TI TO) := hz
  replace hti : IsTupOf2 hp TI (.ref i1) (.ref i2) := hti
  replace hto : IsTupOf2 hp TO a0 b0 := hto
  replace h1 : hp.IsTupleIter i1 t1 i := h1
  replace h2 : hp.IsTupleIter i2 t2 i := h2
  replace u1 : hp.IsTuple t1 xs := u1
  replace u2 : hp.IsTuple t2 ys := u2
  refine wpAny_bind (m := field (.ref z) 2) (wpAny_field hz rfl (x := .bool false) rfl ?_)
  refine wpAny_bind (m := field (.ref z) 3) (wpAny_field hz rfl (x := .ref TI) rfl ?_)
  refine wpAny_bind (wpAny_seqItems hti rfl ?_)
  have lz : z < hp.objs.size := Heap.lt_size hz
  have an := ap
  refine wpAny_bind (free_or hz mark ?_ ?_)
  · rw [if_pos rfl]
    refine wpAny_bind (wpAny_rule (wpAny_bind (wpAny_field hz rfl (x := .ref TO) rfl (wpAny_bind (wpAny_setField_rec hz (by simp) fun g0 z0 k0 => ?_)))))
    replace z0 : g0.get? z = some (zipObj .ellipsis b TI TO) := z0
    replace k0 : Heap.SameBut z hp g0 := k0
    refine wpAny_bind ?_
    simp only [List.zipIdx_cons, List.zipIdx_nil, List.forIn_cons, List.forIn_nil]
    refine wpAny_bind (wpAny_bind (wpAny_onRaise ?_))
    show wpAny _ _ (Builtin.SmallTypes.nextOf (.ref i1) >>= _) _ _ ⟨g0, g, d, tk0, os⟩
    refine wpAny_bind (drawn (s := ⟨g0, g, d, tk0, os⟩) (h1.at fun o q => ext_of k0 _ _ ap.zi1.symm q) (u1.at fun o q => ext_of k0 _ _ ap.zt1.symm q) hx fun g1 n1 k1 => wpAny_pure ?_)
    replace k1 : Heap.SameBut i1 g0 g1 := k1
    have to1 : IsTupOf2 g1 TO a0 b0 := ext_of k1 _ _ ap.TOi1 (ext_of k0 _ _ ap.zTO.symm hto)
    refine wpAny_bind (wpAny_seqItems (s := ⟨g1, g, d, tk0, os⟩) to1 rfl ?_)
    refine wpAny_bind (updateSeq_IsTupOf2 (s := ⟨g1, g, d, tk0, os⟩) to1 fun g2 to2 k2 => ?_)
    replace k2 : Heap.SameBut TO g1 g2 := k2
    replace to2 : IsTupOf2 g2 TO x b0 := to2
    refine wpAny_bind (wpAny_letGo (wpAny_pure ?_))
    refine wpAny_bind (wpAny_bind (wpAny_onRaise ?_))
    show wpAny _ _ (Builtin.SmallTypes.nextOf (.ref i2) >>= _) _ _ ⟨g2, g, d, tk0, os⟩
    refine wpAny_bind (drawn (s := ⟨g2, g, d, tk0, os⟩) (h2.at fun o q => ext_of k2 _ _ ap.TOi2.symm (ext_of k1 _ _ ap.i12.symm (ext_of k0 _ _ ap.zi2.symm q)))
      (u2.at fun o q => ext_of k2 _ _ ap.TOt2.symm (ext_of k1 _ _ ap.t2i1 (ext_of k0 _ _ ap.zt2.symm q))) hy fun g3 n3 k3 => wpAny_pure ?_)
    replace k3 : Heap.SameBut i2 g2 g3 := k3
    have to3 : IsTupOf2 g3 TO x b0 := ext_of k3 _ _ ap.TOi2 to2
    refine wpAny_bind (wpAny_seqItems (s := ⟨g3, g, d, tk0, os⟩) to3 rfl ?_)
    refine wpAny_bind (updateSeq_IsTupOf2 (s := ⟨g3, g, d, tk0, os⟩) to3 fun g4 to4 k4 => ?_)
    replace k4 : Heap.SameBut TO g3 g4 := k4
    replace to4 : IsTupOf2 g4 TO x y := to4
    refine wpAny_bind (wpAny_letGo (wpAny_pure (wpAny_pure ?_)))
    refine wpAny_bind (wpAny_seqItems (s := ⟨g4, g, d, tk0, os⟩) to4 rfl (wpAny_bind (wpAny_newTuple ?_)))
    have z4 : g4.objs.size = hp.objs.size := by rw [k4.1, k3.1, k2.1, k1.1, k0.1]
    have up4 : ∀ c o, c ≠ z → c ≠ TO → c ≠ i1 → c ≠ i2 → hp.get? c = some o → g4.get? c = some o := fun c o cz cT c1 c2 q =>
      ext_of k4 _ _ cT (ext_of k3 _ _ c2 (ext_of k2 _ _ cT (ext_of k1 _ _ c1 (ext_of k0 _ _ cz q))))
    have zz4 : g4.get? z = some (zipObj .ellipsis b TI TO) := ext_of k4 _ _ ap.zTO (ext_of k3 _ _ ap.zi2 (ext_of k2 _ _ ap.zTO (ext_of k1 _ _ ap.zi1 z0)))
    generalize e5 : g4.push { cls := .type "tuple", data := .seq (#[x, y] : Array Value) } = g5
    have up5 : ∀ c o, g4.get? c = some o → g5.get? c = some o := fun c o q => by rw [← e5]; exact Heap.get?_push_of_some _ q
    have tt5 : IsTupOf2 g5 hp.objs.size x y := by rw [← e5, ← z4]; exact Heap.get?_push_size _ rfl
    have z5 : g5.objs.size = hp.objs.size + 1 := by rw [← e5, Heap.size_push, z4]
    refine wpAny_bind ?_
    show wpAny _ _ (Builtin.SmallTypes.ownedTupleHandOut (.ref z) (.ref g4.objs.size)) _ _ _
    unfold Builtin.SmallTypes.ownedTupleHandOut
    have z5' : g5.get? z = some (zipObj .ellipsis b TI TO) := up5 _ _ zz4
    refine wpAny_bind (wpAny_setField_rec z5' (by simp) fun g6 z6 k6 => ?_)
    replace k6 : Heap.SameBut z g5 g6 := k6
    refine wpAny_setField_rec z6 (by simp) fun g7 z7 k7 => ?_
    replace k7 : Heap.SameBut z g6 g7 := k7
    have up7 : ∀ c o, c ≠ z → g4.get? c = some o → g7.get? c = some o := fun c o cz q => ext_of k7 _ _ cz (ext_of k6 _ _ cz (up5 _ _ q))
    have nz : hp.objs.size ≠ z := Nat.ne_of_gt lz
    refine wpAny_pure ⟨_, rfl, ?_⟩
    show Q (.ref g4.objs.size) ⟨g7, g, d, tk0, os⟩
    rw [z4]
    refine hQ g7 tk0 ⟨⟨rawInt g4.objs.size, false, z7, .inr ⟨_, rfl⟩⟩, ?_, ⟨x, y, up7 _ _ ap.zTO.symm to4⟩, ?_, ?_, ?_, ?_⟩ ?_ ?_ ?_
    · exact up7 _ _ ap.zTI.symm (up4 _ _ ap.zTI.symm ap.TITO ap.TIi1 ap.TIi2 hti)
    · exact n1.at fun o q => up7 _ _ ap.zi1.symm (ext_of k4 _ _ ap.TOi1.symm (ext_of k3 _ _ ap.i12 (ext_of k2 _ _ ap.TOi1.symm q)))
    · exact n3.at fun o q => up7 _ _ ap.zi2.symm (ext_of k4 _ _ ap.TOi2.symm q)
    · exact u1.at fun o q => up7 _ _ ap.zt1.symm (up4 _ _ ap.zt1.symm ap.TOt1.symm ap.t1i1 ap.t1i2 q)
    · exact u2.at fun o q => up7 _ _ ap.zt2.symm (up4 _ _ ap.zt2.symm ap.TOt2.symm ap.t2i1 ap.t2i2 q)
    · exact ext_of k7 _ _ nz (ext_of k6 _ _ nz tt5)
    · rw [k7.1, k6.1, z5]
    · exact fun c o cz cT c1 c2 q => up7 _ _ cz (up4 c o cz cT c1 c2 q)
  · intro h0 b' z0 s0 k0
    replace s0 : h0.objs.size = hp.objs.size := s0
    replace k0 : ∀ c o, c ≠ z → hp.get? c = some o → h0.get? c = some o := k0
    rw [if_neg (by decide)]
    refine wpAny_bind ?_
    simp only [List.forIn_toArray, List.forIn_cons, List.forIn_nil]
    refine wpAny_bind (wpAny_bind (wpAny_holding ?_))
    show wpAny _ _ (Builtin.SmallTypes.nextOf (.ref i1) >>= _) _ _ ⟨h0, g, d, tk0, os⟩
    refine wpAny_bind (drawn (s := ⟨h0, g, d, tk0, os⟩) (h1.at fun o q => k0 _ _ ap.zi1.symm q) (u1.at fun o q => k0 _ _ ap.zt1.symm q) hx fun g1 n1 k1 => wpAny_pure ?_)
    replace k1 : Heap.SameBut i1 h0 g1 := k1
    refine wpAny_pure ?_
    refine wpAny_bind (wpAny_bind (wpAny_holding ?_))
    show wpAny _ _ (Builtin.SmallTypes.nextOf (.ref i2) >>= _) _ _ ⟨g1, g, d, tk0, os⟩
    refine wpAny_bind (drawn (s := ⟨g1, g, d, tk0, os⟩) (h2.at fun o q => ext_of k1 _ _ ap.i12.symm (k0 _ _ ap.zi2.symm q)) (u2.at fun o q => ext_of k1 _ _ ap.t2i1 (k0 _ _ ap.zt2.symm q)) hy fun g2 n2 k2 => wpAny_pure ?_)
    replace k2 : Heap.SameBut i2 g1 g2 := k2
    refine wpAny_pure (wpAny_pure ?_)
    refine wpAny_bind (wpAny_newTuple ?_ (by show 2 ≤ sizeLine; decide))
    have z2 : g2.objs.size = hp.objs.size := by rw [k2.1, k1.1, s0]
    have up : ∀ c o, c ≠ z → c ≠ i1 → c ≠ i2 → hp.get? c = some o → (g2.push { cls := .type "tuple", data := .seq (#[x, y] : Array Value) }).get? c = some o := fun c o cz c1 c2 q =>
      Heap.get?_push_of_some _ (ext_of k2 _ _ c2 (ext_of k1 _ _ c1 (k0 _ _ cz q)))
    refine wpAny_pure ⟨_, rfl, ?_⟩
    show Q (.ref g2.objs.size) ⟨g2.push { cls := .type "tuple", data := .seq (#[x, y] : Array Value) }, g, d, tk0, os⟩
    rw [z2]
    refine hQ _ tk0 ⟨⟨f0, b', Heap.get?_push_of_some _ (ext_of k2 _ _ ap.zi2 (ext_of k1 _ _ ap.zi1 z0)), mark⟩, up _ _ ap.zTI.symm ap.TIi1 ap.TIi2 hti, ⟨a0, b0, up _ _ ap.zTO.symm ap.TOi1 ap.TOi2 hto⟩, ?_, ?_, ?_, ?_⟩ ?_ ?_ ?_
    · exact n1.at fun o q => Heap.get?_push_of_some _ (ext_of k2 _ _ ap.i12 q)
    · exact n2.at fun o q => Heap.get?_push_of_some _ q
    · exact u1.at fun o q => up _ _ ap.zt1.symm ap.t1i1 ap.t1i2 q
    · exact u2.at fun o q => up _ _ ap.zt2.symm ap.t2i1 ap.t2i2 q
    · have q := Heap.get?_push_size g2 (o := { cls := .type "tuple", data := .seq (#[x, y] : Array Value) }) rfl
      rw [z2] at q
      exact q
    · rw [Heap.size_push, z2]
    · exact fun c o cz cT c1 c2 q => up c o cz c1 c2 q
end
end EL

/- part E4 -/
/-! for i, x in enumerate(t, start=k) over a tuple; for i, (x, y) in enumerate(zip(t, u), start=k) over two tuples of one length -/
namespace EL
open PySem PySem.Spec PyProof.Rows L2
open PySem.W (Frag)
section
variable {prog : Program} {w : World} {A : Around} {E : Value → Shared → Prop} {s : Shared} {z TI TO i1 i2 t1 t2 : Addr} {xs ys : Array Value} {i : Nat}
theorem zip_over {Q : Fin → Shared → Prop} (hh : A.handled = none) (ap : Apart z TI TO i1 i2 t1 t2) (st : ZipSt s.heap z TI TO i1 i2 t1 t2 xs ys i) (hx : xs[i]? = none)
    (hE : ∀ h' e, (∀ c o, c ≠ z → c ≠ TO → c ≠ i1 → c ≠ i2 → s.heap.get? c = some o → h'.get? c = some o) → (∃ o, h'.get? e = some o ∧ o.cls = .type "StopIteration") → E (.ref e) { s with heap := h' }) :
    wpAny (model prog w) A (Builtin.«zip.__next__» ⟨[.ref z], []⟩) Q E s := by
  obtain ⟨⟨f0, b, hz, mark⟩, hti, ⟨a0, b0, hto⟩, h1, h2, u1, u2⟩ := st
  obtain ⟨hp, g, d, tk0, os⟩ := s
  replace hz : hp.get? z = some (zipObj f0 b TI TO) := hz
  replace h1 : hp.IsTupleIter i1 t1 i := h1
  replace u1 : hp.IsTuple t1 xs := u1
  refine wpAny_bind (m := field (.ref z) 2) (wpAny_field hz rfl (x := .bool false) rfl ?_)
  refine wpAny_bind (m := field (.ref z) 3) (wpAny_field hz rfl (x := .ref TI) rfl ?_)
  refine wpAny_bind (wpAny_seqItems hti rfl ?_)
  refine wpAny_bind (free_or hz mark ?_ ?_)
  · rw [if_pos rfl]
    refine wpAny_bind (wpAny_rule (wpAny_bind (wpAny_field hz rfl (x := .ref TO) rfl (wpAny_bind (wpAny_setField_rec hz (by simp) fun g0 z0 k0 => ?_)))))
    replace z0 : g0.get? z = some (zipObj .ellipsis b TI TO) := z0
    replace k0 : Heap.SameBut z hp g0 := k0
    refine wpAny_bind ?_
    simp only [List.zipIdx_cons, List.zipIdx_nil, List.forIn_cons, List.forIn_nil]
    refine wpAny_bind (wpAny_bind (wpAny_onRaise ?_))
    show wpAny _ _ (Builtin.SmallTypes.nextOf (.ref i1) >>= _) _ _ ⟨g0, g, d, tk0, os⟩
    refine wpAny_bind (wpAny_nextOf_tuple_end (s := ⟨g0, g, d, tk0, os⟩) hh (h1.at fun o q => ext_of k0 _ _ ap.zi1.symm q) (u1.at fun o q => ext_of k0 _ _ ap.zt1.symm q) hx fun g1 e k1 he => ?_)
    replace k1 : Heap.ExtBut i1 g0 g1 := k1
    obtain ⟨oe, he, hc⟩ := he
    replace he : g1.get? e = some oe := he
    have z1 : g1.get? z = some (zipObj .ellipsis b TI TO) := k1 _ _ ap.zi1 z0
    have ez : e ≠ z := by
      rintro rfl
      rw [z1] at he
      cases he
      simp at hc
    refine wpAny_setField_rec (s := ⟨g1, g, d, tk0, os⟩) z1 (by simp) fun g2 _ k2 => ?_
    replace k2 : Heap.SameBut z g1 g2 := k2
    exact hE g2 e (fun c o cz cT c1 c2 q => ext_of k2 _ _ cz (k1 _ _ c1 (ext_of k0 _ _ cz q))) ⟨oe, ext_of k2 _ _ ez he, hc⟩
  · intro h0 b' z0 s0 k0
    replace k0 : ∀ c o, c ≠ z → hp.get? c = some o → h0.get? c = some o := k0
    rw [if_neg (by decide)]
    refine wpAny_bind ?_
    simp only [List.forIn_toArray, List.forIn_cons, List.forIn_nil]
    refine wpAny_bind (wpAny_bind (wpAny_holding ?_))
    show wpAny _ _ (Builtin.SmallTypes.nextOf (.ref i1) >>= _) _ _ ⟨h0, g, d, tk0, os⟩
    refine wpAny_bind (wpAny_nextOf_tuple_end (s := ⟨h0, g, d, tk0, os⟩) hh (h1.at fun o q => k0 _ _ ap.zi1.symm q) (u1.at fun o q => k0 _ _ ap.zt1.symm q) hx fun g1 e k1 he => ?_)
    replace k1 : Heap.ExtBut i1 h0 g1 := k1
    exact hE g1 e (fun c o cz cT c1 c2 q => k1 _ _ c1 (k0 _ _ cz q)) he
theorem zipType {f0 : Value} {b : Bool} (hz : s.heap.get? z = some (zipObj f0 b TI TO)) : s.TypeIs (.ref z) "zip" := ⟨_, hz, rfl⟩
/-- next(z) within a built-in -/
theorem zip_drawn {Q E' : Value → Shared → Prop} (hz : ZipAt s.heap z TI TO) (h : wpAny (model prog w) A.in1 (Builtin.«zip.__next__» ⟨[.ref z], []⟩) (fun fin s' => ∃ v, fin = .done (.ret v) ∧ Q v s') E' s) :
    wpAny (model prog w) A (Builtin.SmallTypes.nextOf (.ref z)) Q E' s := by
  obtain ⟨f0, b, e, _⟩ := hz
  unfold Builtin.SmallTypes.nextOf
  refine wpAny_bind (wpAny_callSpecial?_slot (name := Str.ofString "__next__") (zipType e) F.slot_zip_next (wpAny_call_entry F.slot_zip_next (zipType e) F.entry_zip_next ?_ (F.args_zip_next_1 _)))
  refine wpAny_mono h ?_ (fun _ _ q => q)
  rintro fin s' ⟨v, rfl, q⟩
  exact ⟨v, rfl, wpAny_pure q⟩
theorem zip_itself {Q : Value → Shared → Prop} (hz : ZipAt s.heap z TI TO) (h : Q (.ref z) s) : wpAny (model prog w) A (pyIter (.ref z)) Q E s := by
  obtain ⟨f0, b, e, _⟩ := hz
  exact wpAny_pyIter_slot (zipType e) F.slot_zip_iter (wpAny_call_entry F.slot_zip_iter (zipType e) F.entry_zip_iter (wpAny_pure ⟨_, rfl, "zip", _, zipType e, F.slot_zip_next.lookup, h⟩) (F.args_zip_iter_1 _))
end
/-- enumerate(v, start=k) as a call -/
theorem enum_made {prog : Program} {w : World} {A : Around} {E : Value → Shared → Prop} {s : Shared} {v : Value} {rv : Heap → Value} {f : Heap → Heap} {W : Heap → Prop} {k : Int} {t : Tok} {Q : Value → Shared → Prop}
    (IT : ∀ (prog : Program) (w : World) (A : Around) (E : Value → Shared → Prop) (s : Shared) (Q : Value → Shared → Prop), W s.heap → Q (rv s.heap) { s with heap := f s.heap } → wpAny (model prog w) A (pyIter v) Q E s)
    (h0 : -(2 ^ 63) ≤ k) (h1 : k < 2 ^ 63) (hw : W s.heap)
    (h : Q (.ref (f s.heap).objs.size) { s with heap := (f s.heap).push (enumObj (rv s.heap) k) }) :
    wpAny (model prog w) A (call (.type "enumerate") [v] [(Str.ofString "start", .int k t)]) Q E s := by
  refine callType_newKw F.called_enumerate (by decide) (F.typeCall_enumerate_start _ _) (F.newCall_enumerate_start _ _) (fun obj => F.args_object_init_start obj _ _) F.entry_enumerate_new (meets_enum_kw IT k t (fits_start h0 h1)) ⟨hw, ?_⟩
  exact ⟨⟨_, Heap.get?_push_size _ rfl, rfl⟩, h⟩
/-- the keyword call of a built-in type -/
theorem callType_kw {M : Model} {A : Around} {E : Value → Shared → Prop} {s : Shared} {env : Env} {pos : Pos} {T : String} {e : Expr} {rest : List Expr} {kws : List Keyword} {Q : Value → Shared → Prop}
    (h : wpAny M A (spliced (backTo pos (starEach (e :: rest) env))) (fun vs s1 => wpAny M A (evalAll ((backToKw pos (keywordEach kws env)).map (·.2)))
      (fun us s2 => wpAny M A (call (.type T) vs (((backToKw pos (keywordEach kws env)).filterMap (·.1)).zip us)) Q E s2) E s1) E s)
    (he : starEach (e :: rest) env = (false, eval e env) :: starEach rest env) (hp : (backTo pos (starEach (e :: rest) env)).any (·.1) = false)
    (ha : (backToKw pos (keywordEach kws env)).all (·.1.isSome) = true) (hn : (backToKw pos (keywordEach kws env)).any (·.1.isNone) = false) :
    wpAny M A (callWith pos (.type T) [] (backTo pos (starEach (e :: rest) env)) (backToKw pos (keywordEach kws env))) Q E s := by
  have z := evalArgs_kw2 (f := .type T) (Q := fun a s1 => wpAny M A (call (.type T) a.pos a.kw) Q E s1) ha h he
  unfold callWith
  refine wpAny_bind (wpAny_holding (wpAny_mono z (fun a s1 q => wpAny_bind (wpAny_standAt ?_)) fun _ _ q => q))
  rw [hp, hn]
  simp only [Bool.or_false]
  refine wpAny_bind (wpAny_pure ?_)
  exact wpAny_bind (wpAny_mono q (fun r s2 hr => wpAny_bind (wpAny_holding (wpAny_point (wpAny_pure hr)))) fun _ _ q => q)
end EL

/- part E5 -/
namespace EL
open PySem PySem.Spec PyProof.Rows L2
open PySem.W (Frag)
/-! ### enumerate(zip(t, u), start=k) -/
/-- each turn: a new pair of the two items, a new pair of the count and that pair -/
def Itez (K : Frag) (a b : Addr) (k : Int) : It :=
  ⟨fun i H => ∃ (xs ys : List V) (x y : V), SqT K H a xs ∧ SqT K H b ys ∧ xs[i]? = some x ∧ ys[i]? = some y,
    fun i H v H' => ∃ (T0 T1 : Addr) (x y : V), v = .ref T1 ∧ H T0 = none ∧ H T1 = none ∧ T0 ≠ T1 ∧ H' = upd (upd H T0 (.tup [x, y])) T1 (.tup [.int (k + i), .ref T0]) ∧ (∀ xs, SqT K H a xs → xs[i]? = some x) ∧ ∀ ys, SqT K H b ys → ys[i]? = some y,
    fun i H => ∃ xs ys : List V, SqT K H a xs ∧ SqT K H b ys ∧ xs.length ≤ i⟩
def TurnEz (e z TI TO i1 i2 t1 t2 : Addr) (k : Int) (i : Nat) (h : Heap) : Prop :=
  (∃ old, IsEnum h e z (k + i) old) ∧ ZipAt h z TI TO ∧ IsTupOf2 h TI (.ref i1) (.ref i2) ∧ (∃ a b, IsTupOf2 h TO a b) ∧ h.IsTupleIter i1 t1 i ∧ h.IsTupleIter i2 t2 i
theorem fp_mem {e z TI TO i1 i2 b : Addr} (h : b ∈ [e, z, TI, TO, i1, i2]) : b = e ∨ b = z ∨ b = TI ∨ b = TO ∨ b = i1 ∨ b = i2 := by simpa using h
theorem fpOk_upd {X : Cx} {pins : List (Addr × Obj)} {H : Hp} {b T : Addr} {o : HO} (f : FpOk X pins H b) (h : b ≠ T) : FpOk X pins (upd H T o) b :=
  ⟨by rw [upd_ne h]; exact f.1, f.2⟩
theorem turn_ez {P : Program} {w : World} {K : Frag} {elts : List Expr} {kk : Nat} {tpos : Pos} {e z TI TO i1 i2 t1 t2 : Addr} {k : Int} (ap : Apart z TI TO i1 i2 t1 t2)
    (ne : ∀ b ∈ [z, TI, TO, i1, i2], e ≠ b) (te1 : t1 ≠ e) (te2 : t2 ≠ e) :
    Turn P w K (.Tuple elts kk tpos) (Itez K t1 t2 k) [e, z, TI, TO, i1, i2] e (TurnEz e z TI TO i1 i2 t1 t2 k) where
  mem := by simp
  obj := fun i h st b hb => by
    obtain ⟨⟨old, he⟩, ⟨f0, b0, hz, _⟩, hti, ⟨a1, a2, hto⟩, ⟨o1, q1, _, d1⟩, ⟨o2, q2, _, d2⟩⟩ := st
    rcases fp_mem hb with q | q | q | q | q | q <;> subst q
    · exact ⟨_, he, fun v q => nomatch q⟩
    · exact ⟨_, hz, fun v q => nomatch q⟩
    · exact ⟨_, hti, fun v q => nomatch q⟩
    · exact ⟨_, hto, fun v q => nomatch q⟩
    · exact ⟨o1, q1, fun v q => by rw [d1] at q; cases q⟩
    · exact ⟨o2, q2, fun v q => by rw [d2] at q; cases q⟩
  keep := fun i h h' st kp => by
    obtain ⟨⟨old, he⟩, ⟨f0, b0, hz, m⟩, hti, ⟨a1, a2, hto⟩, h1, h2⟩ := st
    exact ⟨⟨old, kp e (by simp) _ he⟩, ⟨f0, b0, kp z (by simp) _ hz, m⟩, kp TI (by simp) _ hti, ⟨a1, a2, kp TO (by simp) _ hto⟩, h1.at fun o q => kp i1 (by simp) o q, h2.at fun o q => kp i2 (by simp) o q⟩
  item := by
    intro X hP hw hK hc i pins s σ H E I hf st hg
    subst hP hw hK
    obtain ⟨⟨old, he⟩, hz, hti, hto, h1, h2⟩ := st
    obtain ⟨xs, ys, x, y, hqx, hqy, hx, hy⟩ := hg
    obtain ⟨its, rv, p, _⟩ := I.tuple hqx
    obtain ⟨its2, rv2, p2, _⟩ := I.tuple hqy
    obtain ⟨u, hu, ru⟩ := rv.get hx
    obtain ⟨u2, hu2, ru2⟩ := rv2.get hy
    have old_lt : ∀ {b o}, s.heap.get? b = some o → b < s.heap.objs.size := fun q => Heap.lt_size q
    have le : e < s.heap.objs.size := old_lt he
    have typ : s.TypeIs (.ref e) "enumerate" := ⟨_, he, rfl⟩
    have ez : e ≠ z := ne z (by simp)
    unfold pyNext
    refine wpAny_bind (wpAny_attempt (wpAny_callSpecial?_slot (name := Str.ofString "__next__") typ F.slot_enumerate_next (wpAny_call_entry F.slot_enumerate_next typ F.entry_enumerate_next
      (wpAny_mono (enum_turn (R := fun v h1 => v = .ref s.heap.objs.size ∧ ZipSt h1 z TI TO i1 i2 t1 t2 its.toArray its2.toArray (i + 1) ∧ IsTupOf2 h1 s.heap.objs.size u u2 ∧ h1.objs.size = s.heap.objs.size + 1 ∧
          ∀ c o, c ≠ z → c ≠ TO → c ≠ i1 → c ≠ i2 → s.heap.get? c = some o → h1.get? c = some o)
        (Q := fun v s' => wpAny (model X.prog X.w) X.A (letOwnedTupleGo (.Tuple elts kk tpos) (.ref e) v) (fun _ s2 => ∃ x H', Inv X pins σ H' s2 ∧ RelV x v ∧ (Itez X.K t1 t2 k).yld i H x H' ∧ TurnEz e z TI TO i1 i2 t1 t2 k (i + 1) s2.heap ∧ ∀ b ∈ [e, z, TI, TO, i1, i2], H' b = none) E s')
        he (fun Q' E' hq => zip_drawn hz (zip_turn ap ⟨hz, hti, hto, h1, h2, p, p2⟩ (by simpa using hu) (by simpa using hu2) fun h' tk st' t' z' k' => hq _ h' tk ?_ ⟨rfl, st', t', z', k'⟩)) ?_) ?_ (fun _ _ q => q)) (F.args_enumerate_next_1 _))))
    · exact k' e _ ez (ne TO (by simp)) (ne i1 (by simp)) (ne i2 (by simp)) he
    · rintro v g1 g2 tk ⟨rfl, st1, pr, z1, k1⟩ _ eo tp z2 k2
      have lt1 : e < g1.objs.size := by rw [z1]; exact Nat.lt_succ_of_lt le
      refine wpAny_letOwnedTupleGo_enum (s := { s with heap := g2, toks := tk + 1 }) eo fun g3 e3 k3 => ?_
      replace k3 : Heap.SameBut e g2 g3 := k3
      -- the pair of the zip, then the pair of the enumerate
      have I1 : Inv X pins σ (upd H s.heap.objs.size (.tup [x, y])) { s with heap := g1, toks := tk } :=
        I.turnedNew (ch := [z, TO, i1, i2]) (fun c o hc q => k1 c o (fun q' => hc (by simp [q'])) (fun q' => hc (by simp [q'])) (fun q' => hc (by simp [q'])) (fun q' => hc (by simp [q'])) q)
          (fun b hb => hf b (by
            have q : b = z ∨ b = TO ∨ b = i1 ∨ b = i2 := by simpa using hb
            rcases q with q | q | q | q <;> simp [q])) (Nat.le_refl _)
          ⟨by show 2 ≤ sizeLine; decide, [u, u2], .cons ru (.cons ru2 .nil), ⟨_, pr, rfl, _, rfl⟩⟩
      have n1 : e ≠ s.heap.objs.size := Nat.ne_of_lt le
      have T1 : g3.get? g1.objs.size = some { cls := .type "tuple", data := .seq #[.int (k + i) tk, .ref s.heap.objs.size] } := ext_of k3 _ _ (Nat.ne_of_gt lt1) tp
      have I2 : Inv X pins σ (upd (upd H s.heap.objs.size (.tup [x, y])) g1.objs.size (.tup [.int (k + i), .ref s.heap.objs.size])) { s with heap := g3, toks := tk + 1 } :=
        I1.turnedNew (ch := [e]) (fun c o hc q => ext_of k3 _ _ (fun q' => hc (by simp [q'])) (k2 c o (fun q' => hc (by simp [q'])) q))
          (fun b hb => by
            have q : b = e := by simpa using hb
            subst q
            exact fpOk_upd (hf _ (by simp)) n1) (Nat.le_refl _)
          ⟨by show 2 ≤ sizeLine; decide, [.int (k + i) tk, .ref s.heap.objs.size], .cons ⟨_, rfl⟩ (.cons rfl .nil), ⟨_, T1, rfl, _, rfl⟩⟩
      have lz : ∀ b ∈ [e, z, TI, TO, i1, i2], b < s.heap.objs.size := by
        intro b hb
        rcases fp_mem hb with q | q | q | q | q | q <;> subst q
        · exact le
        · exact let ⟨_, _, q, _⟩ := hz; old_lt q
        · exact old_lt hti
        · exact let ⟨_, _, q⟩ := hto; old_lt q
        · exact let ⟨_, q, _⟩ := h1; old_lt q
        · exact let ⟨_, q, _⟩ := h2; old_lt q
      have f0 : H s.heap.objs.size = none := I.hok.fresh (Nat.le_refl _)
      have f1 : H g1.objs.size = none := I.hok.fresh (by rw [z1]; omega)
      refine ⟨.ref g1.objs.size, _, I2, rfl, ⟨s.heap.objs.size, g1.objs.size, x, y, rfl, f0, f1, by rw [z1]; exact Nat.ne_of_lt (Nat.lt_succ_self _), rfl, fun l hl => by rw [I.tuple_inj hl hqx]; exact hx, fun l hl => by rw [I.tuple_inj hl hqy]; exact hy⟩, ⟨⟨.ref s.heap.objs.size, ?_⟩, ?_, ?_, ?_, ?_, ?_⟩, fun b hb => ?_⟩
      · have q : (k + ((i + 1 : Nat) : Int)) = k + i + 1 := by omega
        rw [q]
        exact e3
      · obtain ⟨f, b, q, m⟩ := st1.zip
        exact ⟨f, b, ext_of k3 _ _ ez.symm (k2 _ _ ez.symm q), m⟩
      · exact ext_of k3 _ _ (ne TI (by simp)).symm (k2 _ _ (ne TI (by simp)).symm st1.ti)
      · obtain ⟨a1, a2, q⟩ := st1.to
        exact ⟨a1, a2, ext_of k3 _ _ (ne TO (by simp)).symm (k2 _ _ (ne TO (by simp)).symm q)⟩
      · exact st1.it1.at fun o q => ext_of k3 _ _ (ne i1 (by simp)).symm (k2 _ _ (ne i1 (by simp)).symm q)
      · exact st1.it2.at fun o q => ext_of k3 _ _ (ne i2 (by simp)).symm (k2 _ _ (ne i2 (by simp)).symm q)
      · have q := lz b hb
        rw [upd_ne (by rw [z1]; exact Nat.ne_of_lt (Nat.lt_succ_of_lt q)), upd_ne (Nat.ne_of_lt q)]
        exact (hf b hb).1
    · rintro fin s' ⟨v, rfl, q⟩
      exact ⟨v, rfl, wpAny_pure ⟨v, rfl, q⟩⟩
  done := by
    intro X hP hw hK hc i pins s σ H E I hf st hg
    subst hP hw hK
    obtain ⟨⟨old, he⟩, hz, hti, hto, h1, h2⟩ := st
    obtain ⟨xs, ys, hqx, hqy, hx⟩ := hg
    obtain ⟨its, rv, p, _⟩ := I.tuple hqx
    obtain ⟨its2, rv2, p2, _⟩ := I.tuple hqy
    have l1 := rv.length
    have typ : s.TypeIs (.ref e) "enumerate" := ⟨_, he, rfl⟩
    unfold pyNext
    refine wpAny_bind (wpAny_attempt (wpAny_callSpecial?_slot (name := Str.ofString "__next__") typ F.slot_enumerate_next (wpAny_call_entry F.slot_enumerate_next typ F.entry_enumerate_next ?_ (F.args_enumerate_next_1 _))))
    refine wpAny_bind (m := field (.ref e) 2) (wpAny_field he rfl (x := .ref z) rfl (wpAny_bind (zip_drawn hz ?_)))
    refine zip_over (I.ok.hd hc) ap ⟨hz, hti, hto, h1, h2, p, p2⟩ (by simp; omega) fun h' x k' hx' => ?_
    obtain ⟨o, ho, hcls⟩ := hx'
    refine wpAny_bind (wpAny_isInstance (T := "StopIteration") (b := true) ⟨o, ho, hcls⟩ isSubtype_stop (wpAny_pure ⟨rfl, ?_⟩))
    exact I.turnedL (t' := s.toks) (ch := [z, TO, i1, i2]) (fun c o hc q => k' c o (fun q' => hc (by simp [q'])) (fun q' => hc (by simp [q'])) (fun q' => hc (by simp [q'])) (fun q' => hc (by simp [q'])) q)
      (fun b hb => hf b (by
        have q : b = z ∨ b = TO ∨ b = i1 ∨ b = i2 := by simpa using hb
        rcases q with q | q | q | q <;> simp [q]))
  self := fun A i s Q E st h => let ⟨⟨_, he⟩, _⟩ := st; wpAny_pyIter_enum he h
end EL

/- part E6 -/
namespace EL
open PySem PySem.Spec PyProof.Rows L2
open PySem.W (Frag)
/-- the keyword's constant -/
theorem start_kw {X : Cx} {pos : Pos} {k : Int} {j : Nat} {p kp : Pos} {E : Value → Shared → Prop} {s : Shared} {Q : List Value → Shared → Prop} (h : Q [.int k s.toks] { s with toks := s.toks + 1 }) :
    wpAny (model X.prog X.w) X.A (evalAll ((backToKw pos (keywordEach [⟨some "start", .Constant (.int k) j p, kp⟩] X.env)).map (·.2))) Q E s := by
  show wpAny _ _ (evalAll ((do let v ← eval (.Constant (.int k) j p) X.env; standAt pos; pure v) :: [])) _ _ s
  exact wpAny_evalAll_cons (wpAny_bind (wpAny_Constant_int (wpAny_bind (wpAny_standAt (wpAny_pure (wpAny_evalAll_nil h))))))
theorem zip_apart (N a b : Addr) (ha : a < N) (hb : b < N) : Apart (N + 4) (N + 2) (N + 3) N (N + 1) a b := by
  constructor <;> intro q <;> simp only [Addr] at * <;> omega
def iEz (K : Frag) (k : Int) (ta : TA) : TI := fun σ H R => ta σ H fun vs H1 => ∃ a b xs ys, vs = [.ref a, .ref b] ∧ SqT K H1 a xs ∧ SqT K H1 b ys ∧ R (Itez K a b k) H1
theorem pi_ez {X : Cx} {e e2 : Expr} {ta : TA} {p p2 pos pos2 tpos cp kp : Pos} {elts : List Expr} {kk j : Nat} {k : Int} (hg : Gl X "enumerate") (hm : X.mg "enumerate" = none) (hg2 : Gl X "zip") (hm2 : X.mg "zip" = none) (ha : PA X [e, e2] ta)
    (h0 : -(2 ^ 63) ≤ k) (h1 : k < 2 ^ 63)
    (hs : starEach [e, e2] X.env = (false, eval e X.env) :: starEach [e2] X.env := by rfl) (hpl : (backTo pos2 (starEach [e2] X.env)).any (·.1) = false := by rfl) :
    PI X (.Tuple elts kk tpos) (.Call (.Name "enumerate" p) [.Call (.Name "zip" p2) [e, e2] [] pos2] [⟨some "start", .Constant (.int k) j cp, kp⟩] pos) (iEz X.K k ta) := by
  refine ⟨fun pins s σ H R I h => ?_⟩
  apply wpAny_Call_Name_kw
  refine ld_blt I hg hm boot_enumerate ?_
  refine callType_kw (e := .Call (.Name "zip" p2) [e, e2] [] pos2) (rest := []) ?_ rfl rfl rfl rfl
  show wpAny _ _ (spliced [(false, eval (.Call (.Name "zip" p2) [e, e2] [] pos2) X.env)]) _ _ _
  refine Calls.spliced_cons ?_
  refine Call_ (ld_blt I hg2 hm2 PyProof.Rows.boot_zip (PyProof.Rows.callWith_type1 (thn (ha.run pos2 pins s σ H _ I h) ?_) hs hpl))
  rintro us s1 ⟨vs, H1, I1, r1, a, b, xs, ys, rfl, hqx, hqy, q⟩
  obtain ⟨ua, ub, rfl, ra, rb⟩ := vals2 r1
  cases (show ua = Value.ref a from ra)
  cases (show ub = Value.ref b from rb)
  obtain ⟨its, rv, pa, _⟩ := I1.tuple hqx
  obtain ⟨its2, rv2, pb, _⟩ := I1.tuple hqy
  refine zip_begins2 (begins_tuple a its.toArray) (begins_tuple b its2.toArray) pa pb fun h' hz hti hto hi1 hi2 hsz hk => ?_
  have I2 : Inv X pins σ H1 { s1 with heap := h' } := I1.kept (t' := s1.toks) hk
  refine Calls.spliced_nil (start_kw ?_)
  have za : ZipAt h' (s1.heap.objs.size + 4) (s1.heap.objs.size + 2) (s1.heap.objs.size + 3) := ⟨.none, false, hz, .inl rfl⟩
  refine enum_made (W := fun h => ZipAt h (s1.heap.objs.size + 4) (s1.heap.objs.size + 2) (s1.heap.objs.size + 3)) (rv := fun _ => .ref (s1.heap.objs.size + 4)) (f := fun h => h) (fun prog w A E s Q hw hq => zip_itself hw hq) h0 h1 za ?_
  have he : IsEnum (h'.push (enumObj (.ref (s1.heap.objs.size + 4)) k)) (s1.heap.objs.size + 5) (s1.heap.objs.size + 4) k .none := by
    have z := Heap.get?_push_size h' (o := enumObj (.ref (s1.heap.objs.size + 4)) k) rfl
    rw [hsz] at z
    exact z
  show wpAny _ _ (pyIter (.ref h'.objs.size)) _ _ _
  rw [hsz]
  refine wpAny_pyIter_enum he ?_
  have I3 : Inv X pins σ H1 { s1 with heap := h'.push (enumObj (.ref (s1.heap.objs.size + 4)) k), toks := s1.toks + 1 } := I1.kept fun c o q => Heap.get?_push_of_some _ (hk c o q)
  have up : ∀ c o, h'.get? c = some o → (h'.push (enumObj (.ref (s1.heap.objs.size + 4)) k)).get? c = some o := fun c o q => Heap.get?_push_of_some _ q
  have la : a < s1.heap.objs.size := pa.lt
  have lb : b < s1.heap.objs.size := pb.lt
  refine ⟨s1.heap.objs.size + 5, [s1.heap.objs.size + 5, s1.heap.objs.size + 4, s1.heap.objs.size + 2, s1.heap.objs.size + 3, s1.heap.objs.size, s1.heap.objs.size + 1], _, _, H1, rfl, I3,
    turn_ez (zip_apart s1.heap.objs.size a b la lb) (fun b hb => ?_) ?_ ?_, ⟨⟨.none, ?_⟩, ⟨.none, false, up _ _ hz, .inl rfl⟩, up _ _ hti, ⟨_, _, up _ _ hto⟩, ⟨_, up _ _ hi1, rfl, rfl⟩, ⟨_, up _ _ hi2, rfl, rfl⟩⟩, fun c hc => ?_, q⟩
  · have q : b = s1.heap.objs.size + 4 ∨ b = s1.heap.objs.size + 2 ∨ b = s1.heap.objs.size + 3 ∨ b = s1.heap.objs.size ∨ b = s1.heap.objs.size + 1 := by simpa using hb
    intro z
    simp only [Addr] at *
    omega
  · intro z
    simp only [Addr] at *
    omega
  · intro z
    simp only [Addr] at *
    omega
  · have q : k + ((0 : Nat) : Int) = k := by omega
    rw [q]
    exact he
  · have q := fp_mem hc
    have hle : s1.heap.objs.size ≤ c := by
      simp only [Addr] at *
      omega
    exact I1.fpOk hle (I1.hok.fresh hle)
/-! ### enumerate(t, start=k) -/
def Ites (K : Frag) (a : Addr) (k : Int) : It :=
  ⟨fun i H => ∃ (xs : List V) (x : V), SqT K H a xs ∧ xs[i]? = some x, fun i H v H' => ∃ T x, v = .ref T ∧ H T = none ∧ H' = upd H T (.tup [.int (k + i), x]) ∧ ∀ xs, SqT K H a xs → xs[i]? = some x, fun i H => ∃ xs : List V, SqT K H a xs ∧ xs.length ≤ i⟩
def TurnEs (e it t : Addr) (k : Int) (i : Nat) (h : Heap) : Prop := (∃ old, IsEnum h e it (k + i) old) ∧ h.IsTupleIter it t i
theorem turn_es {P : Program} {w : World} {K : Frag} {elts : List Expr} {kk : Nat} {tpos : Pos} {e it t : Addr} {k : Int} (ne : e ≠ it) : Turn P w K (.Tuple elts kk tpos) (Ites K t k) [e, it] e (TurnEs e it t k) where
  mem := by simp
  obj := fun i h st b hb => by
    obtain ⟨⟨old, he⟩, ⟨o1, q1, _, d1⟩⟩ := st
    have q : b = e ∨ b = it := by simpa using hb
    rcases q with q | q <;> subst q
    · exact ⟨_, he, fun v q => nomatch q⟩
    · exact ⟨o1, q1, fun v q => by rw [d1] at q; cases q⟩
  keep := fun i h h' st kp => by
    obtain ⟨⟨old, he⟩, h1⟩ := st
    exact ⟨⟨old, kp e (by simp) _ he⟩, h1.at fun o q => kp it (by simp) o q⟩
  item := by
    intro X hP hw hK hc i pins s σ H E I hf st hg
    subst hP hw hK
    obtain ⟨⟨old, he⟩, h1⟩ := st
    obtain ⟨xs, x, hqx, hx⟩ := hg
    obtain ⟨its, rv, p, _⟩ := I.tuple hqx
    obtain ⟨u, hu, ru⟩ := rv.get hx
    have le : e < s.heap.objs.size := Heap.lt_size he
    have typ : s.TypeIs (.ref e) "enumerate" := ⟨_, he, rfl⟩
    unfold pyNext
    refine wpAny_bind (wpAny_attempt (wpAny_callSpecial?_slot (name := Str.ofString "__next__") typ F.slot_enumerate_next (wpAny_call_entry F.slot_enumerate_next typ F.entry_enumerate_next
      (wpAny_mono (enum_turn (R := fun v h' => v = u ∧ h'.IsTupleIter it t (i + 1) ∧ Heap.SameBut it s.heap h')
        (Q := fun v s' => wpAny (model X.prog X.w) X.A (letOwnedTupleGo (.Tuple elts kk tpos) (.ref e) v) (fun _ s2 => ∃ x H', Inv X pins σ H' s2 ∧ RelV x v ∧ (Ites X.K t k).yld i H x H' ∧ TurnEs e it t k (i + 1) s2.heap ∧ ∀ b ∈ [e, it], H' b = none) E s')
        he (fun Q' E' hq => wpAny_nextOf_tuple_item h1 p (x := u) (by simpa using hu) fun h' st' k' => hq _ h' s.toks (ext_of k' _ _ ne he) ⟨rfl, st', k'⟩) ?_) ?_ (fun _ _ q => q)) (F.args_enumerate_next_1 _))))
    · rintro v g1 g2 tk ⟨rfl, st1, k1⟩ lt1 eo tp z2 k2
      refine wpAny_letOwnedTupleGo_enum (s := { s with heap := g2, toks := tk + 1 }) eo fun g3 e3 k3 => ?_
      replace k3 : Heap.SameBut e g2 g3 := k3
      have T1 : g3.get? g1.objs.size = some { cls := .type "tuple", data := .seq #[.int (k + i) tk, v] } := ext_of k3 _ _ (Nat.ne_of_gt lt1) tp
      have sz : s.heap.objs.size = g1.objs.size := k1.1.symm
      have I2 : Inv X pins σ (upd H g1.objs.size (.tup [.int (k + i), x])) { s with heap := g3, toks := tk + 1 } :=
        I.turnedNew (ch := [e, it]) (fun c o hc q => ext_of k3 _ _ (fun q' => hc (by simp [q'])) (k2 c o (fun q' => hc (by simp [q'])) (ext_of k1 _ _ (fun q' => hc (by simp [q'])) q)))
          hf (Nat.le_of_eq sz) ⟨by show 2 ≤ sizeLine; decide, [.int (k + i) tk, v], .cons ⟨_, rfl⟩ (.cons ru .nil), ⟨_, T1, rfl, _, rfl⟩⟩
      refine ⟨.ref g1.objs.size, _, I2, rfl, ⟨g1.objs.size, x, rfl, I.hok.fresh (Nat.le_of_eq sz), rfl, fun l hl => by rw [I.tuple_inj hl hqx]; exact hx⟩, ⟨⟨v, ?_⟩, ?_⟩, fun b hb => ?_⟩
      · have q : (k + ((i + 1 : Nat) : Int)) = k + i + 1 := by omega
        rw [q]
        exact e3
      · exact st1.at fun o q => ext_of k3 _ _ ne.symm (k2 _ _ ne.symm q)
      · have q : b < g1.objs.size := by
          have q : b = e ∨ b = it := by simpa using hb
          rcases q with q | q <;> subst q
          · exact lt1
          · exact let ⟨_, q, _⟩ := st1; Heap.lt_size q
        rw [upd_ne (Nat.ne_of_lt q)]
        exact (hf b hb).1
    · rintro fin s' ⟨v, rfl, q⟩
      exact ⟨v, rfl, wpAny_pure ⟨v, rfl, q⟩⟩
  done := by
    intro X hP hw hK hc i pins s σ H E I hf st hg
    subst hP hw hK
    obtain ⟨⟨old, he⟩, h1⟩ := st
    obtain ⟨xs, hqx, hx⟩ := hg
    obtain ⟨its, rv, p, _⟩ := I.tuple hqx
    have l1 := rv.length
    have typ : s.TypeIs (.ref e) "enumerate" := ⟨_, he, rfl⟩
    unfold pyNext
    refine wpAny_bind (wpAny_attempt (wpAny_callSpecial?_slot (name := Str.ofString "__next__") typ F.slot_enumerate_next (wpAny_call_entry F.slot_enumerate_next typ F.entry_enumerate_next ?_ (F.args_enumerate_next_1 _))))
    refine wpAny_bind (m := field (.ref e) 2) (wpAny_field he rfl (x := .ref it) rfl (wpAny_bind ?_))
    refine wpAny_nextOf_tuple_end (I.ok.hd hc) h1 p (by simp; omega) fun h' x k' hx' => ?_
    obtain ⟨o, ho, hcls⟩ := hx'
    refine wpAny_bind (wpAny_isInstance (T := "StopIteration") (b := true) ⟨o, ho, hcls⟩ isSubtype_stop (wpAny_pure ⟨rfl, ?_⟩))
    exact I.turnedL (t' := s.toks) (ch := [it]) (fun c o hc q => k' c o (fun q' => hc (by simp [q'])) q) (fun b hb => hf b (by
      have q : b = it := by simpa using hb
      simp [q]))
  self := fun A i s Q E st h => let ⟨⟨_, he⟩, _⟩ := st; wpAny_pyIter_enum he h
def iEs (K : Frag) (k : Int) (ta : TA) : TI := fun σ H R => ta σ H fun vs H1 => ∃ a xs, vs = [.ref a] ∧ SqT K H1 a xs ∧ R (Ites K a k) H1
theorem pi_es {X : Cx} {e : Expr} {ta : TA} {p pos tpos cp kp : Pos} {elts : List Expr} {kk j : Nat} {k : Int} (hg : Gl X "enumerate") (hm : X.mg "enumerate" = none) (ha : PA X [e] ta) (h0 : -(2 ^ 63) ≤ k) (h1 : k < 2 ^ 63)
    (hs : starEach [e] X.env = (false, eval e X.env) :: starEach [] X.env := by rfl) (hpl : (backTo pos (starEach [e] X.env)).any (·.1) = false := by rfl) :
    PI X (.Tuple elts kk tpos) (.Call (.Name "enumerate" p) [e] [⟨some "start", .Constant (.int k) j cp, kp⟩] pos) (iEs X.K k ta) := by
  refine ⟨fun pins s σ H R I h => ?_⟩
  apply wpAny_Call_Name_kw
  refine ld_blt I hg hm boot_enumerate (callType_kw (thn (ha.run pos pins s σ H _ I h) ?_) hs hpl rfl rfl)
  rintro us s1 ⟨vs, H1, I1, r1, a, xs, rfl, hqx, q⟩
  cases r1 with
  | cons ra rn =>
    cases rn
    cases ra
    obtain ⟨its, rv, pa, _⟩ := I1.tuple hqx
    refine start_kw (enum_begins_start (begins_tuple a its.toArray) pa h0 h1 fun h' he hit hsz hk => wpAny_pyIter_enum he ?_)
    refine ⟨s1.heap.objs.size + 1, [s1.heap.objs.size + 1, s1.heap.objs.size], _, _, H1, rfl, I1.kept (t' := s1.toks + 1) hk, turn_es (Nat.succ_ne_self _), ⟨⟨.none, ?_⟩, ⟨_, hit, rfl, rfl⟩⟩, fun c hc => ?_, q⟩
    · have q : k + ((0 : Nat) : Int) = k := by omega
      rw [q]
      exact he
    · have q : c = s1.heap.objs.size + 1 ∨ c = s1.heap.objs.size := by simpa using hc
      have hle : s1.heap.objs.size ≤ c := by
        simp only [Addr] at *
        omega
      exact I1.fpOk hle (I1.hok.fresh hle)
end EL

/- part E7 -/
/-! enumerate(t) over a tuple; loops over enumerate -/
namespace EL
open PySem PySem.Spec PyProof.Rows L2
open PySem.W (Frag)
theorem tcall_enum_1 (a : Value) : checkTypeCall "enumerate" ⟨[a], []⟩ = pure () := by kernel_rfl
set_option maxHeartbeats 2000000 in
theorem meets_enum_1 {v : Value} {rv : Heap → Value} {f : Heap → Heap} {W : Heap → Prop}
    (IT : ∀ (prog : Program) (w : World) (A : Around) (E : Value → Shared → Prop) (s : Shared) (Q : Value → Shared → Prop), W s.heap → Q (rv s.heap) { s with heap := f s.heap } → wpAny (model prog w) A (pyIter v) Q E s) :
    Meets (Builtin.«enumerate.__new__» ⟨[.type "enumerate", v], []⟩) (fun _ R s => W s.heap ∧ R (.ok (.ret (.ref (f s.heap).objs.size))) { s with heap := (f s.heap).push (enumObj (rv s.heap) 0) }) :=
  .of_wp fun prog w A R s h => by
    obtain ⟨hp, g, d, tk, os⟩ := s
    obtain ⟨h1, h⟩ := h
    have sub := sub_enumerate
    have go : ∀ {A' : Around} {E : Value → Shared → Prop} {Q : Value → Shared → Prop}, Q (rv hp) ⟨f hp, g, d, tk, os⟩ → wpAny (model prog w) A' (pyIter v) Q E ⟨hp, g, d, tk, os⟩ := fun q => IT prog w _ _ ⟨hp, g, d, tk, os⟩ _ h1 q
    wp_walk using go
    refine wpAny_stack_any fun st => wpAny_pure ?_
    split
    · rename_i c _ _ _ _ _
      cases (c == Value.type "enumerate")
      · wp_walk using go
        exact ⟨_, rfl, h⟩
      · wp_walk using go
        exact ⟨_, rfl, h⟩
    · wp_walk using go
      exact ⟨_, rfl, h⟩
theorem enum_begins_1 {prog : Program} {w : World} {A : Around} {E : Value → Shared → Prop} {s : Shared} {v : Value} {o : Obj} {H : Heap → Prop} {Q : Value → Shared → Prop} (B : Begins v o H) (h : H s.heap)
    (q : ∀ h' : Heap, IsEnum h' (s.heap.objs.size + 1) s.heap.objs.size 0 .none → h'.get? s.heap.objs.size = some o → h'.objs.size = s.heap.objs.size + 2 → (∀ (b : Addr) (o : Obj), s.heap.get? b = some o → h'.get? b = some o) → Q (.ref (s.heap.objs.size + 1)) { s with heap := h' }) :
    wpAny (model prog w) A (call (.type "enumerate") [v]) Q E s := by
  refine callType_new F.called_enumerate (by decide) (F.typeCall_enumerate_1 _) (F.newCall_enumerate_1 _) (fun obj => F.args_object_init_2 obj _) F.entry_enumerate_new
    (meets_enum_1 (W := H) (rv := fun h => .ref h.objs.size) (f := fun h => h.push o) fun prog w A E s Q hw hq => B.iter prog w A E s Q hw hq) ⟨h, ?_⟩
  have z : (s.heap.push o).objs.size = s.heap.objs.size + 1 := Heap.size_push ..
  have e1 : IsEnum ((s.heap.push o).push (enumObj (.ref s.heap.objs.size) 0)) (s.heap.objs.size + 1) s.heap.objs.size 0 .none := by
    have y := Heap.get?_push_size (s.heap.push o) (o := enumObj (.ref s.heap.objs.size) 0) rfl
    rw [z] at y
    exact y
  refine ⟨⟨_, Heap.get?_push_size _ rfl, rfl⟩, ?_⟩
  show Q (.ref (s.heap.push o).objs.size) _
  rw [z]
  refine q _ e1 (Heap.get?_push_of_some _ (Heap.get?_push_size _ B.free)) ((Heap.size_push ..).trans (by rw [z])) fun b o' hb => Heap.get?_push_of_some _ (Heap.get?_push_of_some _ hb)
theorem evalAll_nil {M : Model} {A : Around} {E : Value → Shared → Prop} {s : Shared} {Q : List Value → Shared → Prop} (h : Q [] s) : wpAny M A (evalAll []) Q E s := wpAny_pure h
def iE1 (K : Frag) (ta : TA) : TI := fun σ H R => ta σ H fun vs H1 => ∃ a xs, vs = [.ref a] ∧ SqT K H1 a xs ∧ R (Ites K a 0) H1
theorem pi_e1 {X : Cx} {e : Expr} {ta : TA} {p pos tpos : Pos} {elts : List Expr} {kk : Nat} (hg : Gl X "enumerate") (hm : X.mg "enumerate" = none) (ha : PA X [e] ta)
    (hs : starEach [e] X.env = (false, eval e X.env) :: starEach [] X.env := by rfl) (hpl : (backTo pos (starEach [e] X.env)).any (·.1) = false := by rfl) :
    PI X (.Tuple elts kk tpos) (.Call (.Name "enumerate" p) [e] [] pos) (iE1 X.K ta) := by
  refine ⟨fun pins s σ H R I h => ?_⟩
  apply wpAny_Call_Name_kw
  refine ld_blt I hg hm boot_enumerate (callType_kw (thn (ha.run pos pins s σ H _ I h) ?_) hs hpl rfl rfl)
  rintro us s1 ⟨vs, H1, I1, r1, a, xs, rfl, hqx, q⟩
  cases r1 with
  | cons ra rn =>
    cases rn
    cases ra
    obtain ⟨its, rv, pa, _⟩ := I1.tuple hqx
    refine evalAll_nil (enum_begins_1 (begins_tuple a its.toArray) pa fun h' he hit hsz hk => wpAny_pyIter_enum he ?_)
    refine ⟨s1.heap.objs.size + 1, [s1.heap.objs.size + 1, s1.heap.objs.size], _, _, H1, rfl, I1.kept (t' := s1.toks) hk, turn_es (Nat.succ_ne_self _), ⟨⟨.none, ?_⟩, ⟨_, hit, rfl, rfl⟩⟩, fun c hc => ?_, q⟩
    · exact he
    · have q : c = s1.heap.objs.size + 1 ∨ c = s1.heap.objs.size := by simpa using hc
      have hle : s1.heap.objs.size ≤ c := by
        simp only [Addr] at *
        omega
      exact I1.fpOk hle (I1.hok.fresh hle)
/-! ### loops over them -/
/-- a turn of enumerate(t, start=k) -/
def YEs (k : Int) (xs : List V) : Nat → Hp → V → Hp → Prop := fun i H v H' => ∃ T x, v = V.ref T ∧ H T = none ∧ H' = upd H T (.tup [.int (k + i), x]) ∧ xs[i]? = some x
theorem walk_es {K : Frag} {a : Addr} {k : Int} {xs : List V} : Walk (Ites K a k) xs.length (fun H => SqT K H a xs) (YEs k xs) :=
  ⟨fun i H hi h => ⟨xs, xs[i], h, List.getElem?_eq_getElem hi⟩, fun H h => ⟨xs, h, Nat.le_refl _⟩, fun i H x H' hi h ⟨T, y, e, hT, hH, hy⟩ => ⟨T, y, e, hT, hH, hy xs h⟩⟩
/-- a turn of enumerate(zip(t, u), start=k) -/
def YEz (k : Int) (xs ys : List V) : Nat → Hp → V → Hp → Prop := fun i H v H' => ∃ T0 T1 x y, v = V.ref T1 ∧ H T0 = none ∧ H T1 = none ∧ T0 ≠ T1 ∧ H' = upd (upd H T0 (.tup [x, y])) T1 (.tup [.int (k + i), .ref T0]) ∧ xs[i]? = some x ∧ ys[i]? = some y
theorem walk_ez {K : Frag} {a b : Addr} {k : Int} {xs ys : List V} (hl : xs.length = ys.length) : Walk (Itez K a b k) xs.length (fun H => SqT K H a xs ∧ SqT K H b ys) (YEz k xs ys) :=
  ⟨fun i H hi h => ⟨xs, ys, xs[i], ys[i], h.1, h.2, List.getElem?_eq_getElem hi, List.getElem?_eq_getElem (hl ▸ hi)⟩, fun H h => ⟨xs, ys, h.1, h.2, Nat.le_refl _⟩,
   fun i H x H' hi h ⟨T0, T1, y, z, e, h0, h1, ne, hH, hy, hz⟩ => ⟨T0, T1, y, z, e, h0, h1, ne, hH, hy xs h.1, hz ys h.2⟩⟩
end EL

/- part U -/
/-! Operators by the values that they meet; how a reading goes on -/
namespace EL
open PySem PySem.Spec PyProof.Rows L2
open PySem.W (Frag)
section
variable {X : Cx}
/-! ### rules that take what comes -/
theorem PI.alt {tg e : Expr} {w1 w2 : TI} (h1 : PI X tg e w1) (h2 : PI X tg e w2) : PI X tg e (fun σ H R => w1 σ H R ∨ w2 σ H R) :=
  ⟨fun pins s σ H R I h => h.elim (h1.run pins s σ H R I) (h2.run pins s σ H R I)⟩
theorem get_list : PGet X (rIxL X.K) := by
  rintro pins s σ H o i ov iv Q I ro ri ⟨p, xs, k, v, rfl, rfl, hq, hv, q⟩
  cases ro
  obtain ⟨t, rfl⟩ := ri
  obtain ⟨its, r, pl, hz⟩ := I.list hq
  obtain ⟨j, h1, h2, h3, h4, h5⟩ := atI_get hv
  obtain ⟨u, hu, ru⟩ := r.get h2
  have hl := r.length
  have hn := line63
  by_cases h0 : 0 ≤ k
  · have hj : k.toNat = j := by
      rw [seqIndex_of h0 h5] at h1
      exact Option.some.inj h1
    exact wpAny_getItem_list pl.isList h0 (by omega) (by rw [hj]; simpa using hu) ⟨v, H, I, ru, q⟩
  · have hj : (k + (its.toArray.size : Int)).toNat = j := by
      rw [seqIndex_neg (by omega) h4] at h1
      rw [List.size_toArray, ← hl]
      exact Option.some.inj h1
    exact wpAny_getItem_list_neg pl.isList (by omega) (by rw [List.size_toArray] <;> omega) (by omega) (by rw [hj]; simpa using hu) ⟨v, H, I, ru, q⟩
abbrev rAddI : R2 := rI0 fun i j => .int (i + j)
def rAdd (K : Frag) : R2 := fun x y H Q => rAddI x y H Q ∨ rCat x y H Q ∨ rCatA K x y H Q
theorem u_add : OpR X (binaryOp .Add) (rAdd X.K) := op_add.or (op_cat.or op_catA)
def rMul : R2 := fun x y H Q => rI CMul (fun i j => .int (i * j)) x y H Q ∨ rRep x y H Q
theorem u_mul : OpR X (binaryOp .Mult) rMul := op_mul.or op_rep
def rEqU (K : Frag) : R2 := fun x y H Q => rEq x y H Q ∨ rEqD K x y H Q
def rNeU (K : Frag) : R2 := fun x y H Q => rNe x y H Q ∨ rNeD K x y H Q
theorem u_eq (hu : X.A.units + 64 < cLine) : OpR X (compareOp .Eq) (rEqU X.K) := op_eq.or (op_eqD hu)
theorem u_ne (hu : X.A.units + 64 < cLine) : OpR X (compareOp .NotEq) (rNeU X.K) := op_ne.or (op_neD hu)
abbrev rIsNone : R2 := fun x y H Q => y = .non ∧ Q (.bl (decide (x = .non))) H
abbrev rNotNone : R2 := fun x y H Q => y = .non ∧ Q (.bl (!decide (x = .non))) H
/-- x is True, for any x that is no bool, too -/
abbrev rIsTrue : R2 := rIsB
theorem op_notBI {X : Cx} : OpR X (compareOp .IsNot) (fun x y H Q => ∃ i b, x = .int i ∧ y = .bl b ∧ Q (.bl true) H) := by
  rintro pins s σ H x y v u Q I rx ry ⟨i, b, rfl, rfl, q⟩
  obtain ⟨t, rfl⟩ := rx
  cases ry
  have e : (Value.int i t == Value.bool b) = false := by rfl
  exact wpAny_pure ⟨.bl true, H, I, by rw [e]; rfl, q⟩
theorem op_isBI {X : Cx} : OpR X (compareOp .Is) (fun x y H Q => ∃ i b, x = .int i ∧ y = .bl b ∧ Q (.bl false) H) := by
  rintro pins s σ H x y v u Q I rx ry ⟨i, b, rfl, rfl, q⟩
  obtain ⟨t, rfl⟩ := rx
  cases ry
  have e : (Value.int i t == Value.bool b) = false := by rfl
  exact wpAny_pure ⟨.bl false, H, I, by rw [e]; rfl, q⟩
def rIsU : R2 := fun x y H Q => rIsNone x y H Q ∨ rIsB x y H Q ∨ ∃ i b, x = .int i ∧ y = .bl b ∧ Q (.bl false) H
def rNotU : R2 := fun x y H Q => rNotNone x y H Q ∨ rNotB x y H Q ∨ ∃ i b, x = .int i ∧ y = .bl b ∧ Q (.bl true) H
theorem u_is : OpR X (compareOp .Is) rIsU := op_isN.or (op_isBl.or op_isBI)
theorem u_isnot : OpR X (compareOp .IsNot) rNotU := op_notN.or (op_notBl.or op_notBI)
theorem u_in : OpR X (compareOp .In) (rIn X.K false) := op_in_seq
theorem u_notin : OpR X (compareOp .NotIn) (rIn X.K true) := op_notIn_seq
abbrev rLen (K : Frag) : List V → Hp → VK → Prop := fun xs H Q => ∃ p ys, xs = [.ref p] ∧ (SqL K H p ys ∨ SqT K H p ys) ∧ Q (.int ys.length) H
theorem u_len : CallR X (.builtin "len") (rLen X.K) := call_len_seq
def rIsiU (K : Frag) : List V → Hp → VK → Prop := fun xs H Q => rIsi K xs H Q ∨ rIsiT K xs H Q
theorem u_isi : CallR X (.builtin "isinstance") (rIsiU X.K) := call_isi.or call_isiT
abbrev rInt : List V → Hp → VK → Prop := fun xs H Q => (∃ i, xs = [.int i] ∧ Q (.int i) H) ∨ ∃ k, xs = [.bl k] ∧ Q (.int (if k then 1 else 0)) H
theorem u_int : CallR X (.type "int") rInt := call_int1
abbrev rList (K : Frag) : List V → Hp → VK → Prop := fun xs H Q => ∃ p ys, xs = [.ref p] ∧ (SqL K H p ys ∨ SqT K H p ys) ∧ ∀ l, H l = none → Q (.ref l) (upd H l (.lst ys))
theorem u_list : CallR X (.type "list") (rList X.K) := call_list_of
abbrev rTuple (K : Frag) : List V → Hp → VK → Prop := fun xs H Q => ∃ p ys, xs = [.ref p] ∧ ((SqL K H p ys ∧ ∀ l, H l = none → Q (.ref l) (upd H l (.tup ys))) ∨ (SqT K H p ys ∧ Q (.ref p) H))
theorem u_tuple : CallR X (.type "tuple") (rTuple X.K) := call_tuple_of
def rSlice (K : Frag) : V → Option Int → Option Int → Hp → VK → Prop := fun x lo hi H Q => rSlL K x lo hi H Q ∨ rSlA K x lo hi H Q
theorem u_slice : SlR X (rSlice X.K) := sl_list.or sl_tupA
def iSeq (K : Frag) (tl : TE) : TI := fun σ H R => iList K tl σ H R ∨ iTup K tl σ H R
theorem u_iter {tg l : Expr} {tl : TE} (hl : PE X l tl) : PI X tg l (iSeq X.K tl) := PI.alt (pi_list hl) (pi_tup hl)
theorem u_min (hc : X.calm = true) : CallR X (.builtin "min") (fun xs H Q => (∃ i j, xs = [.int i, .int j] ∧ Q (.int (if j < i then j else i)) H) ∨ rMin X.K xs H Q) := (call_min2 hc).or (cr_min hc)
theorem u_max (hc : X.calm = true) : CallR X (.builtin "max") (fun xs H Q => (∃ i j, xs = [.int i, .int j] ∧ Q (.int (if j > i then j else i)) H) ∨ rMax X.K xs H Q) := (call_max2 hc).or (cr_max hc)
end
/-! ### what stays: all but the bag at b -/
/-- everything else stays -/
def Kp (b : Addr) (H H' : Hp) : Prop := ∀ a o, a ≠ b → H a = some o → H' a = some o
theorem Kp.refl (b : Addr) (H : Hp) : Kp b H H := fun _ _ _ h => h
theorem Kp.trans {b : Addr} {H H1 H2 : Hp} (p : Kp b H H1) (q : Kp b H1 H2) : Kp b H H2 := fun a o n h => q a o n (p a o n h)
theorem Kp.new {b p : Addr} {H H1 : Hp} {o : HO} (k : Kp b H H1) (h : H1 p = none) : Kp b H (upd H1 p o) := fun a u n e => by
  have q := k a u n e
  rw [upd_ne (ne_of_none q h)]
  exact q
/-- an object that is new since H may change -/
theorem Kp.mut {b p : Addr} {H H1 : Hp} {o : HO} (k : Kp b H H1) (h : H p = none) : Kp b H (upd H1 p o) := fun a u n e => by
  rw [upd_ne (ne_of_none e h)]
  exact k a u n e
theorem Kp.bag {b : Addr} {H H1 : Hp} {o : HO} (k : Kp b H H1) : Kp b H (upd H1 b o) := fun a u n e => by
  rw [upd_ne n]
  exact k a u n e
theorem Kp.free {b p : Addr} {H H1 : Hp} (k : Kp b H H1) (h : H1 p = none) (n : p ≠ b) : H p = none := by
  cases q : H p with
  | none => rfl
  | some o =>
    rw [k p o n q] at h
    cases h
theorem same_kp {b : Addr} {H H' : Hp} (s : Same H H') : Kp b H H' := fun a o _ h => s a o h
/-! ### the way on, construct by construct -/
section
variable {σ : L2.St} {H : Hp} {Q : VK} {K : Frag}
theorem n_add {i j : Int} (q : Q (.int (i + j)) H) : rAdd K (.int i) (.int j) H Q := .inl ⟨i, j, rfl, rfl, q⟩
theorem n_cat {l m : Addr} {xs ys : List V} (h1 : H l = some (.lst xs)) (h2 : H m = some (.lst ys)) (z : xs.length + ys.length ≤ sizeLine) (q : ∀ p, H p = none → Q (.ref p) (upd H p (.lst (xs ++ ys)))) : rAdd K (.ref l) (.ref m) H Q :=
  .inr (.inl ⟨l, m, xs, ys, rfl, rfl, h1, h2, z, q⟩)
theorem n_mul {i j : Int} (c : CMul i j) (q : Q (.int (i * j)) H) : rMul (.int i) (.int j) H Q := .inl ⟨i, j, rfl, rfl, c, q⟩
theorem n_eq {x y : V} (s : scal x y = true) (q : Q (.bl (decide (x = y))) H) : rEqU K x y H Q := .inl ⟨s, q⟩
theorem n_ne {x y : V} (s : scal x y = true) (q : Q (.bl (!decide (x = y))) H) : rNeU K x y H Q := .inl ⟨s, q⟩
theorem n_eqD {x y : V} {d e : PyData} (hd : Dp K H x d) (he : Dp K H y e) (sd : SeqAt.shaped d = true) (se : SeqAt.shaped e = true) (q : Q (.bl (PyData.eqv d e)) H) : rEqU K x y H Q := .inr ⟨d, e, hd, he, sd, se, q⟩
theorem n_neD {x y : V} {d e : PyData} (hd : Dp K H x d) (he : Dp K H y e) (sd : SeqAt.shaped d = true) (se : SeqAt.shaped e = true) (q : Q (.bl (!PyData.eqv d e)) H) : rNeU K x y H Q := .inr ⟨d, e, hd, he, sd, se, q⟩
theorem n_isi {x : V} {n m : String} {b : Bool} (ty : TyX K H x (.type n)) (h : kitB n m = some b) (q : Q (.bl b) H) : rIsiU K [x, .ty m] H Q := .inl ⟨x, .ty m, _, _, b, rfl, .ty m, ty, kit_ty h, q⟩
theorem n_isiX {x : V} {t : Value} {m : String} {b : Bool} (ty : TyX K H x t) (h : PySem.W.kitOne K t (.type m) = some b) (q : Q (.bl b) H) : rIsiU K [x, .ty m] H Q := .inl ⟨x, .ty m, _, _, b, rfl, .ty m, ty, h, q⟩
theorem n_len {p : Addr} {ys : List V} (h : SqL K H p ys ∨ SqT K H p ys) (q : Q (.int ys.length) H) : rLen K [.ref p] H Q := ⟨p, ys, rfl, h, q⟩
theorem n_int {i : Int} (q : Q (.int i) H) : rInt [.int i] H Q := .inl ⟨i, rfl, q⟩
theorem n_ib {k : Bool} (q : Q (.int (if k then 1 else 0)) H) : rInt [.bl k] H Q := .inr ⟨k, rfl, q⟩
theorem n_ixL {p : Addr} {xs : List V} {i : Int} {v : V} (h : SqL K H p xs) (hi : atI xs i = some v) (q : Q v H) : rIx K (.ref p) (.int i) H Q := .inl ⟨p, xs, i, v, rfl, rfl, h, hi, q⟩
theorem n_ixT {p : Addr} {xs : List V} {i : Int} {v : V} (h : SqT K H p xs) (hi : atI xs i = some v) (q : Q v H) : rIx K (.ref p) (.int i) H Q := .inr (.inl ⟨p, xs, i, v, rfl, rfl, h, hi, q⟩)
theorem n_inT {x : V} {p : Addr} {xs : List V} (h : H p = some (.tup xs)) (f1 : flatV x = true) (f2 : xs.all flatV = true) (q : Q (.bl (inV x xs)) H) : rIn K false x (.ref p) H Q := ⟨p, xs, rfl, .inr (SqT.of h), f1, f2, q⟩
theorem n_inL {x : V} {p : Addr} {xs : List V} (h : H p = some (.lst xs)) (f1 : flatV x = true) (f2 : xs.all flatV = true) (q : Q (.bl (inV x xs)) H) : rIn K false x (.ref p) H Q := ⟨p, xs, rfl, .inl (SqL.of h), f1, f2, q⟩
theorem n_isN {x : V} (q : Q (.bl (decide (x = .non))) H) : rIsU x .non H Q := .inl ⟨rfl, q⟩
theorem n_notN {x : V} (q : Q (.bl (!decide (x = .non))) H) : rNotU x .non H Q := .inl ⟨rfl, q⟩
theorem n_isB {a b : Bool} (q : Q (.bl (decide (a = b))) H) : rIsU (.bl a) (.bl b) H Q := .inr (.inl ⟨a, b, rfl, rfl, q⟩)
theorem n_isBI {i : Int} {b : Bool} (q : Q (.bl false) H) : rIsU (.int i) (.bl b) H Q := .inr (.inr ⟨i, b, rfl, rfl, q⟩)
theorem n_notB {a b : Bool} (q : Q (.bl (!decide (a = b))) H) : rNotU (.bl a) (.bl b) H Q := .inr (.inl ⟨a, b, rfl, rfl, q⟩)
theorem n_notBI {i : Int} {b : Bool} (q : Q (.bl true) H) : rNotU (.int i) (.bl b) H Q := .inr (.inr ⟨i, b, rfl, rfl, q⟩)
end
end EL

/- part V -/
/-! the administrative steps of a reading -/
namespace EL
open PySem PySem.Spec PyProof.Rows L2
open PySem.W (Frag)
section
variable {σ : L2.St} {H : Hp} {Q : VK} {K : Frag} {i : Nat} {v : V} {D : Ends} {ta tb te tc : TE} {t u t1 t2 : TS} {c c2 : TT} {tl tr : TA} {g : TG}
theorem a_var (h : σ[i]? = some (some v)) (q : Q v H) : tVar i σ H Q := ⟨v, h, q⟩
theorem a_c (q : Q v H) : tC v σ H Q := q
theorem a_op {r : R2} (q : ta σ H fun x H1 => tb σ H1 fun y H2 => r x y H2 Q) : tOp r ta tb σ H Q := q
theorem a_un {r : V → Hp → VK → Prop} (q : ta σ H fun x H1 => r x H1 Q) : tUn r ta σ H Q := q
theorem a_U {j : Int} {f : Int → V} (q : Q (f j) H) : rU f (.int j) H Q := ⟨j, rfl, q⟩
theorem a_nil {R : List V → Hp → Prop} (q : R [] H) : tNil σ H R := q
theorem a_cons {R : List V → Hp → Prop} (q : te σ H fun x H1 => tl σ H1 fun xs H2 => R (x :: xs) H2) : tCons te tl σ H R := q
theorem a_cb {r : List V → Hp → VK → Prop} (q : tl σ H fun vs H1 => r vs H1 Q) : tCB r tl σ H Q := q
theorem a_call {sp : Sp} {E : XK} (q : tl σ H fun vs H1 => sp vs H1 Q E) : tCall sp [] E tl σ H Q := by
  show tl σ H fun vs H1 => sp (vs ++ []) H1 Q E
  simpa only [List.append_nil] using q
theorem a_I0 {f : Int → Int → V} {a b : Int} (q : Q (f a b) H) : rI0 f (.int a) (.int b) H Q := ⟨a, b, rfl, rfl, q⟩
theorem a_I {C : Int → Int → Prop} {f : Int → Int → V} {a b : Int} (hc : C a b) (q : Q (f a b) H) : rI C f (.int a) (.int b) H Q := ⟨a, b, rfl, rfl, hc, q⟩
theorem a_seq (q : t { D with nx := u D } σ H) : tSeq t u D σ H := q
theorem a_asg (q : te σ H fun x H1 => g x σ H1 D.nx) : tAsg te g D σ H := q
theorem a_sasg (q : te σ H fun x H1 => g x σ H1 (u D)) : tSeq (tAsg te g) u D σ H := q
theorem a_gn {R : L2.St → Hp → Prop} (q : R (σ.set i (some v)) H) : gName i v σ H R := q
theorem a_drop (q : te σ H fun _ H1 => D.nx σ H1) : tDrop te D σ H := q
theorem a_sdrop (q : te σ H fun _ H1 => u D σ H1) : tSeq (tDrop te) u D σ H := q
theorem a_ret (q : te σ H D.rt) : tRet te D σ H := q
theorem a_if (q : c σ H fun b H1 => if b = true then t1 D σ H1 else t2 D σ H1) : tIfS c t1 t2 D σ H := q
theorem a_next (q : D.nx σ H) : tNext D σ H := q
theorem a_nx {f k1 k2 : L2.St → Hp → Prop} {r : VK} (q : f σ H) : (Ends.mk f r k1 k2).nx σ H := q
theorem a_rt {f k1 k2 : L2.St → Hp → Prop} {r : VK} (q : r v H) : (Ends.mk f r k1 k2).rt v H := q
theorem a_test {R : Bool → Hp → Prop} (q : te σ H fun x H' => ∃ k, x = .bl k ∧ R k H') : tTest te σ H R := q
theorem a_B {R : Bool → Hp → Prop} (q : te σ H fun x H' => ∃ k, x = .bl k ∧ R k H') : tB te σ H R := q
theorem a_bl {R : Bool → Prop} {b : Bool} (q : R b) : ∃ k, V.bl b = V.bl k ∧ R k := ⟨b, rfl, q⟩
theorem a_and {R : Bool → Hp → Prop} (q : c σ H fun b H1 => if b = true then c2 σ H1 R else R false H1) : tAnd c c2 σ H R := q
theorem a_or {R : Bool → Hp → Prop} (q : c σ H fun b H1 => if b = true then R true H1 else c2 σ H1 R) : tOr c c2 σ H R := q
theorem a_not {R : Bool → Hp → Prop} (q : c σ H fun b H1 => R (!b) H1) : tNot c σ H R := q
theorem a_andV (q : ta σ H fun x H1 => ∃ b, x = .bl b ∧ if b = true then tb σ H1 Q else Q (.bl false) H1) : tAndV ta tb σ H Q := q
theorem a_orV (q : ta σ H fun x H1 => ∃ b, x = .bl b ∧ if b = true then Q (.bl true) H1 else tb σ H1 Q) : tOrV ta tb σ H Q := q
theorem a_notV (q : ta σ H fun x H1 => ∃ b, x = .bl b ∧ Q (.bl (!b)) H1) : tNotV ta σ H Q := q
theorem a_ifx (q : c σ H fun b H1 => if b = true then ta σ H1 Q else tb σ H1 Q) : tIf c ta tb σ H Q := q
theorem a_chain {r r' : R2} (q : ta σ H fun x H1 => tb σ H1 fun y H2 => r x y H2 fun z H3 => ∃ k, z = .bl k ∧ (if k = true then tc σ H3 fun w' H4 => r' y w' H4 Q else Q (.bl false) H3)) : tChain r r' ta tb tc σ H Q := q
theorem a_T {A B : Prop} (q : A) : if true = true then A else B := by rw [if_pos rfl]; exact q
theorem a_F {A B : Prop} (q : B) : if false = true then A else B := by rw [if_neg Bool.false_ne_true]; exact q
theorem a_nT {A B : Prop} (q : B) : if (!true) = true then A else B := q
theorem a_nF {A B : Prop} (q : A) : if (!false) = true then A else B := q
theorem a_fld {tv : TE} {f : Str} (q : tv σ H fun y H1 => ta σ H1 fun x H2 => ∃ a C dx fs, x = .ref a ∧ H2 a = some (.ins C dx fs) ∧ Cls K C ∧ NoAttr K C f ∧ fs.length < 1000 ∧ D.nx σ (upd H2 a (.ins C dx (putF f y fs)))) : sFld K ta tv f D σ H := q
theorem a_getF {f : Str} (q : ta σ H fun x H1 => ∃ a C dx fs v, x = .ref a ∧ H1 a = some (.ins C dx fs) ∧ Cls K C ∧ NoAttr K C f ∧ List.lookup f fs = some v ∧ Q v H1) : tFld K ta f σ H Q := q
theorem a_tup {es : TA} (q : es σ H fun xs H1 => xs.length ≤ sizeLine ∧ ∀ p, H1 p = none → Q (.ref p) (upd H1 p (.tup xs))) : tTup es σ H Q := q
theorem a_lst {es : TA} (q : es σ H fun xs H1 => xs.length ≤ sizeLine ∧ ∀ p, H1 p = none → Q (.ref p) (upd H1 p (.lst xs))) : tLst es σ H Q := q
theorem a_ntup {xs : List V} (z : xs.length ≤ sizeLine) (q : ∀ p, H p = none → Q (.ref p) (upd H p (.tup xs))) : xs.length ≤ sizeLine ∧ ∀ p, H p = none → Q (.ref p) (upd H p (.tup xs)) := ⟨z, q⟩
theorem a_nlst {xs : List V} (z : xs.length ≤ sizeLine) (q : ∀ p, H p = none → Q (.ref p) (upd H p (.lst xs))) : xs.length ≤ sizeLine ∧ ∀ p, H p = none → Q (.ref p) (upd H p (.lst xs)) := ⟨z, q⟩
theorem a_sub {to ti : TE} {ts : TSet} {R : L2.St → Hp → Prop} (q : to σ H fun o H1 => ti σ H1 fun j H2 => ts o j v H2 fun H3 => R σ H3) : gSub to ti ts v σ H R := q
theorem a_set {p : Addr} {xs : List V} {k : Int} {j : Nat} {R : Hp → Prop} (h : H p = some (.lst xs)) (hj : ixN xs.length k = some j) (q : R (upd H p (.lst (xs.set j v)))) : rSetL (.ref p) (.int k) v H R := ⟨p, xs, k, j, rfl, rfl, h, hj, q⟩
theorem a_augS {to ti te : TE} {tget : V → V → Hp → VK → Prop} {tip : TIp} {ts : TSet} (q : to σ H fun o H1 => ti σ H1 fun j H2 => tget o j H2 fun x H3 => te σ H3 fun y H4 => tip x y H4 fun z H5 => ts o j z H5 fun H6 => D.nx σ H6) :
    tAugS to ti te tget tip ts D σ H := q
theorem a_saugS {to ti te : TE} {tget : V → V → Hp → VK → Prop} {tip : TIp} {ts : TSet} (q : to σ H fun o H1 => ti σ H1 fun j H2 => tget o j H2 fun x H3 => te σ H3 fun y H4 => tip x y H4 fun z H5 => ts o j z H5 fun H6 => u D σ H6) :
    tSeq (tAugS to ti te tget tip ts) u D σ H := q
theorem a_getL {p : Addr} {xs : List V} {k : Int} (h : SqL K H p xs) (hk : atI xs k = some v) (q : Q v H) : rIxL K (.ref p) (.int k) H Q := ⟨p, xs, k, v, rfl, rfl, h, hk, q⟩
theorem a_ip {f : Int → Int → Int} {a b : Int} (q : Q (.int (f a b)) H) : ipI f (.int a) (.int b) H Q := ⟨a, b, rfl, rfl, q⟩
theorem a_aug {ti : TIp} {x : V} (h : σ[i]? = some (some x)) (q : te σ H fun y H1 => ti x y H1 fun z H2 => D.nx (σ.set i (some z)) H2) : tAug i te ti D σ H := ⟨x, h, q⟩
theorem a_saug {ti : TIp} {x : V} (h : σ[i]? = some (some x)) (q : te σ H fun y H1 => ti x y H1 fun z H2 => u D (σ.set i (some z)) H2) : tSeq (tAug i te ti) u D σ H := ⟨x, h, q⟩
theorem a_par {j : Nat} {a b : V} (q : tl σ H fun vs H1 => ∃ x y, vs = [x, y] ∧ D.nx ((σ.set i (some x)).set j (some y)) H1) : tPar i j tl D σ H := q
theorem a_spar {j : Nat} (q : tl σ H fun vs H1 => ∃ x y, vs = [x, y] ∧ u D ((σ.set i (some x)).set j (some y)) H1) : tSeq (tPar i j tl) u D σ H := q
theorem a_two {R : V → V → Prop} {a b : V} (q : R a b) : ∃ x y, [a, b] = [x, y] ∧ R x y := ⟨a, b, rfl, q⟩
theorem a_cut (M : L2.St → Hp → Prop) (h : t { D with nx := M } σ H) (k : ∀ σ' H', M σ' H' → u D σ' H') : Evl.tCut t u D σ H := ⟨M, h, k⟩
theorem a_abs {j : Int} {R : Int → Prop} (q : R j) : ∃ i, [V.int j] = [V.int i] ∧ R i := ⟨j, rfl, q⟩
theorem a_gtup {n : Nat} {ts : TGs} {a : Addr} {xs : List V} {R : L2.St → Hp → Prop} (h : SqT K H a xs) (z : xs.length = n) (q : ts xs σ H R) : gTup K n ts (.ref a) σ H R := ⟨a, xs, rfl, h, z, q⟩
theorem a_gcons {ts : TGs} {xs : List V} {R : L2.St → Hp → Prop} (q : g v σ H fun σ' H' => ts xs σ' H' R) : gCons g ts (v :: xs) σ H R := ⟨v, xs, rfl, q⟩
theorem a_gnil {R : L2.St → Hp → Prop} (q : R σ H) : gNil [] σ H R := ⟨rfl, q⟩
end
theorem a_pairs {tk tv : TE} {r : List (TE × TE)} {σ : L2.St} {H : Hp} {R : List (V × V) → Hp → Prop} (q : tk σ H fun k H1 => tv σ H1 fun v H2 => tPairs r σ H2 fun ps H3 => R ((k, v) :: ps) H3) : tPairs ((tk, tv) :: r) σ H R := q
theorem a_pairs0 {σ : L2.St} {H : Hp} {R : List (V × V) → Hp → Prop} (q : R [] H) : tPairs [] σ H R := q
theorem a_bm {K : Frag} {T : String} {r : V → List V → Hp → VK → Prop} {to : TE} {t : TA} {σ : L2.St} {H : Hp} {Q : VK} (q : to σ H fun x H1 => tyV K T x H1 ∧ t σ H1 fun xs H2 => r x xs H2 Q) : tBM K T r to t σ H Q := q
end EL

/- part W -/
/-! values by what they are: numbers, texts, tracked lists, tuples, dicts, books -/
namespace EL
open PySem PySem.Spec PyProof.Rows L2
open PySem.W (Frag)
/-- the built-in names that stand for themselves -/
structure Bi (mg : Str → Option Value) : Prop where
  len_ : mg "len" = none
  isinstance_ : mg "isinstance" = none
  int_ : mg "int" = none
  bool_ : mg "bool" = none
  str_ : mg "str" = none
  list_ : mg "list" = none
  tuple_ : mg "tuple" = none
  range_ : mg "range" = none
  enumerate_ : mg "enumerate" = none
  zip_ : mg "zip" = none
  abs_ : mg "abs" = none
  repr_ : mg "repr" = none
  min_ : mg "min" = none
  max_ : mg "max" = none
  sum_ : mg "sum" = none
  all_ : mg "all" = none
/-- a constant of the program -/
theorem pe_gc {X : Cx} {x : Str} {v : V} {pos : Pos} (hg : Gl X x) (h : ∃ u, X.mg x = some u ∧ L2.RelV v u) (hdb : (x == ("__debug__" : Str)) = false := by decide) : PE X (.Name x pos) (tC v) := by
  obtain ⟨u, h1, h2⟩ := h
  exact pe_glob hg h1 h2 hdb
/-- what isinstance asks of an own class -/
structure OwnC (K : Frag) (C : Addr) : Prop where
  cl : Cls K C
  cls : PySem.W.findIn K (.ref C) "__class__" = some (some (.builtin "object.__class__"))
  get : PySem.W.specialIn K (.builtin "object.__class__") "__get__" = some (some (.builtin "getset_descriptor.__get__"))
  tak : PySem.W.takesIn K (.builtin "object.__class__") = some true
  obj : PySem.W.mroIn K C (.type "object") = some true
  kInt : PySem.W.kitOne K (.ref C) (.type "int") = some false
  kBool : PySem.W.kitOne K (.ref C) (.type "bool") = some false
  kStr : PySem.W.kitOne K (.ref C) (.type "str") = some false
  kTup : PySem.W.kitOne K (.ref C) (.type "tuple") = some false
  kLst : PySem.W.kitOne K (.ref C) (.type "list") = some false
/-- a value that is known -/
inductive Th (K : Frag) (H : Hp) : V → Prop
  | non : Th K H .non
  | bl (b : Bool) : Th K H (.bl b)
  | int (i : Int) : Th K H (.int i)
  | str (x : Str) : Th K H (.str x)
  | lst {a : Addr} {xs : List V} (h : H a = some (.lst xs)) : Th K H (.ref a)
  | tup {a : Addr} {xs : List V} (h : H a = some (.tup xs)) : Th K H (.ref a)
  | dct {a : Addr} {kvs : List (Key × V)} (h : H a = some (.dK kvs)) : Th K H (.ref a)
  | ins {a C dx : Addr} {fs : List (Str × V)} (h : H a = some (.ins C dx fs)) (c : OwnC K C) : Th K H (.ref a)
  | dtt {a : Addr} {kvs : List (List Key × V)} (h : H a = some (.dT kvs)) : Th K H (.ref a)
def isI : V → Bool | .int _ => true | .bl _ => true | _ => false
def isB : V → Bool | .bl _ => true | _ => false
def isS : V → Bool | .str _ => true | _ => false
def obT : Option HO → Bool | some (.tup _) => true | _ => false
def obL : Option HO → Bool | some (.lst _) => true | _ => false
def isT (H : Hp) : V → Bool | .ref a => obT (H a) | _ => false
def isL (H : Hp) : V → Bool | .ref a => obL (H a) | _ => false
structure KitOf (K : Frag) (H : Hp) (x : V) (t : Value) : Prop where
  ty : TyX K H x t
  int : PySem.W.kitOne K t (.type "int") = some (isI x)
  bool : PySem.W.kitOne K t (.type "bool") = some (isB x)
  str : PySem.W.kitOne K t (.type "str") = some (isS x)
  tup : PySem.W.kitOne K t (.type "tuple") = some (isT H x)
  lst : PySem.W.kitOne K t (.type "list") = some (isL H x)
theorem Th.kit {K : Frag} {H : Hp} {x : V} (h : Th K H x) : ∃ t, KitOf K H x t := by
  cases h with
  | non => exact ⟨_, .base .non, kit_ty (by show _ = some false; decide +kernel), kit_ty (by show _ = some false; decide +kernel), kit_ty (by show _ = some false; decide +kernel), kit_ty (by show _ = some false; decide +kernel), kit_ty (by show _ = some false; decide +kernel)⟩
  | bl b => exact ⟨_, .base (.bl b), kit_ty (by show _ = some true; decide +kernel), kit_ty (by show _ = some true; decide +kernel), kit_ty (by show _ = some false; decide +kernel), kit_ty (by show _ = some false; decide +kernel), kit_ty (by show _ = some false; decide +kernel)⟩
  | int i => exact ⟨_, .base (.int i), kit_ty (by show _ = some true; decide +kernel), kit_ty (by show _ = some false; decide +kernel), kit_ty (by show _ = some false; decide +kernel), kit_ty (by show _ = some false; decide +kernel), kit_ty (by show _ = some false; decide +kernel)⟩
  | str s => exact ⟨_, .base (.str s), kit_ty (by show _ = some false; decide +kernel), kit_ty (by show _ = some false; decide +kernel), kit_ty (by show _ = some true; decide +kernel), kit_ty (by show _ = some false; decide +kernel), kit_ty (by show _ = some false; decide +kernel)⟩
  | @lst a xs h =>
    have e1 : isT H (.ref a) = false := by show obT (H a) = _; rw [h]; rfl
    have e2 : isL H (.ref a) = true := by show obL (H a) = _; rw [h]; rfl
    refine ⟨_, .base (.lst h), kit_ty (by show _ = some false; decide +kernel), kit_ty (by show _ = some false; decide +kernel), kit_ty (by show _ = some false; decide +kernel), ?_, ?_⟩
    · rw [e1]; exact kit_ty (by show _ = some _; decide +kernel)
    · rw [e2]; exact kit_ty (by show _ = some _; decide +kernel)
  | @tup a xs h =>
    have e1 : isT H (.ref a) = true := by show obT (H a) = _; rw [h]; rfl
    have e2 : isL H (.ref a) = false := by show obL (H a) = _; rw [h]; rfl
    refine ⟨_, .base (.tup h), kit_ty (by show _ = some false; decide +kernel), kit_ty (by show _ = some false; decide +kernel), kit_ty (by show _ = some false; decide +kernel), ?_, ?_⟩
    · rw [e1]; exact kit_ty (by show _ = some _; decide +kernel)
    · rw [e2]; exact kit_ty (by show _ = some _; decide +kernel)
  | @dct a kvs h =>
    have e1 : isT H (.ref a) = false := by show obT (H a) = _; rw [h]; rfl
    have e2 : isL H (.ref a) = false := by show obL (H a) = _; rw [h]; rfl
    refine ⟨_, .base (.dK h), kit_ty (by show _ = some false; decide +kernel), kit_ty (by show _ = some false; decide +kernel), kit_ty (by show _ = some false; decide +kernel), ?_, ?_⟩
    · rw [e1]; exact kit_ty (by show _ = some _; decide +kernel)
    · rw [e2]; exact kit_ty (by show _ = some _; decide +kernel)
  | @dtt a kvs h =>
    have e1 : isT H (.ref a) = false := by show obT (H a) = _; rw [h]; rfl
    have e2 : isL H (.ref a) = false := by show obL (H a) = _; rw [h]; rfl
    refine ⟨_, .base (.dT h), kit_ty (by show _ = some false; decide +kernel), kit_ty (by show _ = some false; decide +kernel), kit_ty (by show _ = some false; decide +kernel), ?_, ?_⟩
    · rw [e1]; exact kit_ty (by show _ = some _; decide +kernel)
    · rw [e2]; exact kit_ty (by show _ = some _; decide +kernel)
  | @ins a C dx fs h c =>
    have e1 : isT H (.ref a) = false := by show obT (H a) = _; rw [h]; rfl
    have e2 : isL H (.ref a) = false := by show obL (H a) = _; rw [h]; rfl
    refine ⟨_, .base (.ins h c.cl c.cls c.get c.tak c.obj), c.kInt, c.kBool, c.kStr, ?_, ?_⟩
    · rw [e1]; exact c.kTup
    · rw [e2]; exact c.kLst
/-- a known value stays known -/
theorem Th.stay {K : Frag} {b : Addr} {l : List V} {H H' : Hp} {x : V} (h : Th K H x) (hb : H b = some (.lst l)) {l' : List V} (hb' : H' b = some (.lst l')) (k : Kp b H H') : Th K H' x := by
  cases h with
  | non => exact .non
  | bl b => exact .bl b
  | int i => exact .int i
  | str s => exact .str s
  | @lst a xs h =>
    by_cases e : a = b
    · subst e; exact .lst hb'
    · exact .lst (k _ _ e h)
  | @tup a xs h => exact .tup (k _ _ (fun z => by subst z; rw [hb] at h; cases h) h)
  | @dct a xs h => exact .dct (k _ _ (fun z => by subst z; rw [hb] at h; cases h) h)
  | @ins a C dx fs h c => exact .ins (k _ _ (fun z => by subst z; rw [hb] at h; cases h) h) c
  | @dtt a kvs h => exact .dtt (k _ _ (fun z => by subst z; rw [hb] at h; cases h) h)
section
variable {K : Frag} {H : Hp} {Q : VK} {x : V} {t : Value}
theorem n_isT {m : String} {b : Bool} (k : TyX K H x t) (h : PySem.W.kitOne K t (.type m) = some b) (q : Q (.bl b) H) : rIsiU K [x, .ty m] H Q := n_isiX k h q
theorem n_isInt (k : KitOf K H x t) (q : Q (.bl (isI x)) H) : rIsiU K [x, .ty "int"] H Q := n_isT k.ty k.int q
theorem n_isBool (k : KitOf K H x t) (q : Q (.bl (isB x)) H) : rIsiU K [x, .ty "bool"] H Q := n_isT k.ty k.bool q
theorem n_isStr (k : KitOf K H x t) (q : Q (.bl (isS x)) H) : rIsiU K [x, .ty "str"] H Q := n_isT k.ty k.str q
theorem n_isTup (k : KitOf K H x t) (q : Q (.bl (isT H x)) H) : rIsiU K [x, .ty "tuple"] H Q := n_isT k.ty k.tup q
theorem n_isLst (k : KitOf K H x t) (q : Q (.bl (isL H x)) H) : rIsiU K [x, .ty "list"] H Q := n_isT k.ty k.lst q
/-- isinstance(x, (list, tuple)), the tuple just laid -/
theorem n_isLT {p : Addr} (k : KitOf K H x t) (hp : H p = some (.tup [.ty "list", .ty "tuple"])) (q : Q (.bl (isL H x || isT H x)) H) : rIsiU K [x, .ref p] H Q := by
  refine .inr ⟨x, p, _, t, [.type "list", .type "tuple"], isL H x || isT H x, rfl, hp, .cons (.ty "list") (.cons (.ty "tuple") .nil), k.ty, ?_, q⟩
  refine kitAny_cons k.lst (fun e => ?_) (fun e => by rw [e]; rfl)
  rw [e]
  refine kitAny_cons k.tup (fun e2 => ?_) (fun e2 => by rw [e2]; rfl)
  rw [e2]
  rfl
end
theorem _root_.L2.Same.nw {H H1 : Hp} {p : Addr} {o : HO} (k : Same H H1) (h : H1 p = none) : Same H (upd H1 p o) := fun a u e => by
  have q := k a u e
  rw [upd_ne (ne_of_none q h)]
  exact q
/-- an object that is new since H may change -/
theorem _root_.L2.Same.mu {H H1 : Hp} {p : Addr} {o : HO} (k : Same H H1) (h : H p = none) : Same H (upd H1 p o) := fun a u e => by
  rw [upd_ne (ne_of_none e h)]
  exact k a u e
theorem Th.same {K : Frag} {H H' : Hp} {x : V} (h : Th K H x) (k : Same H H') : Th K H' x := by
  cases h with
  | non => exact .non
  | bl b => exact .bl b
  | int i => exact .int i
  | str s => exact .str s
  | lst h => exact .lst (k _ _ h)
  | tup h => exact .tup (k _ _ h)
  | dct h => exact .dct (k _ _ h)
  | ins h c => exact .ins (k _ _ h) c
  | dtt h => exact .dtt (k _ _ h)
/-! ### the class of a sequence; isinstance(x, (list, tuple)) of one -/
theorem _root_.L2.SqT.ty {K : Frag} {H : Hp} {a : Addr} {xs : List V} (h : SqT K H a xs) : TyX K H (.ref a) (.type "tuple") := by
  rcases h with (h | ⟨o, h⟩) | ⟨o, its, n, h, c, _⟩
  · exact .base (.tup h)
  · exact .fTuple h
  · exact .kTuple h c
theorem n_isLTl {K : Frag} {H : Hp} {Q : VK} {x : V} {p : Addr} (ty : TyX K H x (.type "list")) (hp : H p = some (.tup [.ty "list", .ty "tuple"])) (q : Q (.bl true) H) : rIsiU K [x, .ref p] H Q :=
  .inr ⟨x, p, _, _, [.type "list", .type "tuple"], true, rfl, hp, .cons (.ty "list") (.cons (.ty "tuple") .nil), ty, kitAny_cons (b := true) (kit_ty (by decide +kernel)) (fun e => nomatch e) (fun _ => rfl), q⟩
theorem n_isLTt {K : Frag} {H : Hp} {Q : VK} {x : V} {p : Addr} (ty : TyX K H x (.type "tuple")) (hp : H p = some (.tup [.ty "list", .ty "tuple"])) (q : Q (.bl true) H) : rIsiU K [x, .ref p] H Q :=
  .inr ⟨x, p, _, _, [.type "list", .type "tuple"], true, rfl, hp, .cons (.ty "list") (.cons (.ty "tuple") .nil), ty,
    kitAny_cons (b := false) (kit_ty (by decide +kernel)) (fun _ => kitAny_cons (b := true) (kit_ty (by decide +kernel)) (fun e => nomatch e) (fun _ => rfl)) (fun e => nomatch e), q⟩
/-- a list or a tuple, tracked or of the program's top -/
def SqA (K : Frag) (H : Hp) (a : Addr) (xs : List V) : Prop := H a = some (.lst xs) ∨ SqT K H a xs
theorem _root_.L2.SqT.same {K : Frag} {H H' : Hp} {a : Addr} {xs : List V} (h : SqT K H a xs) (s : Same H H') : SqT K H' a xs := by
  rcases h with (h | ⟨o, h⟩) | h
  · exact .inl (.inl (s _ _ h))
  · exact .inl (.inr ⟨o, s _ _ h⟩)
  · exact .inr h
theorem SqA.same {K : Frag} {H H' : Hp} {a : Addr} {xs : List V} (h : SqA K H a xs) (s : Same H H') : SqA K H' a xs := by
  rcases h with h | (h | ⟨o, h⟩) | h
  · exact .inl (s _ _ h)
  · exact .inr (.inl (.inl (s _ _ h)))
  · exact .inr (.inl (.inr ⟨o, s _ _ h⟩))
  · exact .inr (.inr h)
theorem SqA.isLT {K : Frag} {H : Hp} {Q : VK} {a p : Addr} {xs : List V} (h : SqA K H a xs) (hp : H p = some (.tup [.ty "list", .ty "tuple"])) (q : Q (.bl true) H) : rIsiU K [.ref a, .ref p] H Q := by
  rcases h with h | h
  · exact n_isLTl (.base (.lst h)) hp q
  · exact n_isLTt h.ty hp q
theorem SqA.len {K : Frag} {H : Hp} {a : Addr} {xs : List V} (h : SqA K H a xs) : SqL K H a xs ∨ SqT K H a xs := h.elim (fun h => .inl (SqL.of h)) .inr
theorem n_tuple {K : Frag} {H : Hp} {Q : VK} {a : Addr} {xs : List V} (h : SqA K H a xs) (q : ∀ r H', Same H H' → SqT K H' r xs → Q (.ref r) H') : rTuple K [.ref a] H Q := by
  rcases h with h | h
  · exact ⟨a, xs, rfl, .inl ⟨SqL.of h, fun l hl => q l _ (L2.Same.nw (Same.refl _) hl) (SqT.of upd_same)⟩⟩
  · exact ⟨a, xs, rfl, .inr ⟨h, q a H (Same.refl _) h⟩⟩
theorem SqT.kp {K : Frag} {H H' : Hp} {a o : Addr} {xs : List V} {C dx : Addr} {fs : List (Str × V)} (h : SqT K H a xs) (ho : H o = some (.ins C dx fs)) (k : Kp o H H') : SqT K H' a xs := by
  rcases h with (h | ⟨o, h⟩) | h
  · exact .inl (.inl (k _ _ (fun z => by subst z; rw [ho] at h; cases h) h))
  · exact .inl (.inr ⟨_, k _ _ (fun z => by subst z; rw [ho] at h; cases h) h⟩)
  · exact .inr h
theorem SqA.kp {K : Frag} {H H' : Hp} {a o : Addr} {xs : List V} {C dx : Addr} {fs : List (Str × V)} (h : SqA K H a xs) (ho : H o = some (.ins C dx fs)) (k : Kp o H H') : SqA K H' a xs := by
  rcases h with h | h
  · exact .inl (k _ _ (fun z => by subst z; rw [ho] at h; cases h) h)
  · exact .inr (SqT.kp h ho k)
theorem n_ixA {K : Frag} {H : Hp} {Q : VK} {p : Addr} {xs : List V} {i : Int} {v : V} (h : SqA K H p xs) (hi : atI xs i = some v) (q : Q v H) : rIx K (.ref p) (.int i) H Q := h.elim (fun h => n_ixL (SqL.of h) hi q) fun h => n_ixT h hi q
/-! ### loops -/
/-- the loop itself, its walk made -/
def Lp (J : It) (g : TG) (tb : TS) (D : Ends) (σ : L2.St) (H : Hp) : Prop := ∃ W : Nat → Nat → L2.St → Hp → Prop, (∃ m, W 0 m σ H) ∧ ∀ (i m : Nat) (σ : L2.St) (H : Hp), W i m σ H →
  (J.stop i H ∧ D.nx σ H) ∨ (J.go i H ∧ ∃ N : L2.St → Hp → Prop, (∀ σ' H', N σ' H' → ∃ m', m' < m ∧ W (i + 1) m' σ' H') ∧ ∀ x H', J.yld i H x H' → g x σ H' fun σ2 H2 => tb { nx := N, rt := D.rt, bk := D.nx, ct := N } σ2 H2)
section
variable {σ : L2.St} {H : Hp} {K : Frag} {D : Ends} {g : TG} {tb u : TS} {wi : TI} {ta : TA} {te : TE} {R : It → Hp → Prop}
theorem a_for (q : wi σ H fun J H1 => Lp J g tb D σ H1) : tFor wi g tb D σ H := q
theorem a_sfor (q : wi σ H fun J H1 => Lp J g tb { D with nx := u D } σ H1) : tSeq (tFor wi g tb) u D σ H := q
theorem a_iE1 (q : ta σ H fun vs H1 => ∃ a xs, vs = [.ref a] ∧ SqT K H1 a xs ∧ R (Ites K a 0) H1) : iE1 K ta σ H R := q
theorem a_iEs {k : Int} (q : ta σ H fun vs H1 => ∃ a xs, vs = [.ref a] ∧ SqT K H1 a xs ∧ R (Ites K a k) H1) : iEs K k ta σ H R := q
theorem a_iEz {k : Int} (q : ta σ H fun vs H1 => ∃ a b xs ys, vs = [.ref a, .ref b] ∧ SqT K H1 a xs ∧ SqT K H1 b ys ∧ R (Itez K a b k) H1) : iEz K k ta σ H R := q
theorem a_iEnum (q : ta σ H fun vs H1 => ∃ a xs, vs = [.ref a] ∧ SqL K H1 a xs ∧ R (Ite K a) H1) : iEnum K ta σ H R := q
theorem a_iSeq (q : iList K te σ H R ∨ iTup K te σ H R) : iSeq K te σ H R := q
theorem a_iTup (q : te σ H fun x H1 => ∃ a, x = .ref a ∧ (∃ xs, SqT K H1 a xs) ∧ R (Itt K a) H1) : iTup K te σ H R := q
theorem a_iList (q : te σ H fun x H1 => ∃ a, x = .ref a ∧ (∃ xs, SqL K H1 a xs) ∧ R (Itl K a) H1) : iList K te σ H R := q
theorem lp_it {J : It} {n : Nat} {G : Hp → Prop} {Y : Nat → Hp → V → Hp → Prop} (w : Walk J n G Y) (Pv : Nat → L2.St → Hp → Prop) (h0 : Pv 0 σ H) (hG : ∀ i σ H, i ≤ n → Pv i σ H → G H)
    (hs : ∀ i x σ H H', i < n → Pv i σ H → Y i H x H' → g x σ H' fun σ2 H2 => tb { nx := Pv (i + 1), rt := D.rt, bk := D.nx, ct := Pv (i + 1) } σ2 H2) (hd : ∀ σ H, Pv n σ H → D.nx σ H) : Lp J g tb D σ H := for_it w Pv h0 hG hs hd
theorem lp_range {lo : Int} {n : Nat} (Pv : Nat → L2.St → Hp → Prop) (h0 : Pv 0 σ H) (hs : ∀ i σ H, i < n → Pv i σ H → g (.int (lo + i)) σ H fun σ2 H2 => tb { nx := Pv (i + 1), rt := D.rt, bk := D.nx, ct := Pv (i + 1) } σ2 H2) (hd : ∀ σ H, Pv n σ H → D.nx σ H) :
    Lp (Itr lo n) g tb D σ H := for_range Pv h0 hs hd
end
/-! ### comprehensions -/
def Lc (J : It) (g : TG) (tt : TT) (te : TE) (vs : List Nat) (σ : L2.St) (H1 : Hp) (D : Addr) (Qd : Hp → Prop) : Prop := ∃ W : Nat → Nat → Hp → Prop, (∃ m, W 0 m (upd H1 D (.lst []))) ∧ ∀ (i m : Nat) (H : Hp), W i m H →
  (J.stop i H ∧ Qd H) ∨ (J.go i H ∧ ∃ Nx : Hp → Prop, (∀ H', Nx H' → ∃ m', m' < m ∧ W (i + 1) m' H') ∧ ∀ (x : V) (H' : Hp), J.yld i H x H' → g x (wipe σ vs) H' fun σ2 H2 => wipe σ2 vs = wipe σ vs ∧
    tt σ2 H2 fun b H3 => if b = true then te σ2 H3 fun y H4 => ∃ acc, H4 D = some (.lst acc) ∧ acc.length < sizeLine ∧ Nx (upd H4 D (.lst (acc ++ [y]))) else Nx H3)
section
variable {σ : L2.St} {H : Hp} {Q : VK} {g : TG} {tt : TT} {te : TE} {wi : TI} {vs : List Nat}
theorem a_lc (q : wi σ H fun J H1 => ∀ D, H1 D = none → Lc J g tt te vs σ H1 D fun H2 => Q (.ref D) H2) : tLc wi g tt te vs σ H Q := q
theorem lc_of {J : It} {n : Nat} {G : Hp → Prop} {Y : Nat → Hp → V → Hp → Prop} (w : Walk J n G Y) {H1 : Hp} {D : Addr} {Qd : Hp → Prop} (Pv : Nat → Hp → Prop) (h0 : Pv 0 (upd H1 D (.lst []))) (hG : ∀ i H, i ≤ n → Pv i H → G H)
    (hs : ∀ i x H H', i < n → Pv i H → Y i H x H' → g x (wipe σ vs) H' fun σ2 H2 => wipe σ2 vs = wipe σ vs ∧ tt σ2 H2 fun b H3 => if b = true then te σ2 H3 fun y H4 => ∃ acc, H4 D = some (.lst acc) ∧ acc.length < sizeLine ∧ Pv (i + 1) (upd H4 D (.lst (acc ++ [y]))) else Pv (i + 1) H3)
    (hd : ∀ H, Pv n H → Qd H) : Lc J g tt te vs σ H1 D Qd := lc_it w Pv h0 hG hs hd
theorem a_yes {R : Bool → Hp → Prop} (q : R true H) : tYes σ H R := q
theorem a_wp {A B : Prop} (a : A) (b : B) : A ∧ B := ⟨a, b⟩
theorem a_sl {r : V → Option Int → Option Int → Hp → VK → Prop} {tl th : TO} (q : te σ H fun x H1 => tl σ H1 fun l H2 => th σ H2 fun u H3 => r x l u H3 Q) : tSl r te tl th σ H Q := q
theorem a_nop {R : Option Int → Hp → Prop} (q : R none H) : tNoPart σ H R := q
theorem a_prt {R : Option Int → Hp → Prop} (q : te σ H fun x H1 => ∃ i, x = .int i ∧ R (some i) H1) : tPart te σ H R := q
theorem a_ex1 {R : Int → Prop} {i : Int} (q : R i) : ∃ j, V.int i = V.int j ∧ R j := ⟨i, rfl, q⟩
end
section
variable {σ : L2.St} {H : Hp} {ta : TA} {R : It → Hp → Prop}
theorem a_rng1 (q : ta σ H fun vs H1 => ∃ j : Int, vs = [.int j] ∧ -2 ^ 62 ≤ j ∧ j < 2 ^ 62 ∧ R (Itr 0 j.toNat) H1) : iRng1 ta σ H R := q
theorem a_rng2 (q : ta σ H fun vs H1 => ∃ i j : Int, vs = [.int i, .int j] ∧ (-2 ^ 62 ≤ i ∧ i < 2 ^ 62 ∧ -2 ^ 62 ≤ j ∧ j < 2 ^ 62) ∧ R (Itr i (j - i).toNat) H1) : iRng2 ta σ H R := q
end
end EL

/- part T -/
/-! tracked data: what is laid and known, with empty dicts; repr of it; t[::-1] of a tuple -/
namespace EL
open PySem PySem.Spec PyProof.Rows L2
open PySem.W (Frag)
mutual
inductive Tk (H : Hp) : V → PyData → Prop
  | non : Tk H .non .none
  | bl (b : Bool) : Tk H (.bl b) (.bool b)
  | int (i : Int) : Tk H (.int i) (.int i)
  | str (x : Str) : Tk H (.str x) (.str x)
  | lst {a : Addr} {xs : List V} {ds : List PyData} (h : H a = some (.lst xs)) (t : TkAll H xs ds) : Tk H (.ref a) (.list ds)
  | tup {a : Addr} {xs : List V} {ds : List PyData} (h : H a = some (.tup xs)) (t : TkAll H xs ds) : Tk H (.ref a) (.tuple ds)
  | dct {a : Addr} (h : H a = some (.dK [])) : Tk H (.ref a) (.dict [])
inductive TkAll (H : Hp) : List V → List PyData → Prop
  | nil : TkAll H [] []
  | cons {v : V} {vs : List V} {d : PyData} {ds : List PyData} (h : Tk H v d) (t : TkAll H vs ds) : TkAll H (v :: vs) (d :: ds)
end
mutual
theorem tk_same {H H' : Hp} (s : Same H H') : ∀ (d : PyData) (v : V), Tk H v d → Tk H' v d
  | .none, _, h => by cases h; exact .non
  | .bool _, _, h => by cases h; exact .bl _
  | .int _, _, h => by cases h; exact .int _
  | .str _, _, h => by cases h; exact .str _
  | .list ds, _, h => by
    cases h with
    | lst a t => exact .lst (s _ _ a) (tk_sameAll s ds _ t)
  | .tuple ds, _, h => by
    cases h with
    | tup a t => exact .tup (s _ _ a) (tk_sameAll s ds _ t)
  | .dict _, _, h => by
    cases h with
    | dct a => exact .dct (s _ _ a)
theorem tk_sameAll {H H' : Hp} (s : Same H H') : ∀ (ds : List PyData) (vs : List V), TkAll H vs ds → TkAll H' vs ds
  | [], _, h => by cases h; exact .nil
  | d :: ds, _, h => by
    cases h with
    | cons h1 h2 => exact .cons (tk_same s d _ h1) (tk_sameAll s ds _ h2)
end
theorem Tk.same {H H' : Hp} {v : V} {d : PyData} (h : Tk H v d) (s : Same H H') : Tk H' v d := tk_same s d v h
theorem TkAll.same {H H' : Hp} {v : List V} {d : List PyData} (h : TkAll H v d) (s : Same H H') : TkAll H' v d := tk_sameAll s d v h
theorem TkAll.mem {H : Hp} : ∀ {vs : List V} {ds : List PyData}, TkAll H vs ds → ∀ y ∈ vs, ∃ e, e ∈ ds ∧ Tk H y e
  | [], _, _, _, h => nomatch h
  | v :: vs, _, .cons h t, y, hy => by
    rcases List.mem_cons.mp hy with rfl | q
    · exact ⟨_, List.mem_cons_self .., h⟩
    · obtain ⟨e, m, k⟩ := TkAll.mem t y q
      exact ⟨e, List.mem_cons_of_mem _ m, k⟩
theorem TkAll.app {H : Hp} : ∀ {vs ws : List V} {ds es : List PyData}, TkAll H vs ds → TkAll H ws es → TkAll H (vs ++ ws) (ds ++ es)
  | [], _, _, _, .nil, h => h
  | _ :: _, _, _, _, .cons h t, k => .cons h (TkAll.app t k)
theorem TkAll.at_ {H : Hp} {vs : List V} {ds : List PyData} (h : TkAll H vs ds) : ∀ (i : Nat) (v : V), vs[i]? = some v → ∃ d, ds[i]? = some d ∧ Tk H v d := by
  induction vs generalizing ds with
  | nil => intro i v e; cases i <;> cases e
  | cons w ws ih =>
    intro i v e
    cases h with
    | cons h1 h2 =>
      cases i with
      | zero => cases e; exact ⟨_, rfl, h1⟩
      | succ i => exact ih h2 i v e
theorem tk_ints {H : Hp} : ∀ (js : List Int), TkAll H (js.map V.int) (js.map PyData.int)
  | [] => .nil
  | j :: r => .cons (.int j) (tk_ints r)
theorem Tk.th {K : Frag} {H : Hp} {v : V} {d : PyData} (h : Tk H v d) : Th K H v := by
  cases h with
  | non => exact .non
  | bl b => exact .bl b
  | int i => exact .int i
  | str x => exact .str x
  | lst h _ => exact .lst h
  | tup h _ => exact .tup h
  | dct h => exact .dct h
theorem Tk.el {H : Hp} {q : Addr} {d : PyData} {xs : List V} (h : Tk H (.ref q) d) (e : H q = some (.tup xs)) : ∃ ds, d = .tuple ds ∧ TkAll H xs ds := by
  cases h with
  | lst h _ => rw [h] at e; cases e
  | tup h t => rw [h] at e; cases e; exact ⟨_, rfl, t⟩
  | dct h => rw [h] at e; cases e
theorem Tk.elL {H : Hp} {q : Addr} {d : PyData} {xs : List V} (h : Tk H (.ref q) d) (e : H q = some (.lst xs)) : ∃ ds, d = .list ds ∧ TkAll H xs ds := by
  cases h with
  | lst h t => rw [h] at e; cases e; exact ⟨_, rfl, t⟩
  | tup h _ => rw [h] at e; cases e
  | dct h => rw [h] at e; cases e
theorem Tk.els {K : Frag} {H : Hp} {x : V} {d : PyData} (h : Tk H x d) (q : Addr) (xs : List V) (ex : x = .ref q) (e : H q = some (.tup xs)) : ∀ y ∈ xs, Th K H y := fun y hy => by
  subst ex
  obtain ⟨ds, _, t⟩ := h.el e
  obtain ⟨e, _, k⟩ := t.mem y hy
  exact k.th
/-! ### the heap without the bag -/
def wo (b : Addr) (H : Hp) : Hp := fun a => if a = b then none else H a
theorem wo_ne {b a : Addr} {H : Hp} {o : HO} (n : a ≠ b) (h : H a = some o) : wo b H a = some o := by unfold wo; rw [if_neg n]; exact h
theorem wo_same {b : Addr} {H : Hp} : Same (wo b H) H := fun a o h => by
  unfold wo at h
  by_cases e : a = b
  · rw [if_pos e] at h; cases h
  · rw [if_neg e] at h; exact h
theorem wo_kp {b : Addr} {H H' : Hp} (k : Kp b H H') : Same (wo b H) (wo b H') := fun a o h => by
  unfold wo at h
  by_cases e : a = b
  · rw [if_pos e] at h; cases h
  · rw [if_neg e] at h; exact wo_ne e (k a o e h)
theorem wo_sm {b : Addr} {H H' : Hp} (s : Same H H') : Same (wo b H) (wo b H') := wo_kp (same_kp s)
/-- known apart from the bag -/
abbrev TkB (b : Addr) (H : Hp) (v : V) (d : PyData) : Prop := Tk (wo b H) v d
theorem TkB.tk {b : Addr} {H : Hp} {v : V} {d : PyData} (h : TkB b H v d) : Tk H v d := h.same wo_same
theorem TkB.kp {b : Addr} {H H' : Hp} {v : V} {d : PyData} (h : TkB b H v d) (k : Kp b H H') : TkB b H' v d := h.same (wo_kp k)
/-! ### what can be shown -/
mutual
def gd : PyData → Bool
  | .none | .bool _ => true
  | .int i => decide (i.natAbs < 10 ^ 40)
  | .str x => x.cps.toList.all fun c => decide (c < 16 ^ 8)
  | .list xs | .tuple xs => gdAll xs
  | .dict kvs => kvs.isEmpty
def gdAll : List PyData → Bool
  | [] => true
  | x :: xs => gd x && gdAll xs
end
mutual
def noL : PyData → Bool
  | .list _ => false
  | .tuple xs => noLAll xs
  | _ => true
def noLAll : List PyData → Bool
  | [] => true
  | x :: xs => noL x && noLAll xs
end
structure Fine (d : PyData) : Prop where
  good : gd d = true
  bulk : d.bulk ≤ 300000
  depth : d.depth ≤ 40
  mix : d.hasDict = true → noL d = true
theorem pow10 : (10 : Nat) ^ 40 ≤ 2 ^ 1920 := by decide +kernel
mutual
theorem gd_showable : ∀ (d : PyData), gd d = true → d.showable = true
  | .none, _ => rfl
  | .bool _, _ => rfl
  | .str _, _ => rfl
  | .int i, h => by
    have q : i.natAbs < 10 ^ 40 := by simpa [gd] using h
    have q2 : i.natAbs < 2 ^ 1920 := Nat.lt_of_lt_of_le q pow10
    show decide (i.natAbs.log2 < 1920) = true
    rw [decide_eq_true_iff]
    by_cases e : i.natAbs = 0
    · rw [e]; decide
    · exact (Nat.log2_lt e).mpr q2
  | .list xs, h => gd_showableAll xs h
  | .tuple xs, h => gd_showableAll xs h
  | .dict [], _ => rfl
  | .dict (_ :: _), h => by cases h
theorem gd_showableAll : ∀ (ds : List PyData), gdAll ds = true → PyData.showableAll ds = true
  | [], _ => rfl
  | d :: ds, h => by
    have q : gd d = true ∧ gdAll ds = true := by simpa [gdAll] using h
    show (d.showable && PyData.showableAll ds) = true
    rw [gd_showable d q.1, gd_showableAll ds q.2]
    rfl
end
theorem int_shown {i : Int} (h : i.natAbs < 10 ^ 40) : (PyData.shown (.int i)).length ≤ 42 := by
  have q := int_text_length_le10 (a := i) (k := 40) (by decide) h
  have e : (PyData.shown (.int i)).length = (toString i).length := by
    show (Str.ofString (toString i)).length = _
    exact PySem.ofString_length _
  omega
mutual
theorem gd_short : ∀ (d : PyData), gd d = true → d.leavesShort 42 = true
  | .none, _ => rfl
  | .bool _, _ => rfl
  | .str _, h => h
  | .int i, h => by
    have q : i.natAbs < 10 ^ 40 := by simpa [gd] using h
    show decide (_ ≤ 42) = true
    rw [decide_eq_true_iff]
    exact int_shown q
  | .list xs, h => gd_shortAll xs h
  | .tuple xs, h => gd_shortAll xs h
  | .dict [], _ => rfl
  | .dict (_ :: _), h => by cases h
theorem gd_shortAll : ∀ (ds : List PyData), gdAll ds = true → PyData.leavesShortAll 42 ds = true
  | [], _ => rfl
  | d :: ds, h => by
    have q : gd d = true ∧ gdAll ds = true := by simpa [gdAll] using h
    show (d.leavesShort 42 && PyData.leavesShortAll 42 ds) = true
    rw [gd_short d q.1, gd_shortAll ds q.2]
    rfl
end
theorem Fine.len {d : PyData} (h : Fine d) : d.shown.length ≤ sizeLine := by
  have q := PyData.shown_le_bulk 42 (by decide) d (gd_short d h.good)
  have e : sizeLine = 16777216 := rfl
  have := h.bulk
  omega
/-! ### what the real heap has of it -/
section
variable {X : Cx} {pins : List (Addr × Obj)} {σ : L2.St} {H : Hp} {s : Shared}
mutual
theorem tk_reads (I : Inv X pins σ H s) : ∀ (d : PyData) (v : V) (u : Value), Tk H v d → RelV v u → ∃ as, Reads s.heap u d as ∧ (noL d = true → sysModules ∉ as)
  | .none, _, _, h, r => by
    cases h
    cases r
    exact ⟨_, Reads.none, fun _ => List.not_mem_nil⟩
  | .bool b, _, _, h, r => by
    cases h
    cases r
    exact ⟨_, Reads.bool b, fun _ => List.not_mem_nil⟩
  | .int i, _, _, h, r => by
    cases h
    obtain ⟨t, rfl⟩ := r
    exact ⟨_, Reads.int i t, fun _ => List.not_mem_nil⟩
  | .str x, _, _, h, r => by
    cases h
    obtain ⟨t, rfl⟩ := r
    exact ⟨_, Reads.str x t, fun _ => List.not_mem_nil⟩
  | .list ds, _, _, h, r => by
    cases h with
    | lst hs ha =>
      cases r
      obtain ⟨its, rv, ⟨o, n, ho, hc, _, hd⟩, _⟩ := I.list (SqL.of hs)
      obtain ⟨as, hr, _⟩ := tk_readsAll I ds _ its ha rv
      exact ⟨_, Reads.list ho hc hd hr, fun z => nomatch z⟩
  | .tuple ds, _, _, h, r => by
    cases h with
    | tup hs ha =>
      cases r
      obtain ⟨its, rv, ⟨o, ho, hc, n, hd⟩, _⟩ := I.tuple (SqT.of hs)
      obtain ⟨as, hr, hm⟩ := tk_readsAll I ds _ its ha rv
      exact ⟨_, Reads.tuple ho hc hd hr, hm⟩
  | .dict _, _, _, h, r => by
    cases h with
    | @dct p hp =>
      cases r
      obtain ⟨_, ns, vs, kv, o, es, ep, ho, ex, hd, _, pr, _⟩ := I.hok p _ hp
      cases kv
      have e0 : es.toList = [] := by
        generalize es.toList = l at pr
        cases pr
        rfl
      have e1 : es = #[] := Array.toList_inj.mp e0
      subst e1
      refine ⟨_, .dict ho ex.1 hd .nil .nil, fun _ z => ?_⟩
      have z' : sysModules = p := by simpa using z
      rw [← z'] at ns
      exact absurd ns (by decide)
theorem tk_readsAll (I : Inv X pins σ H s) : ∀ (ds : List PyData) (vs : List V) (us : List Value), TkAll H vs ds → Vals vs us → ∃ as, ReadsAll s.heap us ds as ∧ (noLAll ds = true → sysModules ∉ as)
  | [], _, _, h, r => by
    cases h
    cases r
    exact ⟨_, ReadsAll.nil, fun _ => List.not_mem_nil⟩
  | d :: ds, _, _, h, r => by
    cases h with
    | cons h1 h2 =>
      cases r with
      | cons r1 r2 =>
        obtain ⟨as, q1, m1⟩ := tk_reads I d _ _ h1 r1
        obtain ⟨bs, q2, m2⟩ := tk_readsAll I ds _ _ h2 r2
        refine ⟨_, ReadsAll.cons q1 q2, fun z => ?_⟩
        have q : noL d = true ∧ noLAll ds = true := by simpa [noLAll] using z
        exact fun w => (List.mem_append.mp w).elim (m1 q.1) (m2 q.2)
end
end
def rShowT : List V → Hp → VK → Prop := fun xs H Q => ∃ x d, xs = [x] ∧ Tk H x d ∧ Fine d ∧ Q (.str d.shown) H
theorem u_showT {X : Cx} (hq : Quiet X.A) (hu : X.A.units + 64 < cLine) : CallR X (.builtin "repr") rShowT := by
  rintro pins s σ H xs us Q I r ⟨x, d, rfl, hd, hf, q⟩
  have hlen := hf.len
  have hs := gd_showable d hf.good
  have hdep := hf.depth
  have hm := hf.mix
  cases r with
  | cons rx rn =>
    rename_i u us
    cases rn
    obtain ⟨as, rd, ns⟩ := tk_reads I d x u hd rx
    have ns2 : d.hasDict = true → sysModules ∉ as := fun z => ns (hm z)
    have fin : ∀ t k, EP X pins σ Q (.str d.shown t) { s with toks := k } := fun t k => ⟨V.str d.shown, H, I.tok _, ⟨t, rfl⟩, q⟩
    have fin2 : ∀ h' t k, (∀ b o, s.heap.get? b = some o → h'.get? b = some o) → EP X pins σ Q (.str d.shown t) { s with heap := h', toks := k } := fun h' t tk k => ⟨V.str _, H, I.kept k, ⟨t, rfl⟩, q⟩
    cases rd with
    | none => exact PySem.P.repr_of_none (fin _ _)
    | bool b => exact PySem.P.repr_of_bool (fin _ _)
    | int i t => exact PySem.P.repr_of_int (by simpa [PyData.showable] using hs) (fin _ _)
    | str y t => exact PySem.P.repr_of_str (fin _ _) hlen
    | list h1 h2 h3 h4 => exact repr_of_reads' (h₀ := s.heap) (.list h1 h2 h3 h4) hs ns2 hq (by omega) (fun _ _ e => e) fin2 hlen
    | tuple h1 h2 h3 h4 => exact repr_of_reads' (h₀ := s.heap) (.tuple h1 h2 h3 h4) hs ns2 hq (by omega) (fun _ _ e => e) fin2 hlen
    | dict h1 h2 h3 h4 h5 => exact repr_of_reads' (h₀ := s.heap) (.dict h1 h2 h3 h4 h5) hs ns2 hq (by omega) (fun _ _ e => e) fin2 hlen
end EL

/- part T2 -/
/-! t[::-1] of a tuple -/
namespace EL
open PySem PySem.Spec PyProof.Rows L2
open PySem.W (Frag)
theorem rev_adjust (n : Nat) : Builtin.Slice.sliceAdjust none none (-1) (n : Int) = ((n : Int) - 1, -1) := by
  unfold Builtin.Slice.sliceAdjust
  rfl
theorem rev_places (n : Nat) : Builtin.Slice.slicePlaces ((n : Int) - 1) (-1) (-1) = n := by
  unfold Builtin.Slice.slicePlaces
  have h1 : ¬ ((-1 : Int) > 0) := by omega
  rw [if_neg h1]
  by_cases h : (n : Int) - 1 > -1
  · rw [if_pos h, show (- -1 : Int) = 1 by decide, Int.ediv_one]
    omega
  · rw [if_neg h]
    omega
theorem fm_congr {α β : Type} {f g : α → Option β} : ∀ (l : List α), (∀ x ∈ l, f x = g x) → l.filterMap f = l.filterMap g
  | [], _ => rfl
  | a :: l, h => by rw [List.filterMap_cons, List.filterMap_cons, h a (List.mem_cons_self ..), fm_congr l fun x hx => h x (List.mem_cons_of_mem _ hx)]
theorem rev_pick (xs : Array Value) : ((List.range xs.size).filterMap fun (k : Nat) => xs[((xs.size : Int) - 1 + (k : Int) * (-1)).toNat]?).toArray = xs.toList.reverse.toArray := by
  have e : (List.range xs.size).filterMap (fun (k : Nat) => xs[((xs.size : Int) - 1 + (k : Int) * (-1)).toNat]?) = ((List.range xs.size).map fun k => xs.size - 1 - k).filterMap (xs[·]?) := by
    rw [List.filterMap_map]
    apply fm_congr
    intro k hk
    have := List.mem_range.mp hk
    have q : ((xs.size : Int) - 1 + (k : Int) * (-1)).toNat = xs.size - 1 - k := by omega
    show xs[((xs.size : Int) - 1 + (k : Int) * (-1)).toNat]? = xs[xs.size - 1 - k]?
    rw [q]
  rw [e, PySem.W.krv_range, List.filterMap_reverse, PySem.W.krv_all]
section
variable {prog : Program} {w : World} {A : Around} {E : Value → Shared → Prop} {s : Shared}
open HT in
theorem getItem_tuple_rev {t sl : Addr} {items : Array Value} {vl vu vs : Value} {Q : Value → Shared → Prop} (ht : IsTup s.heap t items) (hs : s.heap.IsSliceOf sl vl vu vs) (pl : IsPart vl none) (pu : IsPart vu none) (ps : IsPart vs (some (-1)))
    (h : Q (.ref s.heap.objs.size) { s with heap := s.heap.push { cls := .type "tuple", data := .seq items.toList.reverse.toArray } }) (hsz : items.size ≤ sizeLine) : wpAny (model prog w) A (getItem (.ref t) (.ref sl)) Q E s := by
  have htake : sizeOk (.seq items.toList.reverse.toArray) := by
    show items.toList.reverse.toArray.size ≤ sizeLine
    rw [List.size_toArray, List.length_reverse, Array.length_toList]
    exact hsz
  obtain ⟨os, hos, hcs, hds⟩ := id hs
  have hTs : s.TypeIs (.ref sl) "slice" := ⟨os, hos, hcs⟩
  unfold getItem
  try with_reducible refine wpAny_holding ?_
  first | refine wpAny_bind (wpAny_pure ?_) | skip
  refine wpAny_bind (wpAny_sequenceKey ht.typeIs (by decide) ?_)
  refine wpAny_bind (wpAny_callSpecial?_slot (name := Str.ofString "__getitem__") ht.typeIs PyProof.Rows.slot_tuple_getitem
    (wpAny_call_entry PyProof.Rows.slot_tuple_getitem ht.typeIs entry_tuple_getitem ?_ (args_tuple_getitem _ _)))
  show wpAny _ _ (Builtin.Tuple.tupleItemsOf (.ref t) >>= _) _ _ s
  refine wpAny_bind (tupleItemsOf_ ht ?_)
  refine wpAny_bind (wpAny_typeOf hTs ?_)
  rw [if_pos (by decide)]
  have ap : ∀ {R : Int × Int × Nat → Shared → Prop}, R ((items.size : Int) - 1, -1, items.size) s → wpAny (model prog w) A.in1 (Builtin.Slice.sliceApplied (.ref sl) (pure (items.size : Int))) R E s := by
    intro R hR
    unfold Builtin.Slice.sliceApplied Builtin.Slice.sliceFields
    refine wpAny_bind (wpAny_bind (wpAny_field hos hds (x := vl) rfl (wpAny_bind (wpAny_field hos hds (x := vu) rfl (wpAny_bind (wpAny_field hos hds (x := vs) rfl (wpAny_pure ?_)))))))
    refine wpAny_bind (slicePart_ ps ?_)
    show wpAny _ _ (if ((-1 : Int) == 0) = true then _ else _) _ _ s
    rw [if_neg (by decide)]
    refine wpAny_bind (slicePart_ pl (wpAny_bind (slicePart_ pu (wpAny_bind (wpAny_pure ?_)))))
    show wpAny _ _ (match Builtin.Slice.sliceAdjust none none (-1) (items.size : Int) with | (lo, hi) => pure (lo, (-1 : Int), Builtin.Slice.slicePlaces lo hi (-1))) _ _ s
    rw [rev_adjust]
    show wpAny _ _ (pure ((items.size : Int) - 1, (-1 : Int), Builtin.Slice.slicePlaces ((items.size : Int) - 1) (-1) (-1))) _ _ s
    rw [rev_places]
    exact wpAny_pure hR
  refine wpAny_bind (ap ?_)
  have hno : ¬ ((((items.size : Int) - 1) == 0 && (-1 : Int) == 1 && items.size == items.size) = true) := by
    intro q
    rw [Bool.and_eq_true, Bool.and_eq_true] at q
    exact absurd q.1.2 (by decide)
  show wpAny _ _ (if (((items.size : Int) - 1) == 0 && (-1 : Int) == 1 && items.size == items.size) = true then _ else _) _ _ s
  rw [if_neg hno, rev_pick]
  first
    | exact wpAny_bind (m := Builtin.Tuple.tupleExact _) (wpAny_newObj_type (wpAny_pure ⟨_, rfl, wpAny_pure h⟩) htake)
    | exact wpAny_bind (m := Builtin.Tuple.tupleExact _) (wpAny_newObj_type (wpAny_bind (wpAny_pure (wpAny_pure ⟨_, rfl, wpAny_pure h⟩))) htake)
    | exact wpAny_bind (wpAny_bind (m := Builtin.Tuple.tupleExact _) (wpAny_newObj_type (wpAny_pure (wpAny_pure ⟨_, rfl, wpAny_pure h⟩)) htake))
    | exact wpAny_bind (wpAny_bind (m := Builtin.Tuple.tupleExact _) (wpAny_newObj_type (wpAny_pure ⟨_, rfl, wpAny_pure h⟩) htake))
end
section
variable {X : Cx}
def tRevT (K : Frag) (te : TE) : TE := fun σ H Q => te σ H fun x H1 => ∃ a xs, x = .ref a ∧ SqT K H1 a xs ∧ ∀ p, H1 p = none → Q (.ref p) (upd H1 p (.tup xs.reverse))
theorem pe_revT {e : Expr} {te : TE} {k : Nat} {p1 p2 p3 pos : Pos} (he : PE X e te) : PE X (.Subscript e (.Slice none none (some (.UnaryOp .USub (.Constant (.int 1) k p1) p2)) p3) pos) (tRevT X.K te) := by
  refine ⟨fun pins s σ H Q I h => ?_⟩
  refine Subscript_ (thn (he.run pins s σ H _ I h) fun v s1 ⟨x, H1, I1, r1, q1⟩ => ?_)
  obtain ⟨a, xs, ex, hx, q⟩ := q1
  subst ex
  cases r1
  have hst : PO X (some (.UnaryOp .USub (.Constant (.int 1) k p1) p2)) (tPart (tUn (rU fun i => .int (-i)) (tC (.int 1)))) := po_some (pe_un un_neg pe_int)
  refine wpAny_Slice (thn (po_none.run pins s1 σ H1 (fun o H2 => o = none ∧ H2 = H1) I1 ⟨rfl, rfl⟩) fun vl s2 ⟨l, H2, I2, pl, el, e2⟩ => ?_)
  subst el e2
  refine thn (po_none.run pins s2 σ H2 (fun o H3 => o = none ∧ H3 = H2) I2 ⟨rfl, rfl⟩) fun vu s3 ⟨u, H3, I3, pu, eu, e3⟩ => ?_
  subst eu e3
  refine thn (hst.run pins s3 σ H3 (fun o H4 => o = some (-1) ∧ H4 = H3) I3 ⟨1, rfl, -1, rfl, rfl, rfl⟩) fun vs s4 ⟨o, H4, I4, ps, eo, e4⟩ => ?_
  subst eo e4
  have I5 : Inv X pins σ H4 { s4 with heap := s4.heap.push { cls := .type "slice", data := .fields #[vl, vu, vs] } } := I4.kept (t' := s4.toks) fun b ob q => Heap.get?_push_of_some _ q
  obtain ⟨its, r, ht, hz⟩ := I5.tuple hx
  have hlen := r.length
  show wpAny (model X.prog X.w) X.A (subscriptTail e (.Slice none none (some (.UnaryOp .USub (.Constant (.int 1) k p1) p2)) p3) (.ref a) (.ref s4.heap.objs.size)) (EP X pins σ Q) X.xe { s4 with heap := s4.heap.push { cls := .type "slice", data := .fields #[vl, vu, vs] } }
  refine tail_any (ops := [.ref a, .ref s4.heap.objs.size]) ht.typeIs (PyProof.Rows.slot_tuple_getitem.lookup) ?_ (by with_unfolding_all rfl)
  refine getItem_tuple_rev ht (Heap.IsSliceOf.new _ vl vu vs) pl pu ps ?_ (by rw [List.size_toArray]; omega)
  refine ⟨.ref _, _, I5.laid (t' := s4.toks) (o := .tup xs.reverse) (fun b ob q => Heap.get?_push_of_some _ q) (Nat.le_refl _) ?_, rfl, q _ (I5.hok.fresh (Nat.le_refl _))⟩
  exact ⟨by rw [List.length_reverse]; exact hz, _, r.reverse, IsTup.new _ _⟩
end
end EL

/- part T3 -/
/-! data of a size; parts of tuples -/
namespace EL
open PySem PySem.Spec PyProof.Rows L2
open PySem.W (Frag)
/-- no dict, so big, so deep -/
structure Sz (n k : Nat) (d : PyData) : Prop where
  good : gd d = true
  bulk : d.bulk ≤ n
  depth : d.depth ≤ k
  nod : d.hasDict = false
theorem Sz.le {n k n' k' : Nat} {d : PyData} (h : Sz n k d) (a : n ≤ n') (b : k ≤ k') : Sz n' k' d := ⟨h.good, Nat.le_trans h.bulk a, Nat.le_trans h.depth b, h.nod⟩
theorem Sz.fine {n k : Nat} {d : PyData} (h : Sz n k d) (a : n ≤ 300000) (b : k ≤ 40) : Fine d := ⟨h.good, Nat.le_trans h.bulk a, Nat.le_trans h.depth b, fun z => by rw [h.nod] at z; cases z⟩
theorem sz_all {n k : Nat} : ∀ {ds : List PyData}, (∀ d ∈ ds, Sz n k d) → gdAll ds = true ∧ PyData.bulkAll ds ≤ ds.length * (n + 1) ∧ PyData.depthAll ds ≤ k ∧ PyData.hasDictAll ds = false
  | [], _ => ⟨rfl, Nat.zero_le _, Nat.zero_le _, rfl⟩
  | d :: ds, h => by
    have q := h d (List.mem_cons_self ..)
    obtain ⟨a, b, c, e⟩ := sz_all fun x hx => h x (List.mem_cons_of_mem _ hx)
    refine ⟨?_, ?_, ?_, ?_⟩
    · show (gd d && gdAll ds) = true
      rw [q.good, a]; rfl
    · show d.bulk + 1 + PyData.bulkAll ds ≤ (ds.length + 1) * (n + 1)
      have := q.bulk
      rw [Nat.add_mul, Nat.one_mul]
      omega
    · show max d.depth (PyData.depthAll ds) ≤ k
      exact Nat.max_le.mpr ⟨q.depth, c⟩
    · show (d.hasDict || PyData.hasDictAll ds) = false
      rw [q.nod, e]; rfl
theorem sz_tup {n k : Nat} {ds : List PyData} (h : ∀ d ∈ ds, Sz n k d) : Sz (ds.length * (n + 1)) (k + 1) (.tuple ds) := by
  obtain ⟨a, b, c, e⟩ := sz_all h
  exact ⟨a, b, Nat.succ_le_succ c, e⟩
theorem sz_lst {n k : Nat} {ds : List PyData} (h : ∀ d ∈ ds, Sz n k d) : Sz (ds.length * (n + 1)) (k + 1) (.list ds) := by
  obtain ⟨a, b, c, e⟩ := sz_all h
  exact ⟨a, b, Nat.succ_le_succ c, e⟩
theorem sz_non : Sz 0 0 .none := ⟨rfl, Nat.le_refl _, Nat.le_refl _, rfl⟩
theorem sz_bl {b : Bool} : Sz 0 0 (.bool b) := ⟨rfl, Nat.le_refl _, Nat.le_refl _, rfl⟩
theorem sz_int {i : Int} (h : i.natAbs < 10 ^ 40) : Sz 0 0 (.int i) := ⟨by show decide _ = true; exact decide_eq_true h, Nat.le_refl _, Nat.le_refl _, rfl⟩
theorem sz_str {s : Str} (h : gd (.str s) = true) : Sz s.cps.size 0 (.str s) := ⟨h, Nat.le_refl _, Nat.le_refl _, rfl⟩
/-- a value that is known apart from the bag, of a size -/
def NiS (n k : Nat) (b : Addr) (H : Hp) (v : V) : Prop := ∃ d, TkB b H v d ∧ Sz n k d
/-- a value that is known apart from the bag, and can be shown -/
def Nice (b : Addr) (H : Hp) (v : V) : Prop := ∃ d, TkB b H v d ∧ Fine d
section
variable {n k : Nat} {b : Addr} {H H' : Hp} {v : V}
theorem NiS.le {n' k' : Nat} (h : NiS n k b H v) (a : n ≤ n') (c : k ≤ k') : NiS n' k' b H v := by
  obtain ⟨d, t, z⟩ := h
  exact ⟨d, t, z.le a c⟩
theorem NiS.nice (h : NiS n k b H v) (a : n ≤ 300000) (c : k ≤ 40) : Nice b H v := by
  obtain ⟨d, t, z⟩ := h
  exact ⟨d, t, z.fine a c⟩
theorem NiS.kp (h : NiS n k b H v) (q : Kp b H H') : NiS n k b H' v := by
  obtain ⟨d, t, z⟩ := h
  exact ⟨d, t.kp q, z⟩
theorem Nice.kp (h : Nice b H v) (q : Kp b H H') : Nice b H' v := by
  obtain ⟨d, t, z⟩ := h
  exact ⟨d, t.kp q, z⟩
theorem NiS.same (h : NiS n k b H v) (q : Same H H') : NiS n k b H' v := h.kp (same_kp q)
theorem Nice.same (h : Nice b H v) (q : Same H H') : Nice b H' v := h.kp (same_kp q)
theorem ni_non : NiS 0 0 b H .non := ⟨_, .non, sz_non⟩
theorem ni_bl {x : Bool} : NiS 0 0 b H (.bl x) := ⟨_, .bl x, sz_bl⟩
theorem ni_int {i : Int} (h : i.natAbs < 10 ^ 40) : NiS 0 0 b H (.int i) := ⟨_, .int i, sz_int h⟩
theorem ni_str {s : Str} (h : gd (.str s) = true := by decide +kernel) : NiS s.cps.size 0 b H (.str s) := ⟨_, .str s, sz_str h⟩
theorem tk_pick {P : PyData → Prop} : ∀ {xs : List V}, (∀ v ∈ xs, ∃ d, TkB b H v d ∧ P d) → ∃ ds, TkAll (wo b H) xs ds ∧ ds.length = xs.length ∧ ∀ d ∈ ds, P d
  | [], _ => ⟨[], .nil, rfl, fun _ h => nomatch h⟩
  | x :: xs, h => by
    obtain ⟨ds, t, l, p⟩ := tk_pick fun v hv => h v (List.mem_cons_of_mem _ hv)
    obtain ⟨d, t1, p1⟩ := h x (List.mem_cons_self ..)
    exact ⟨d :: ds, .cons t1 t, by rw [List.length_cons, List.length_cons, l], fun y hy => (List.mem_cons.mp hy).elim (fun e => e ▸ p1) (p y)⟩
theorem ni_tup {p : Addr} {xs : List V} (hp : H p = some (.tup xs)) (nb : p ≠ b) (h : ∀ v ∈ xs, NiS n k b H v) : NiS (xs.length * (n + 1)) (k + 1) b H (.ref p) := by
  obtain ⟨ds, t, l, q⟩ := tk_pick (P := Sz n k) h
  exact ⟨.tuple ds, .tup (wo_ne nb hp) t, l ▸ sz_tup q⟩
theorem ni_lst {p : Addr} {xs : List V} (hp : H p = some (.lst xs)) (nb : p ≠ b) (h : ∀ v ∈ xs, NiS n k b H v) : NiS (xs.length * (n + 1)) (k + 1) b H (.ref p) := by
  obtain ⟨ds, t, l, q⟩ := tk_pick (P := Sz n k) h
  exact ⟨.list ds, .lst (wo_ne nb hp) t, l ▸ sz_lst q⟩
theorem nice_dct {p : Addr} (hp : H p = some (.dK [])) (nb : p ≠ b) : Nice b H (.ref p) := ⟨_, .dct (wo_ne nb hp), ⟨rfl, by decide, by decide, fun _ => rfl⟩⟩
/-- the items of a known tuple -/
theorem ni_at {p : Addr} {xs : List V} (h : NiS n (k + 1) b H (.ref p)) (hp : H p = some (.tup xs)) : ∀ v ∈ xs, NiS n k b H v := by
  obtain ⟨d, t, z⟩ := h
  cases t with
  | lst e _ => rw [wo_same _ _ e] at hp; cases hp
  | dct e => rw [wo_same _ _ e] at hp; cases hp
  | @tup _ ys ds e t =>
    rw [wo_same _ _ e] at hp
    cases hp
    intro v hv
    obtain ⟨d, hd, q⟩ := t.mem v hv
    refine ⟨d, q, ?_⟩
    have a : ∀ {ds : List PyData}, d ∈ ds → gdAll ds = true → PyData.bulkAll ds ≤ n → PyData.depthAll ds ≤ k → PyData.hasDictAll ds = false → Sz n k d := by
      intro ds
      induction ds with
      | nil => intro h; cases h
      | cons e r ih =>
        intro hm h1 h2 h3 h4
        have g1 : gd e = true ∧ gdAll r = true := by simpa [gdAll] using h1
        have g2 : e.bulk + 1 + PyData.bulkAll r ≤ n := h2
        have g3 : max e.depth (PyData.depthAll r) ≤ k := h3
        have g4 : e.hasDict = false ∧ PyData.hasDictAll r = false := by simpa [PyData.hasDictAll] using h4
        have g5 := Nat.max_le.mp g3
        rcases List.mem_cons.mp hm with rfl | hm
        · exact ⟨g1.1, by omega, g5.1, g4.1⟩
        · exact ih hm g1.2 (by omega) g5.2 g4.2
    have z3 : PyData.depthAll ds + 1 ≤ k + 1 := z.depth
    exact a hd z.good z.bulk (by omega) z.nod
end
/-! ### parts of tuples, joined tuples -/
section
variable {K : Frag} {H : Hp} {Q : VK}
theorem n_catT {a b : Addr} {xs ys : List V} (ha : H a = some (.tup xs)) (hb : H b = some (.tup ys)) (z : xs.length + ys.length ≤ sizeLine) (q : ∀ p H', Same H H' → H' p = some (.tup (xs ++ ys)) → Q (.ref p) H') : rAdd K (.ref a) (.ref b) H Q := by
  refine .inr (.inr ⟨a, b, xs, ys, rfl, rfl, SqT.of ha, SqT.of hb, z, fun e => ?_, fun e1 e2 => ?_, fun _ _ p hp => q p _ (L2.Same.nw (Same.refl _) hp) upd_same⟩)
  · subst e
    exact q b H (Same.refl _) hb
  · subst e2
    exact q a H (Same.refl _) (by rw [List.append_nil]; exact ha)
theorem n_slT {a : Addr} {xs : List V} {lo hi : Option Int} (ha : H a = some (.tup xs)) (q : ∀ p H', Same H H' → H' p = some (.tup (cutV xs lo hi)) → Q (.ref p) H') : rSlice K (.ref a) lo hi H Q := by
  refine .inr ⟨a, xs, rfl, SqT.of ha, fun e => ?_, fun _ p hp => q p _ (L2.Same.nw (Same.refl _) hp) upd_same⟩
  refine q a H (Same.refl _) ?_
  have w : cutV xs lo hi = xs := by
    unfold cutV
    rw [e.1, e.2, List.drop_zero, Nat.sub_zero, List.take_length]
  rw [w]
  exact ha
theorem a_spar3 {σ : L2.St} {D : Ends} {u : TS} {ta : TA} {i j l : Nat} (q : ta σ H fun vs H1 => ∃ x y z, vs = [x, y, z] ∧ u D (((σ.set i (some x)).set j (some y)).set l (some z)) H1) : tSeq (tPar3 i j l ta) u D σ H := q
theorem a_par3 {σ : L2.St} {D : Ends} {ta : TA} {i j l : Nat} (q : ta σ H fun vs H1 => ∃ x y z, vs = [x, y, z] ∧ D.nx (((σ.set i (some x)).set j (some y)).set l (some z)) H1) : tPar3 i j l ta D σ H := q
theorem a_three {R : V → V → V → Prop} {a b c : V} (q : R a b c) : ∃ x y z, [a, b, c] = [x, y, z] ∧ R x y z := ⟨a, b, c, rfl, q⟩
theorem a_revT {σ : L2.St} {te : TE} (q : te σ H fun x H1 => ∃ a xs, x = .ref a ∧ SqT K H1 a xs ∧ ∀ p, H1 p = none → Q (.ref p) (upd H1 p (.tup xs.reverse))) : tRevT K te σ H Q := q
end
theorem cut_mem {xs : List V} {lo hi : Option Int} {v : V} (h : v ∈ cutV xs lo hi) : v ∈ xs := by
  unfold cutV at h
  exact List.mem_of_mem_drop (List.mem_of_mem_take h)
theorem cut_le (xs : List V) (lo hi : Option Int) : (cutV xs lo hi).length ≤ xs.length := by
  unfold cutV
  rw [List.length_take, List.length_drop]
  omega
end EL

/- part A -/
namespace EL
open PySem PySem.Spec PyProof.Rows L2
open PySem.W (Frag)
def top (i : Nat) : Stmt := PySem.Challenge.pw_earlyorlate_k11_errors_apart.main.body.getD i (.Pass ⟨0, 0, 0, 0⟩)
abbrev s_take : Stmt := top 16
abbrev N_take : List Str := ["_law_bag_here", "_law_many", "_law_cell", "_law_mixed", "_law_drawn", "_law_early", "_law_second"]
theorem sc_take : FnScope N_take ["_law_bag_here", "_law_many"] (defScope s_take) := ⟨rfl, rfl, rfl, by decide +kernel, rfl, by decide +kernel, by decide +kernel⟩
structure Tb (mg : Str → Option Value) : Prop where
  b : Bi mg
local macro_rules | `(tactic| walk_at "el1") => `(tactic| with_reducible first
  | refine a_sasg ?_ | refine a_sdrop ?_ | refine a_saugS ?_ | refine a_spar ?_ | refine a_seq ?_ | refine a_asg ?_ | refine a_drop ?_ | refine a_ret ?_ | refine a_if ?_ | refine a_next ?_
  | refine a_op ?_ | refine a_cons ?_ | refine a_nil ?_ | refine a_cb ?_ | refine a_call ?_ | refine a_c ?_ | refine a_gn ?_ | refine a_nx ?_ | refine a_rt ?_ | refine a_un ?_
  | refine a_test ?_ | refine a_B ?_ | refine a_bl ?_ | refine a_and ?_ | refine a_or ?_ | refine a_not ?_ | refine a_andV ?_ | refine a_orV ?_ | refine a_notV ?_ | refine a_ifx ?_ | refine a_chain ?_
  | refine a_nT ?_ | refine a_nF ?_ | refine a_fld ?_ | refine a_getF ?_ | refine a_T ?_ | refine a_F ?_ | refine a_tup ?_ | refine a_lst ?_ | refine a_sub ?_ | refine a_augS ?_ | refine a_two ?_ | refine a_I0 ?_ | refine a_U ?_ | refine n_add ?_ | refine n_int ?_ | refine n_ib ?_ | refine a_ip ?_ | refine a_rng1 ?_ | refine a_rng2 ?_ | refine a_bm ?_ | refine a_abs ?_ | refine a_pairs ?_ | refine a_pairs0 ?_ | refine a_bk ?_ | refine a_prp ?_ | refine a_lc ?_ | refine a_yes ?_ | refine a_sl ?_ | refine a_nop ?_ | refine a_prt ?_ | refine a_ex1 ?_ | refine a_for ?_ | refine a_sfor ?_ | refine a_iE1 ?_ | refine a_iEs ?_ | refine a_iEz ?_ | refine a_iEnum ?_ | refine a_iTup ?_ | refine a_iList ?_ | refine a_gcons ?_ | refine a_gnil ?_ | refine a_revT ?_ | refine a_spar3 ?_ | refine a_par3 ?_ | refine a_three ?_)
local macro_rules | `(tactic| walk_at "el2") => `(tactic| first
  | (refine a_var (by rfl) ?_)
  | (refine n_ixL (SqL.of (by assumption)) (by rfl) ?_) | (refine n_ixT (SqT.of (by assumption)) (by rfl) ?_) | (refine n_eq (by rfl) ?_) | (refine n_ne (by rfl) ?_)
  | (refine n_isN ?_) | (refine n_notN ?_) | (refine n_isB ?_) | (refine n_notB ?_) | (refine n_isBI ?_) | (refine n_notBI ?_) | (refine n_len (.inl (SqL.of (by assumption))) ?_) | (refine n_len (.inr (SqT.of (by assumption))) ?_)
  | (refine a_getL (SqL.of (by assumption)) (by rfl) ?_)
  | (refine n_isInt (by assumption) ?_) | (refine n_isBool (by assumption) ?_) | (refine n_isStr (by assumption) ?_) | (refine n_isTup (by assumption) ?_) | (refine n_isLst (by assumption) ?_))
local macro_rules | `(tactic| walk_at "el") => `(tactic| repeat (first | walk_at "el1" | walk_at "el2"))

/-! ### the bag -/
def Bag (H : Hp) (b c : Addr) : Prop := ∃ (i j k : Int) (cs : List Int), H b = some (.lst [.int i, .int j, .int k, .ref c]) ∧ H c = some (.lst (cs.map V.int)) ∧ c ≠ b ∧ 0 ≤ i ∧ 0 ≤ j ∧ j < 2147483647 ∧ 0 ≤ k ∧ ∀ x ∈ cs, 0 ≤ x
/-- a draw: a number from 0 to many - 1, the bag changed -/
def spTake : Sp := fun vs H Q _ => ∃ (b c : Addr) (m : Int), vs = [.ref b, .int m] ∧ Bag H b c ∧ 0 < m ∧ m ≤ 1000000000 ∧ ∀ (r : Int) H', 0 ≤ r → r < m → Bag H' b c → Kp b H H' → Q (.int r) H'
theorem cell_at {cs : List Int} {k : Int} (h0 : 0 ≤ k) (h1 : k < (cs.map V.int).length) (hc : ∀ x ∈ cs, (0 : Int) ≤ x) : ∃ x, atI (cs.map V.int) k = some (V.int x) ∧ 0 ≤ x := by
  obtain ⟨n, rfl⟩ : ∃ n : Nat, k = n := ⟨k.toNat, by omega⟩
  have hn : n < cs.length := by rw [List.length_map] at h1; omega
  refine ⟨cs[n], atI_nat (by rw [List.getElem?_map, List.getElem?_eq_getElem hn]; rfl), hc _ (List.getElem_mem hn)⟩
section
variable {P : Program} {w : World} {K : Frag} {mg : Str → Option Value} {base : Heap} {f : Addr} {fd : FuncData}
theorem ok_take (F : Fun K "_law_take" "_law_take" s_take f fd) (T : Tb mg) : FnOk P w K mg base CX0 1 f fd ["_law_bag_here", "_law_many"] spTake := by
  refine F.ok sc_take (fun vs H Q E h => ?_) (fun cdv A outer s H vs Q E hr h => ?_)
  · obtain ⟨b, c, m, rfl, _⟩ := h
    rfl
  · obtain ⟨b, c, m, rfl, hB, hm0, hm1, k⟩ := h
    refine ⟨_, (Evl.pss_cut (ps_if (pt_cmpR (u_eq hr.units) (pe_ix ix_seq (pv 0) pe_int (fun _ _ => rfl)) pe_int (nomark _))
    (pss_cons (ps_set (i := 2) sc_take.nd rfl (Or.inl rfl) pe_int)
  (Evl.pss_cut (ps_if (pt_cmpR op_lt (pe_ix ix_seq (pv 0) pe_int (fun _ _ => rfl)) (pe_callB u_len rfl T.b.len_ boot_len (pa_cons (pe_ix ix_seq (pv 0) pe_int (fun _ _ => rfl)) pa_nil)) (nomark _))
    (pss_one (ps_set (i := 2) sc_take.nd rfl (Or.inl rfl) (pe_ix ix_seq (pe_ix ix_seq (pv 0) pe_int (fun _ _ => rfl)) (pe_ix ix_seq (pv 0) pe_int (fun _ _ => rfl)) (fun _ _ => rfl))))
    pss_nil)
  (pss_cons (ps_augS (pv 0) pe_int get_list pe_int ip_add set_list)
  (Evl.pss_cut (ps_if (pt_cmpR op_ge (pv 2) pe_int (nomark _))
    (pss_one (ps_asg (pv 2) (pg_sub (pv 0) pe_int set_list)))
    pss_nil)
  (pss_cons (ps_set (i := 3) sc_take.nd rfl (Or.inl rfl) (pe_op u_add (pe_op u_add (pe_op u_mul (pe_ix ix_seq (pv 0) pe_int (fun _ _ => rfl)) pe_int) (pe_op op_mod (pe_callTy u_int rfl T.b.int_ (by decide +kernel) (pa_cons (pv 2) pa_nil)) pe_int)) (pe_op u_mul pe_int (pe_ix ix_seq (pv 0) pe_int (fun _ _ => rfl)))))
  (pss_one (ps_asg (pe_op op_mod (pe_callTy u_int rfl T.b.int_ (by decide +kernel) (pa_cons (pv 3) pa_nil)) pe_int) (pg_sub (pv 0) pe_int set_list))))))))
    pss_nil)
  (pss_cons (ps_if (pt_cmpR op_gt (pe_ix ix_seq (pv 0) pe_int (fun _ _ => rfl)) pe_int (nomark _))
    (pss_cons (ps_set (i := 4) sc_take.nd rfl (Or.inl rfl) (pe_op op_mod (pe_callTy u_int rfl T.b.int_ (by decide +kernel) (pa_cons (pe_ix ix_seq (pv 0) pe_int (fun _ _ => rfl)) pa_nil)) (pv 1)))
  (pss_cons (ps_asg (pe_op op_fdiv (pe_callTy u_int rfl T.b.int_ (by decide +kernel) (pa_cons (pe_ix ix_seq (pv 0) pe_int (fun _ _ => rfl)) pa_nil)) (pv 1)) (pg_sub (pv 0) pe_int set_list))
  (pss_one (ps_ret (pv 4)))))
    pss_nil)
  (pss_cons (ps_set (i := 5) sc_take.nd rfl (Or.inl rfl) (pe_op op_mod (pe_callTy u_int rfl T.b.int_ (by decide +kernel) (pa_cons (pe_op u_mul (pe_op u_add (pe_ix ix_seq (pv 0) pe_int (fun _ _ => rfl)) pe_int) pe_int) pa_nil)) pe_int))
  (pss_cons (ps_set (i := 6) sc_take.nd rfl (Or.inl rfl) (pe_op op_mod (pe_callTy u_int rfl T.b.int_ (by decide +kernel) (pa_cons (pe_op u_mul (pe_op op_mod (pe_callTy u_int rfl T.b.int_ (by decide +kernel) (pa_cons (pe_op u_mul (pv 5) (pv 5)) pa_nil)) pe_int) pe_int) pa_nil)) pe_int))
  (pss_one (ps_ret (pe_op op_mod (pe_callTy u_int rfl T.b.int_ (by decide +kernel) (pa_cons (pe_op op_fdiv (pv 6) pe_int) pa_nil)) (pv 1)))))))), ?_⟩
    obtain ⟨i, j, n, cs, hb, hc, hcb, hi, hj, hj2, hn, hcs⟩ := hB
    -- the bag fed, or not
    refine a_cut (fun σ' H' => ∃ v2 v3, σ' = [some (.ref b), some (.int m), v2, v3, none, none, none] ∧ Bag H' b c ∧ Kp b H H') ?_ ?_
    · walk_at "el"
      walk_at "el"
      refine ite2 (fun h0 => ?_) (fun h0 => ?_)
      · walk_at "el"
        refine a_cut (fun σ' H' => ∃ x : Int, 0 ≤ x ∧ σ' = [some (.ref b), some (.int m), some (.int x), none, none, none, none] ∧ H' = H) ?_ ?_
        · walk_at "el"
          walk_at "el"
          refine ite2 (fun h1 => ?_) (fun h1 => ?_)
          · obtain ⟨x, hx, x0⟩ := cell_at hn (of_decide_eq_true h1) hcs
            walk_at "el"
            refine n_ixL (SqL.of hc) hx ?_
            walk_at "el"
            exact ⟨x, x0, rfl, rfl⟩
          · walk_at "el"
            exact ⟨0, by decide, rfl, rfl⟩
        · rintro σ' H' ⟨x, x0, rfl, rfl⟩
          walk_at "el"
          refine a_set hb rfl ?_
          refine a_cut (fun σ' H1 => ∃ i', 0 ≤ i' ∧ σ' = [some (.ref b), some (.int m), some (.int x), none, none, none, none] ∧ H1 b = some (.lst [.int i', .int j, .int (n + 1), .ref c]) ∧ ∀ a, a ≠ b → H1 a = H' a) ?_ ?_
          · walk_at "el"
            refine ite2 (fun h1 => ?_) (fun h1 => ?_)
            · walk_at "el"
              refine a_set upd_same rfl ?_
              walk_at "el"
              exact ⟨x, x0, rfl, upd_same, fun a h => by rw [upd_ne h, upd_ne h]⟩
            · walk_at "el"
              exact ⟨i, hi, rfl, upd_same, fun a h => upd_ne h⟩
          · rintro σ' H1 ⟨i', hi', rfl, hb', ho⟩
            have hc' : H1 c = some (.lst (cs.map V.int)) := (ho c hcb).trans hc
            walk_at "el"
            refine n_mul (.inr (by decide)) ?_
            walk_at "el"
            refine a_I (by show (0 : Int) < 2147483647; decide) ?_
            walk_at "el"
            refine n_mul (.inl (by decide)) ?_
            walk_at "el"
            refine a_I (by show (0 : Int) < 2147483647; decide) ?_
            walk_at "el"
            refine a_set hb' rfl ?_
            walk_at "el"
            refine ⟨_, _, rfl, ⟨i', _, n + 1, cs, upd_same, by rw [upd_ne hcb]; exact hc', hcb, hi', Int.emod_nonneg _ (by decide), Int.emod_lt_of_pos _ (by decide), by omega, hcs⟩, fun a o h e => ?_⟩
            rw [upd_ne h, ho a h]
            exact e
      · walk_at "el"
        exact ⟨_, _, rfl, ⟨i, j, n, cs, hb, hc, hcb, hi, hj, hj2, hn, hcs⟩, Kp.refl b H⟩
    · clear hb hc hcb hi hj hj2 hn hcs
      rintro σ' H1 ⟨v2, v3, rfl, ⟨i, j, n, cs, hb, hc, hcb, hi, hj, hj2, hn, hcs⟩, k1⟩
      walk_at "el"
      refine ite2 (fun h0 => ?_) (fun h0 => ?_)
      · walk_at "el"
        walk_at "el"
        refine a_I hm0 ?_
        walk_at "el"
        refine a_I ⟨hm0, by omega⟩ ?_
        walk_at "el"
        refine a_set hb rfl ?_
        walk_at "el"
        refine k _ _ (Int.emod_nonneg _ (by omega)) (Int.emod_lt_of_pos _ hm0) ?_ k1.bag
        exact ⟨_, j, n, cs, upd_same, by rw [upd_ne hcb]; exact hc, hcb, Int.ediv_nonneg hi (by omega), hj, hj2, hn, hcs⟩
      · walk_at "el"
        walk_at "el"
        refine n_mul (.inr (by decide)) ?_
        walk_at "el"
        refine a_I (by show (0 : Int) < 1000000007; decide) ?_
        have e0 := Int.emod_nonneg ((j + 1) * 39373) (show (1000000007 : Int) ≠ 0 by decide)
        have e1 := Int.emod_lt_of_pos ((j + 1) * 39373) (show (0 : Int) < 1000000007 by decide)
        walk_at "el"
        refine n_mul (.inl ⟨by omega, by omega⟩) ?_
        walk_at "el"
        refine a_I (by show (0 : Int) < 998244353; decide) ?_
        walk_at "el"
        refine n_mul (.inr (by decide)) ?_
        walk_at "el"
        refine a_I (by show (0 : Int) < 998244353; decide) ?_
        walk_at "el"
        refine a_I ⟨by decide, by decide⟩ ?_
        walk_at "el"
        refine a_I hm0 ?_
        walk_at "el"
        exact k _ _ (Int.emod_nonneg _ (by omega)) (Int.emod_lt_of_pos _ hm0) ⟨i, j, n, cs, hb, hc, hcb, hi, hj, hj2, hn, hcs⟩ k1
end
end EL

/- part B -/
namespace EL
open PySem PySem.Spec PyProof.Rows L2
open PySem.W (Frag)

structure Wo (K : Frag) (mg : Str → Option Value) : Prop where
  b : Bi mg
  k_GREATEST_NUMBER : ∃ u, mg "GREATEST_NUMBER" = some u ∧ L2.RelV (.int 1000000000000000) u
local macro_rules | `(tactic| walk_at "el1") => `(tactic| with_reducible first
  | refine a_sasg ?_ | refine a_sdrop ?_ | refine a_saugS ?_ | refine a_spar ?_ | refine a_seq ?_ | refine a_asg ?_ | refine a_drop ?_ | refine a_ret ?_ | refine a_if ?_ | refine a_next ?_
  | refine a_op ?_ | refine a_cons ?_ | refine a_nil ?_ | refine a_cb ?_ | refine a_call ?_ | refine a_c ?_ | refine a_gn ?_ | refine a_nx ?_ | refine a_rt ?_ | refine a_un ?_
  | refine a_test ?_ | refine a_B ?_ | refine a_bl ?_ | refine a_and ?_ | refine a_or ?_ | refine a_not ?_ | refine a_andV ?_ | refine a_orV ?_ | refine a_notV ?_ | refine a_ifx ?_ | refine a_chain ?_
  | refine a_nT ?_ | refine a_nF ?_ | refine a_fld ?_ | refine a_getF ?_ | refine a_T ?_ | refine a_F ?_ | refine a_tup ?_ | refine a_lst ?_ | refine a_sub ?_ | refine a_augS ?_ | refine a_two ?_ | refine a_I0 ?_ | refine a_U ?_ | refine n_add ?_ | refine n_int ?_ | refine n_ib ?_ | refine a_ip ?_ | refine a_rng1 ?_ | refine a_rng2 ?_ | refine a_bm ?_ | refine a_abs ?_ | refine a_pairs ?_ | refine a_pairs0 ?_ | refine a_bk ?_ | refine a_prp ?_ | refine a_lc ?_ | refine a_yes ?_ | refine a_sl ?_ | refine a_nop ?_ | refine a_prt ?_ | refine a_ex1 ?_ | refine a_for ?_ | refine a_sfor ?_ | refine a_iE1 ?_ | refine a_iEs ?_ | refine a_iEz ?_ | refine a_iEnum ?_ | refine a_iTup ?_ | refine a_iList ?_ | refine a_gcons ?_ | refine a_gnil ?_ | refine a_revT ?_ | refine a_spar3 ?_ | refine a_par3 ?_ | refine a_three ?_)
local macro_rules | `(tactic| walk_at "el2") => `(tactic| first
  | (refine a_var (by rfl) ?_)
  | (refine n_ixL (SqL.of (by assumption)) (by rfl) ?_) | (refine n_ixT (SqT.of (by assumption)) (by rfl) ?_) | (refine n_eq (by rfl) ?_) | (refine n_ne (by rfl) ?_)
  | (refine n_isN ?_) | (refine n_notN ?_) | (refine n_isB ?_) | (refine n_notB ?_) | (refine n_isBI ?_) | (refine n_notBI ?_) | (refine n_len (.inl (SqL.of (by assumption))) ?_) | (refine n_len (.inr (SqT.of (by assumption))) ?_)
  | (refine a_getL (SqL.of (by assumption)) (by rfl) ?_)
  | (refine n_isInt (by assumption) ?_) | (refine n_isBool (by assumption) ?_) | (refine n_isStr (by assumption) ?_) | (refine n_isTup (by assumption) ?_) | (refine n_isLst (by assumption) ?_))
local macro_rules | `(tactic| walk_at "el") => `(tactic| repeat (first | walk_at "el1" | walk_at "el2"))

/-! ### what the words mean -/
def intB : V → Bool | .int _ => true | _ => false
def numB : V → Bool | .int i => decide (-1000000000000000 ≤ i) && decide (i ≤ 1000000000000000) | _ => false
def kindB : V → Bool | .str s => decide (s = "early") || decide (s = "late") | _ => false
def otherK (s : Str) : Str := if s = "early" then "late" else "early"
def spB (f : V → Bool) (K : Frag) : Sp := fun vs H Q _ => ∃ x, vs = [x] ∧ Th K H x ∧ ∀ H', Same H H' → Q (.bl (f x)) H'
theorem intB_eq (x : V) : (if isI x = true then !isB x else false) = intB x := by cases x <;> rfl
/-- a tuple of so many -/
def tupN (H : Hp) (x : V) (n : Int) : Prop := ∃ a xs, x = .ref a ∧ H a = some (.tup xs) ∧ (xs.length : Int) = n
def spTu (K : Frag) : Sp := fun vs H Q _ => ∃ (x : V) (n : Int), vs = [x, .int n] ∧ Th K H x ∧ ∀ b, (b = true ↔ tupN H x n) → Q (.bl b) H
theorem isT_tup {K : Frag} {H : Hp} {x : V} (th : Th K H x) (e : isT H x = true) : ∃ a xs, x = .ref a ∧ H a = some (.tup xs) := by
  cases th with
  | tup h => exact ⟨_, _, rfl, h⟩
  | @lst a xs h => (exfalso; have q : obT (H a) = true := e; rw [h] at q; cases q)
  | @dct a xs h => (exfalso; have q : obT (H a) = true := e; rw [h] at q; cases q)
  | @ins a C dx fs h c => (exfalso; have q : obT (H a) = true := e; rw [h] at q; cases q)
  | @dtt a kvs h => (exfalso; have q : obT (H a) = true := e; rw [h] at q; cases q)
  | _ => cases e
theorem isT_of {H : Hp} {a : Addr} {xs : List V} (h : H a = some (.tup xs)) : isT H (.ref a) = true := by show obT (H a) = true; rw [h]; rfl
section
variable {P : Program} {w : World} {K : Frag} {mg : Str → Option Value} {base : Heap} {f : Addr} {fd : FuncData}
/-- a tuple of this word and one value more -/
def spHd (K : Frag) : Sp := fun vs H Q _ => ∃ (x : V) (wd : Str), vs = [x, .str wd] ∧ Th K H x ∧ (∀ q xs, x = .ref q → H q = some (.tup xs) → ∀ y ∈ xs, Th K H y) ∧ ∀ b, (b = true ↔ ∃ a y, x = .ref a ∧ H a = some (.tup [.str wd, y])) → Q (.bl b) H
def spTl : Sp := fun vs H Q _ => ∃ p x s, vs = [.ref p] ∧ H p = some (.tup [x, .str s]) ∧ ∀ r, H r = none → Q (.ref r) (upd H r (.tup [x, .str (otherK s)]))
end
end EL

/- part C -/
namespace EL
open PySem PySem.Spec PyProof.Rows L2
open PySem.W (Frag)

local macro_rules | `(tactic| walk_at "el1") => `(tactic| with_reducible first
  | refine a_sasg ?_ | refine a_sdrop ?_ | refine a_saugS ?_ | refine a_spar ?_ | refine a_seq ?_ | refine a_asg ?_ | refine a_drop ?_ | refine a_ret ?_ | refine a_if ?_ | refine a_next ?_
  | refine a_op ?_ | refine a_cons ?_ | refine a_nil ?_ | refine a_cb ?_ | refine a_call ?_ | refine a_c ?_ | refine a_gn ?_ | refine a_nx ?_ | refine a_rt ?_ | refine a_un ?_
  | refine a_test ?_ | refine a_B ?_ | refine a_bl ?_ | refine a_and ?_ | refine a_or ?_ | refine a_not ?_ | refine a_andV ?_ | refine a_orV ?_ | refine a_notV ?_ | refine a_ifx ?_ | refine a_chain ?_
  | refine a_nT ?_ | refine a_nF ?_ | refine a_fld ?_ | refine a_getF ?_ | refine a_T ?_ | refine a_F ?_ | refine a_tup ?_ | refine a_lst ?_ | refine a_sub ?_ | refine a_augS ?_ | refine a_two ?_ | refine a_I0 ?_ | refine a_U ?_ | refine n_add ?_ | refine n_int ?_ | refine n_ib ?_ | refine a_ip ?_ | refine a_rng1 ?_ | refine a_rng2 ?_ | refine a_bm ?_ | refine a_abs ?_ | refine a_pairs ?_ | refine a_pairs0 ?_ | refine a_bk ?_ | refine a_prp ?_ | refine a_lc ?_ | refine a_yes ?_ | refine a_sl ?_ | refine a_nop ?_ | refine a_prt ?_ | refine a_ex1 ?_ | refine a_for ?_ | refine a_sfor ?_ | refine a_iE1 ?_ | refine a_iEs ?_ | refine a_iEz ?_ | refine a_iEnum ?_ | refine a_iTup ?_ | refine a_iList ?_ | refine a_gcons ?_ | refine a_gnil ?_ | refine a_revT ?_ | refine a_spar3 ?_ | refine a_par3 ?_ | refine a_three ?_)
local macro_rules | `(tactic| walk_at "el2") => `(tactic| first
  | (refine a_var (by rfl) ?_)
  | (refine n_ixL (SqL.of (by assumption)) (by rfl) ?_) | (refine n_ixT (SqT.of (by assumption)) (by rfl) ?_) | (refine n_eq (by rfl) ?_) | (refine n_ne (by rfl) ?_)
  | (refine n_isN ?_) | (refine n_notN ?_) | (refine n_isB ?_) | (refine n_notB ?_) | (refine n_isBI ?_) | (refine n_notBI ?_) | (refine n_len (.inl (SqL.of (by assumption))) ?_) | (refine n_len (.inr (SqT.of (by assumption))) ?_)
  | (refine a_getL (SqL.of (by assumption)) (by rfl) ?_)
  | (refine n_isInt (by assumption) ?_) | (refine n_isBool (by assumption) ?_) | (refine n_isStr (by assumption) ?_) | (refine n_isTup (by assumption) ?_) | (refine n_isLst (by assumption) ?_))
local macro_rules | `(tactic| walk_at "el") => `(tactic| repeat (first | walk_at "el1" | walk_at "el2"))

/-! ### items -/
inductive Pt | tel | gap | sur | cla
  deriving DecidableEq
def Pt.name : Pt → Str | .tel => "tellings" | .gap => "gaps" | .sur => "sure" | .cla => "clauses"
def Pt.form : Pt → List Str
  | .tel => ["witness", "event", "number"]
  | .gap => ["event", "another event", "number"]
  | .sur => ["event", "side", "number"]
  | .cla => ["witness", "kind", "witness", "kind"]
def belowB (x : V) (n : Int) : Bool := match x with | .int i => decide (0 ≤ i) && decide (i < n) | _ => false
def sideB : V → Bool | .str s => decide (s = "least") || decide (s = "most") | _ => false
def turnS (s : Str) : Str := if s = "least" then "most" else "least"
structure It4 (K : Frag) (w : World) (mg : Str → Option Value) (aForms aParts : Addr) : Prop where
  b : Bi mg
  gForms : mg "FORMS" = some (.ref aForms)
  gParts : mg "PARTS" = some (.ref aParts)
  forms : ∀ p : Pt, ∃ a, KDct K w aForms p.name (.ref a) ∧ ∀ H, SqT K H a (p.form.map V.str)
  parts : ∀ H, SqT K H aParts [.str "tellings", .str "gaps", .str "sure", .str "clauses"]
def spBelow (K : Frag) : Sp := fun vs H Q _ => ∃ x n, vs = [x, .int n] ∧ Th K H x ∧ ∀ H', Same H H' → Q (.bl (belowB x n)) H'
section
variable {P : Program} {w : World} {K : Frag} {mg : Str → Option Value} {base : Heap} {f : Addr} {fd : FuncData} {aForms aParts : Addr}
/-- what may stand at a place -/
def standB (word : Str) (xs : List V) (i : Nat) (x : V) (ev wi : Int) : Bool :=
  if word = "witness" then belowB x wi else if word = "event" then belowB x ev else if word = "another event" then belowB x ev && !decide (some x = xs[i - 1]?)
  else if word = "side" then sideB x else if word = "kind" then kindB x else numB x
def spCan (K : Frag) : Sp := fun vs H Q _ => ∃ (word : Str) (a : Addr) (xs : List V) (i : Nat) (x : V) (ev wi : Int), vs = [.str word, .ref a, .int i, .int ev, .int wi] ∧ H a = some (.tup xs) ∧ xs[i]? = some x ∧ Th K H x ∧
  (word = "another event" → 1 ≤ i ∧ ∃ j, xs[i - 1]? = some (.int j)) ∧ ∀ H', Same H H' → Q (.bl (standB word xs i x ev wi)) H'
/-- the values that may stand in an item -/
def StandsTo (p : Pt) (xs : List V) (ev wi : Int) (n : Nat) : Prop := ∀ j, j < n → ∀ wd x, p.form[j]? = some wd → xs[j]? = some x → standB wd xs j x ev wi = true
def spFw (K : Frag) : Sp := fun vs H Q _ => ∃ (p : Pt) (a : Addr) (xs : List V) (ev wi : Int), vs = [.str p.name, .ref a, .int ev, .int wi] ∧ H a = some (.tup xs) ∧ xs.length = p.form.length ∧ (∀ x ∈ xs, Th K H x) ∧
  (StandsTo p xs ev wi p.form.length → ∀ H', Same H H' → Q .non H') ∧
  (∀ i wd x, StandsTo p xs ev wi i → p.form[i]? = some wd → xs[i]? = some x → standB wd xs i x ev wi = false → ∀ H', Same H H' → Q (.int i) H')
theorem another_at {p : Pt} {i : Nat} (h : p.form[i]? = some ("another event" : Str)) : p = .gap ∧ i = 1 := by
  cases p <;> (rcases i with _ | _ | _ | _ | i) <;> first | exact ⟨rfl, rfl⟩ | (exfalso; revert h; decide) | cases h
theorem below_int {x : V} {n : Int} (h : belowB x n = true) : ∃ j, x = .int j ∧ 0 ≤ j ∧ j < n := by
  cases x with
  | int j =>
    have q : (decide (0 ≤ j) && decide (j < n)) = true := h
    rw [Bool.and_eq_true, decide_eq_true_iff, decide_eq_true_iff] at q
    exact ⟨j, rfl, q⟩
  | _ => cases h
theorem stands_prev {p : Pt} {xs : List V} {ev wi : Int} {i : Nat} (hl : xs.length = p.form.length) (h : StandsTo p xs ev wi i) (hw : p.form[i]? = some ("another event" : Str)) : 1 ≤ i ∧ ∃ j, xs[i - 1]? = some (.int j) := by
  obtain ⟨rfl, rfl⟩ := another_at hw
  have l0 : 0 < xs.length := by rw [hl]; decide
  have e0 : xs[0]? = some xs[0] := List.getElem?_eq_getElem l0
  have q := h 0 (by decide) "event" _ rfl e0
  obtain ⟨j, hj, _⟩ := below_int (x := xs[0]) (n := ev) (by
    unfold standB at q
    rw [if_neg (by decide), if_pos rfl] at q
    exact q)
  exact ⟨by decide, j, by rw [← hj]; exact e0⟩
/-- an item of a part -/
def ItemOk (p : Pt) (H : Hp) (x : V) (ev wi : Int) : Prop := ∃ a xs, x = .ref a ∧ H a = some (.tup xs) ∧ xs.length = p.form.length ∧ StandsTo p xs ev wi p.form.length
def spItem (K : Frag) : Sp := fun vs H Q _ => ∃ (p : Pt) (x : V) (ev wi : Int), vs = [.str p.name, x, .int ev, .int wi] ∧ Th K H x ∧ (∀ a xs, x = .ref a → H a = some (.tup xs) → ∀ y ∈ xs, Th K H y) ∧ ∀ H' b, Same H H' → (b = true ↔ ItemOk p H x ev wi) → Q (.bl b) H'
end
end EL

/- part D -/
namespace EL
open PySem PySem.Spec PyProof.Rows L2
open PySem.W (Frag)

local macro_rules | `(tactic| walk_at "el1") => `(tactic| with_reducible first
  | refine a_sasg ?_ | refine a_sdrop ?_ | refine a_saugS ?_ | refine a_spar ?_ | refine a_seq ?_ | refine a_asg ?_ | refine a_drop ?_ | refine a_ret ?_ | refine a_if ?_ | refine a_next ?_
  | refine a_op ?_ | refine a_cons ?_ | refine a_nil ?_ | refine a_cb ?_ | refine a_call ?_ | refine a_c ?_ | refine a_gn ?_ | refine a_nx ?_ | refine a_rt ?_ | refine a_un ?_
  | refine a_test ?_ | refine a_B ?_ | refine a_bl ?_ | refine a_and ?_ | refine a_or ?_ | refine a_not ?_ | refine a_andV ?_ | refine a_orV ?_ | refine a_notV ?_ | refine a_ifx ?_ | refine a_chain ?_
  | refine a_nT ?_ | refine a_nF ?_ | refine a_fld ?_ | refine a_getF ?_ | refine a_T ?_ | refine a_F ?_ | refine a_tup ?_ | refine a_lst ?_ | refine a_sub ?_ | refine a_augS ?_ | refine a_two ?_ | refine a_I0 ?_ | refine a_U ?_ | refine n_add ?_ | refine n_int ?_ | refine n_ib ?_ | refine a_ip ?_ | refine a_rng1 ?_ | refine a_rng2 ?_ | refine a_bm ?_ | refine a_abs ?_ | refine a_pairs ?_ | refine a_pairs0 ?_ | refine a_bk ?_ | refine a_prp ?_ | refine a_lc ?_ | refine a_yes ?_ | refine a_sl ?_ | refine a_nop ?_ | refine a_prt ?_ | refine a_ex1 ?_ | refine a_for ?_ | refine a_sfor ?_ | refine a_iE1 ?_ | refine a_iEs ?_ | refine a_iEz ?_ | refine a_iEnum ?_ | refine a_iTup ?_ | refine a_iList ?_ | refine a_gcons ?_ | refine a_gnil ?_ | refine a_revT ?_ | refine a_spar3 ?_ | refine a_par3 ?_ | refine a_three ?_)
local macro_rules | `(tactic| walk_at "el2") => `(tactic| first
  | (refine a_var (by rfl) ?_)
  | (refine n_ixL (SqL.of (by assumption)) (by rfl) ?_) | (refine n_ixT (SqT.of (by assumption)) (by rfl) ?_) | (refine n_eq (by rfl) ?_) | (refine n_ne (by rfl) ?_)
  | (refine n_isN ?_) | (refine n_notN ?_) | (refine n_isB ?_) | (refine n_notB ?_) | (refine n_isBI ?_) | (refine n_notBI ?_) | (refine n_len (.inl (SqL.of (by assumption))) ?_) | (refine n_len (.inr (SqT.of (by assumption))) ?_)
  | (refine a_getL (SqL.of (by assumption)) (by rfl) ?_)
  | (refine n_isInt (by assumption) ?_) | (refine n_isBool (by assumption) ?_) | (refine n_isStr (by assumption) ?_) | (refine n_isTup (by assumption) ?_) | (refine n_isLst (by assumption) ?_))
local macro_rules | `(tactic| walk_at "el") => `(tactic| repeat (first | walk_at "el1" | walk_at "el2"))

/-! ### books -/
structure Bo (mg : Str → Option Value) : Prop where
  k_MOST_EVENTS : ∃ u, mg "MOST_EVENTS" = some u ∧ L2.RelV (.int 8) u
  k_MOST_WITNESSES : ∃ u, mg "MOST_WITNESSES" = some u ∧ L2.RelV (.int 8) u
  k_MOST_ITEMS : ∃ u, mg "MOST_ITEMS" = some u ∧ L2.RelV (.int 24) u
structure BoT (K : Frag) (w : World) (mg : Str → Option Value) (aForms aParts : Addr) : Prop extends It4 K w mg aForms aParts, Bo mg
theorem stand_th {K : Frag} {H : Hp} {wd : Str} {xs : List V} {j : Nat} {x : V} {ev wi : Int} (h : standB wd xs j x ev wi = true) : Th K H x := by
  cases x with
  | int i => exact .int i
  | str s => exact .str s
  | _ => (exfalso; simp [standB, belowB, sideB, kindB, numB] at h)
theorem ItemOk.th {K : Frag} {p : Pt} {H : Hp} {x : V} {ev wi : Int} (h : ItemOk p H x ev wi) : Th K H x ∧ ∀ a xs, x = .ref a → H a = some (.tup xs) → ∀ y ∈ xs, Th K H y := by
  obtain ⟨a, xs, rfl, ha, hl, hs⟩ := h
  refine ⟨.tup ha, fun a' xs' e ha' y hy => ?_⟩
  cases e
  rw [ha] at ha'
  cases ha'
  obtain ⟨j, hj, rfl⟩ := List.getElem_of_mem hy
  have h2 : j < p.form.length := by omega
  exact stand_th (hs j h2 _ _ (List.getElem?_eq_getElem h2) (List.getElem?_eq_getElem hj))
theorem ItemOk.same {p : Pt} {H H' : Hp} {x : V} {ev wi : Int} (h : ItemOk p H x ev wi) (s : Same H H') : ItemOk p H' x ev wi := by
  obtain ⟨a, xs, rfl, ha, hl, hs⟩ := h
  exact ⟨a, xs, rfl, s _ _ ha, hl, hs⟩
/-- a part that a book may have -/
structure PartOk (K : Frag) (p : Pt) (H : Hp) (a : Addr) (xs : List V) (ev wi : Int) : Prop where
  seq : SqA K H a xs
  len : xs.length ≤ 24
  items : ∀ x ∈ xs, ItemOk p H x ev wi
theorem PartOk.same {K : Frag} {p : Pt} {H H' : Hp} {a : Addr} {xs : List V} {ev wi : Int} (h : PartOk K p H a xs ev wi) (s : Same H H') : PartOk K p H' a xs ev wi := ⟨h.seq.same s, h.len, fun x hx => (h.items x hx).same s⟩
def spCa (K : Frag) : Sp := fun vs H Q _ => ∃ (ev wi : Int) (q t g s c : Addr) (ts gs ss cs : List V), vs = [.int ev, .int wi, .ref q] ∧ H q = some (.tup [.ref t, .ref g, .ref s, .ref c]) ∧ 0 ≤ ev ∧ ev ≤ 8 ∧ 0 ≤ wi ∧ wi ≤ 8 ∧ SqA K H t ts ∧ SqA K H g gs ∧ SqA K H s ss ∧ SqA K H c cs ∧ ∀ H', Same H H' → Q .non H'
def spCi (K : Frag) : Sp := fun vs H Q _ => ∃ (n : Int) (p : Pt) (a : Addr) (xs : List V) (ev wi : Int), vs = [.int n, .str p.name, .ref a, .int ev, .int wi] ∧ PartOk K p H a xs ev wi ∧ ∀ H', Same H H' → Q .non H'
section
variable {P : Program} {w : World} {K : Frag} {mg : Str → Option Value} {base : Heap} {f : Addr} {fd : FuncData} {aForms aParts : Addr}
theorem below_true {i n : Int} (h0 : 0 ≤ i) (h1 : i < n) : belowB (.int i) n = true := by show (decide _ && decide _) = true; rw [decide_eq_true h0, decide_eq_true h1]; rfl
/-- a book, its parts told by their addresses -/
def bookO (C dx : Addr) (ev wi : Int) (t g s c : Addr) : HO := .ins C dx [("_events", .int ev), ("_witnesses", .int wi), ("_tellings", .ref t), ("_gaps", .ref g), ("_sure", .ref s), ("_clauses", .ref c)]
structure BkC (K : Frag) (C : Addr) : Prop where
  own : OwnC K C
  n0 : NoAttr K C "_events"
  n1 : NoAttr K C "_witnesses"
  n2 : NoAttr K C "_tellings"
  n3 : NoAttr K C "_gaps"
  n4 : NoAttr K C "_sure"
  n5 : NoAttr K C "_clauses"
def spInit (K : Frag) (C : Addr) : Sp := fun vs H Q _ => ∃ (o dx : Addr) (ev wi : Int) (t g s c : Addr) (ts gs ss cs : List V), vs = [.ref o, .int ev, .int wi, .ref t, .ref g, .ref s, .ref c] ∧ H o = some (.ins C dx []) ∧ 0 ≤ ev ∧ ev ≤ 8 ∧ 0 ≤ wi ∧ wi ≤ 8 ∧
  PartOk K .tel H t ts ev wi ∧ PartOk K .gap H g gs ev wi ∧ PartOk K .sur H s ss ev wi ∧ PartOk K .cla H c cs ev wi ∧
  ∀ H' t' g' s' c', Kp o H H' → H' o = some (bookO C dx ev wi t' g' s' c') → SqT K H' t' ts → SqT K H' g' gs → SqT K H' s' ss → SqT K H' c' cs → Q .non H'
end
end EL

/- part L -/
namespace EL
open PySem PySem.Spec PyProof.Rows L2
open PySem.W (Frag)
abbrev s_bag : Stmt := top 15
abbrev N_bag : List Str := ["_law_script", "_law_cell"]
theorem sc_bag : FnScope N_bag ["_law_script"] (defScope s_bag) := ⟨rfl, rfl, rfl, by decide +kernel, rfl, by decide +kernel, by decide +kernel⟩
abbrev s_one : Stmt := top 17
abbrev N_one : List Str := ["_law_bag_here", "_law_menu"]
theorem sc_one : FnScope N_one ["_law_bag_here", "_law_menu"] (defScope s_one) := ⟨rfl, rfl, rfl, by decide +kernel, rfl, by decide +kernel, by decide +kernel⟩
local macro_rules | `(tactic| walk_at "el1") => `(tactic| with_reducible first
  | refine a_sasg ?_ | refine a_sdrop ?_ | refine a_saugS ?_ | refine a_spar ?_ | refine a_seq ?_ | refine a_asg ?_ | refine a_drop ?_ | refine a_ret ?_ | refine a_if ?_ | refine a_next ?_
  | refine a_op ?_ | refine a_cons ?_ | refine a_nil ?_ | refine a_cb ?_ | refine a_call ?_ | refine a_c ?_ | refine a_gn ?_ | refine a_nx ?_ | refine a_rt ?_ | refine a_un ?_
  | refine a_test ?_ | refine a_B ?_ | refine a_bl ?_ | refine a_and ?_ | refine a_or ?_ | refine a_not ?_ | refine a_andV ?_ | refine a_orV ?_ | refine a_notV ?_ | refine a_ifx ?_ | refine a_chain ?_
  | refine a_nT ?_ | refine a_nF ?_ | refine a_fld ?_ | refine a_getF ?_ | refine a_T ?_ | refine a_F ?_ | refine a_tup ?_ | refine a_lst ?_ | refine a_sub ?_ | refine a_augS ?_ | refine a_two ?_ | refine a_I0 ?_ | refine a_U ?_ | refine n_add ?_ | refine n_int ?_ | refine n_ib ?_ | refine a_ip ?_ | refine a_rng1 ?_ | refine a_rng2 ?_ | refine a_bm ?_ | refine a_abs ?_ | refine a_pairs ?_ | refine a_pairs0 ?_ | refine a_bk ?_ | refine a_prp ?_ | refine a_lc ?_ | refine a_yes ?_ | refine a_sl ?_ | refine a_nop ?_ | refine a_prt ?_ | refine a_ex1 ?_ | refine a_for ?_ | refine a_sfor ?_ | refine a_iE1 ?_ | refine a_iEs ?_ | refine a_iEz ?_ | refine a_iEnum ?_ | refine a_iTup ?_ | refine a_iList ?_ | refine a_gcons ?_ | refine a_gnil ?_ | refine a_revT ?_ | refine a_spar3 ?_ | refine a_par3 ?_ | refine a_three ?_)
local macro_rules | `(tactic| walk_at "el2") => `(tactic| first
  | (refine a_var (by rfl) ?_)
  | (refine n_ixL (SqL.of (by assumption)) (by rfl) ?_) | (refine n_ixT (SqT.of (by assumption)) (by rfl) ?_) | (refine n_eq (by rfl) ?_) | (refine n_ne (by rfl) ?_)
  | (refine n_isN ?_) | (refine n_notN ?_) | (refine n_isB ?_) | (refine n_notB ?_) | (refine n_isBI ?_) | (refine n_notBI ?_) | (refine n_len (.inl (SqL.of (by assumption))) ?_) | (refine n_len (.inr (SqT.of (by assumption))) ?_)
  | (refine a_getL (SqL.of (by assumption)) (by rfl) ?_)
  | (refine n_isInt (by assumption) ?_) | (refine n_isBool (by assumption) ?_) | (refine n_isStr (by assumption) ?_) | (refine n_isTup (by assumption) ?_) | (refine n_isLst (by assumption) ?_))
local macro_rules | `(tactic| walk_at "el") => `(tactic| repeat (first | walk_at "el1" | walk_at "el2"))

/-! ### the bag is made; one of a menu -/
def spBag (K : Frag) : Sp := fun vs H Q _ => ∃ (a : Addr) (ns : List Int), vs = [.ref a] ∧ SqL K H a (ns.map V.int) ∧ ∀ b c H', H b = none → H c = none → Bag H' b c → Same H H' → Q (.ref b) H'
def spOne (K : Frag) : Sp := fun vs H Q _ => ∃ (b c m : Addr) (xs : List V), vs = [.ref b, .ref m] ∧ Bag H b c ∧ m ≠ b ∧ SqA K H m xs ∧ 0 < xs.length ∧ xs.length ≤ 1000000000 ∧ ∀ x H', x ∈ xs → Bag H' b c → Kp b H H' → Q x H'
theorem cut_map {α : Type} (f : α → V) (ns : List α) (lo hi : Option Int) : ∃ ms : List α, cutV (ns.map f) lo hi = ms.map f ∧ ms.length ≤ ns.length := by
  unfold cutV
  refine ⟨(ns.drop (HT.sIx (ns.map f).length 0 lo)).take (HT.sIx (ns.map f).length (ns.map f).length hi - HT.sIx (ns.map f).length 0 lo), by rw [List.map_take, List.map_drop], ?_⟩
  rw [List.length_take, List.length_drop]
  omega
theorem atI_mem {xs : List V} {k : Int} {x : V} (h : atI xs k = some x) : x ∈ xs := by
  obtain ⟨j, h1, h2, _⟩ := atI_get h
  exact List.mem_of_getElem? h2
theorem cut_len63 (xs : List V) : (cutV xs none (some 63)).length ≤ 63 := by
  unfold cutV
  rw [List.length_take]
  refine Nat.le_trans (Nat.min_le_left _ _) ?_
  show min (63 : Int).toNat xs.length - 0 ≤ 63
  have q : (63 : Int).toNat = 63 := rfl
  omega
section
variable {P : Program} {w : World} {K : Frag} {mg : Str → Option Value} {base : Heap} {f : Addr} {fd : FuncData}
theorem ok_bag (F : Fun K "_law_bag" "_law_bag" s_bag f fd) (T : Tb mg) : FnOk P w K mg base CX0 1 f fd ["_law_script"] (spBag K) := by
  refine F.ok sc_bag (fun vs H Q E h => ?_) (fun cdv A outer s H vs Q E hr h => ?_)
  · obtain ⟨_, _, rfl, _⟩ := h
    rfl
  · obtain ⟨a, ns, rfl, ha, k⟩ := h
    refine ⟨_, (pss_one (ps_ret (pe_lst (pa_cons pe_int (pa_cons pe_int (pa_cons pe_int (pa_cons (pe_lc (own := [("_law_cell", 1)]) rfl sc_bag.nd (u_iter (pe_slice u_slice (pv 0) po_none (po_some pe_int))) (blkOk_by (own := [("_law_cell", 1)]) (N := N_bag) (sc := defScope s_bag) (by decide +kernel)) (fun _ _ _ _ _ => (pg_name (i := 1) sc_bag.nd rfl (Or.inl rfl))) (fun _ _ _ _ _ => pts_nil) (fun _ _ _ _ _ => (pe_callB call_abs rfl T.b.abs_ (by decide +kernel) (pa_cons (pv 1) pa_nil)))) pa_nil))))))), ?_⟩
    walk_at "el"
    refine a_iSeq (.inl ?_)
    walk_at "el"
    refine .inl ⟨a, _, rfl, ha, fun p hp => ?_⟩
    obtain ⟨ms, em, lm⟩ := cut_map V.int ns none (some 63)
    have l63 := cut_len63 (ns.map V.int)
    rw [em] at l63 ⊢
    rw [List.length_map] at l63
    have s1 := L2.Same.nw (o := .lst (ms.map V.int)) (Same.refl H) hp
    refine ⟨p, rfl, ⟨_, SqL.of upd_same⟩, fun D hD => ?_⟩
    have hDp : D ≠ p := fun z => by subst z; rw [upd_same] at hD; cases hD
    have hD0 : H D = none := s1.free hD
    refine lc_of (walk_list (xs := ms.map V.int)) (fun i H3 => Same H H3 ∧ H3 p = some (.lst (ms.map V.int)) ∧ ∃ cs : List Int, H3 D = some (.lst (cs.map V.int)) ∧ cs.length = i ∧ ∀ x ∈ cs, 0 ≤ x) ⟨s1.nw hD, by rw [upd_ne hDp.symm]; exact upd_same, [], upd_same, rfl, fun _ h => nomatch h⟩ (fun i H3 hi h => SqL.of h.2.1) ?_ ?_
    · rintro i x H3 H4 hi ⟨s3, hp3, cs, hD3, hl, hc⟩ ⟨rfl, hx⟩
      rw [List.length_map] at hi
      rw [List.getElem?_map, List.getElem?_eq_getElem hi] at hx
      cases hx
      walk_at "el"
      refine ⟨rfl, ?_⟩
      walk_at "el"
      refine ⟨_, hD3, by rw [List.length_map, hl]; exact Nat.lt_of_lt_of_le (m := 63) (by omega) (by decide), ?_⟩
      refine ⟨s3.mu hD0, by rw [upd_ne hDp.symm]; exact hp3, cs ++ [if ms[i] < 0 then -ms[i] else ms[i]], by rw [upd_same, List.map_append]; rfl, by rw [List.length_append, hl]; rfl, ?_⟩
      intro x hx
      rcases List.mem_append.mp hx with h | h
      · exact hc x h
      · cases List.mem_singleton.mp h
        split <;> omega
    · rintro H3 ⟨s3, hp3, cs, hD3, hl, hc⟩
      walk_at "el"
      refine ⟨by show 4 ≤ sizeLine; decide, fun b hb => ?_⟩
      have hbD : D ≠ b := fun z => by subst z; rw [hD3] at hb; cases hb
      exact k b D _ (s3.free hb) hD0 ⟨0, 1234567891, 0, cs, upd_same, by rw [upd_ne hbD]; exact hD3, hbD, by decide, by decide, by decide, by decide, hc⟩ (s3.nw hb)
theorem ok_one (F : Fun K "_law_one" "_law_one" s_one f fd) (T : Tb mg) (c_take : Cal P w K mg base CX0 1 "_law_take" ["_law_bag_here", "_law_many"] spTake) : FnOk P w K mg base CX0 2 f fd ["_law_bag_here", "_law_menu"] (spOne K) := by
  refine F.ok sc_one (fun vs H Q E h => ?_) (fun cdv A outer s H vs Q E hr h => ?_)
  · obtain ⟨_, _, _, _, rfl, _⟩ := h
    rfl
  · obtain ⟨b, c, m, xs, rfl, hb, hm, hs, h0, h1, k⟩ := h
    refine ⟨_, (pss_one (ps_ret (pe_ix ix_seq (pv 1) (pe_cal c_take (hr.mono (by decide)) pass0 (pa_cons (pv 0) (pa_cons (pe_callB u_len rfl T.b.len_ boot_len (pa_cons (pv 1) pa_nil)) pa_nil))) (fun _ _ => rfl)))), ?_⟩
    walk_at "el"
    refine n_len hs.len ?_
    walk_at "el"
    refine ⟨b, c, xs.length, rfl, hb, by omega, by omega, fun r H1 r0 r1 hb1 k1 => ?_⟩
    obtain ⟨x, hx⟩ : ∃ x, atI xs r = some x := by
      obtain ⟨n, rfl⟩ : ∃ n : Nat, r = n := ⟨r.toNat, by omega⟩
      have hn : n < xs.length := by omega
      exact ⟨xs[n], atI_nat (List.getElem?_eq_getElem hn)⟩
    have hm1 : SqA K H1 m xs := by
      rcases hs with h | (h | ⟨o, h⟩) | h
      · exact .inl (k1 _ _ hm h)
      · exact .inr (.inl (.inl (k1 _ _ hm h)))
      · exact .inr (.inl (.inr ⟨o, k1 _ _ hm h⟩))
      · exact .inr (.inr h)
    walk_at "el"
    rcases hm1 with h | h
    · refine n_ixL (SqL.of h) hx ?_
      exact k x _ (atI_mem hx) hb1 k1
    · refine n_ixT h hx ?_
      exact k x _ (atI_mem hx) hb1 k1
end
end EL

/- part G -/
namespace EL
open PySem PySem.Spec PyProof.Rows L2
open PySem.W (Frag)
/-! ### Book(..) as a call -/
abbrev psBook : List Str := ["self", "events", "witnesses", "tellings", "gaps", "sure", "clauses"]
structure BookD where
  f : Addr
  fd : FuncData
  d1 : Addr
  d2 : Addr
  d3 : Addr
  d4 : Addr
  ds : List Value
  ds4 : List Value
  ds3 : List Value
structure BookG (P : Program) (w : World) (K : Frag) (mg : Str → Option Value) (base : Heap) (C : Addr) (D : BookD) : Prop where
  made : Mk K C D.f
  fn : FnOk P w K mg base CX0 7 D.f D.fd psBook (spInit K C)
  b6 : L2.Binds K D.fd psBook []
  v2 : Vals [.ref D.d1, .ref D.d2, .ref D.d3, .ref D.d4] D.ds
  b2 : L2.Binds K D.fd psBook D.ds
  v4 : Vals [.ref D.d3, .ref D.d4] D.ds4
  b4 : L2.Binds K D.fd psBook D.ds4
  v3 : Vals [.ref D.d2, .ref D.d3, .ref D.d4] D.ds3
  b3 : L2.Binds K D.fd psBook D.ds3
  dflt : ∀ H, SqT K H D.d1 [] ∧ SqT K H D.d2 [] ∧ SqT K H D.d3 [] ∧ SqT K H D.d4 []
  g : mg "Book" = some (.ref C)
  c : BkC K C
/-- a new book, its parts tuples -/
def NewBook (K : Frag) (C : Addr) (ev wi : Int) (ts gs ss cs : List V) (H1 : Hp) (Q : VK) : Prop :=
  ∀ o dx t g s c H', Same H1 H' → H1 o = none → H' o = some (bookO C dx ev wi t g s c) → SqT K H' t ts → SqT K H' g gs → SqT K H' s ss → SqT K H' c cs → Q (.ref o) H'
theorem made_same {H1 H' : Hp} {x dx C : Addr} (nx : H1 x = none) (nd : H1 dx = none) (k : Kp x (upd (upd H1 dx (.own x)) x (.ins C dx [])) H') : Same H1 H' := fun a o e =>
  k a o (ne_of_none e nx) (by rw [upd_ne (ne_of_none e nx), upd_ne (ne_of_none e nd)]; exact e)
/-- what a making asks -/
def MkB (K : Frag) (C : Addr) (dvs vs : List V) (H1 : Hp) (Q : VK) : Prop := ∀ x dx, H1 x = none → H1 dx = none → dx ≠ x → spInit K C (.ref x :: (vs ++ dvs)) (upd (upd H1 dx (.own x)) x (.ins C dx [])) (fun v H2 => v = .non ∧ Q (.ref x) H2) E0
def tBk (K : Frag) (C : Addr) (dvs : List V) (t : TA) : TE := fun σ H Q => t σ H fun vs H1 => MkB K C dvs vs H1 Q
section
variable {X : Cx} {C : Addr} {D : BookD} {pos p : Pos} {e : Expr} {es : List Expr} {t : TA}
theorem pe_bk2 (B : BookG X.prog X.w X.K X.mg X.base C D) (hr : Room 8 X.A) (hg : Gl X "Book") (ha : PA X (e :: es) t) (he : starEach (e :: es) X.env = (false, eval e X.env) :: starEach es X.env := by rfl) (hpl : (backTo pos (starEach es X.env)).any (·.1) = false := by rfl) :
    PE X (.Call (.Name "Book" p) (e :: es) [] pos) (tBk X.K C [.ref D.d1, .ref D.d2, .ref D.d3, .ref D.d4] t) := pe_make (p := p) (pos := pos) B.made B.fn hr hg B.g B.b2 B.v2 pass0 ha (by decide) he hpl
theorem pe_bk6 (B : BookG X.prog X.w X.K X.mg X.base C D) (hr : Room 8 X.A) (hg : Gl X "Book") (ha : PA X (e :: es) t) (he : starEach (e :: es) X.env = (false, eval e X.env) :: starEach es X.env := by rfl) (hpl : (backTo pos (starEach es X.env)).any (·.1) = false := by rfl) :
    PE X (.Call (.Name "Book" p) (e :: es) [] pos) (tBk X.K C [] t) := pe_make (p := p) (pos := pos) B.made B.fn hr hg B.g B.b6 .nil pass0 ha (by decide) he hpl
theorem pe_bk4 (B : BookG X.prog X.w X.K X.mg X.base C D) (hr : Room 8 X.A) (hg : Gl X "Book") (ha : PA X (e :: es) t) (he : starEach (e :: es) X.env = (false, eval e X.env) :: starEach es X.env := by rfl) (hpl : (backTo pos (starEach es X.env)).any (·.1) = false := by rfl) :
    PE X (.Call (.Name "Book" p) (e :: es) [] pos) (tBk X.K C [.ref D.d3, .ref D.d4] t) := pe_make (p := p) (pos := pos) B.made B.fn hr hg B.g B.b4 B.v4 pass0 ha (by decide) he hpl
theorem pe_bk3 (B : BookG X.prog X.w X.K X.mg X.base C D) (hr : Room 8 X.A) (hg : Gl X "Book") (ha : PA X (e :: es) t) (he : starEach (e :: es) X.env = (false, eval e X.env) :: starEach es X.env := by rfl) (hpl : (backTo pos (starEach es X.env)).any (·.1) = false := by rfl) :
    PE X (.Call (.Name "Book" p) (e :: es) [] pos) (tBk X.K C [.ref D.d2, .ref D.d3, .ref D.d4] t) := pe_make (p := p) (pos := pos) B.made B.fn hr hg B.g B.b3 B.v3 pass0 ha (by decide) he hpl
end
section
variable {K : Frag} {C : Addr} {σ : L2.St} {H : Hp} {Q : VK} {dvs : List V} {t : TA}
theorem a_bk (q : t σ H fun vs H1 => MkB K C dvs vs H1 Q) : tBk K C dvs t σ H Q := q
theorem PartOk.nil {p : Pt} {a : Addr} {ev wi : Int} (h : SqT K H a []) : PartOk K p H a [] ev wi := ⟨.inr h, by decide, fun _ h => nomatch h⟩
theorem new_same {x dx : Addr} (nx : H x = none) (nd : H dx = none) (ne : dx ≠ x) : Same H (upd (upd H dx (.own x)) x (.ins C dx [])) := L2.Same.nw (L2.Same.nw (Same.refl H) nd) (by rw [upd_ne ne.symm]; exact nx)
theorem n_bk6 {ev wi : Int} {t g s c : Addr} {ts gs ss cs : List V} (e0 : 0 ≤ ev) (e8 : ev ≤ 8) (w0 : 0 ≤ wi) (w8 : wi ≤ 8) (ht : PartOk K .tel H t ts ev wi) (hg : PartOk K .gap H g gs ev wi) (hs : PartOk K .sur H s ss ev wi) (hc : PartOk K .cla H c cs ev wi)
    (q : NewBook K C ev wi ts gs ss cs H Q) : MkB K C [] [.int ev, .int wi, .ref t, .ref g, .ref s, .ref c] H Q := fun x dx nx nd ne => by
  have s0 := new_same (C := C) nx nd ne
  exact ⟨x, dx, ev, wi, t, g, s, c, ts, gs, ss, cs, rfl, upd_same, e0, e8, w0, w8, ht.same s0, hg.same s0, hs.same s0, hc.same s0, fun H' t' g' s' c' k ho h1 h2 h3 h4 => ⟨rfl, q x dx t' g' s' c' H' (made_same nx nd k) nx ho h1 h2 h3 h4⟩⟩
theorem n_bk4 {D : BookD} {ev wi : Int} {t g : Addr} {ts gs : List V} (hd : ∀ H, SqT K H D.d1 [] ∧ SqT K H D.d2 [] ∧ SqT K H D.d3 [] ∧ SqT K H D.d4 []) (e0 : 0 ≤ ev) (e8 : ev ≤ 8) (w0 : 0 ≤ wi) (w8 : wi ≤ 8) (ht : PartOk K .tel H t ts ev wi) (hg : PartOk K .gap H g gs ev wi)
    (q : NewBook K C ev wi ts gs [] [] H Q) : MkB K C [.ref D.d3, .ref D.d4] [.int ev, .int wi, .ref t, .ref g] H Q := fun x dx nx nd ne => by
  have s0 := new_same (C := C) nx nd ne
  exact ⟨x, dx, ev, wi, t, g, D.d3, D.d4, ts, gs, [], [], rfl, upd_same, e0, e8, w0, w8, ht.same s0, hg.same s0, .nil (hd _).2.2.1, .nil (hd _).2.2.2,
    fun H' t' g' s' c' k ho h1 h2 h3 h4 => ⟨rfl, q x dx t' g' s' c' H' (made_same nx nd k) nx ho h1 h2 h3 h4⟩⟩
theorem n_bk3 {D : BookD} {ev wi : Int} {t : Addr} {ts : List V} (hd : ∀ H, SqT K H D.d1 [] ∧ SqT K H D.d2 [] ∧ SqT K H D.d3 [] ∧ SqT K H D.d4 []) (e0 : 0 ≤ ev) (e8 : ev ≤ 8) (w0 : 0 ≤ wi) (w8 : wi ≤ 8) (ht : PartOk K .tel H t ts ev wi)
    (q : NewBook K C ev wi ts [] [] [] H Q) : MkB K C [.ref D.d2, .ref D.d3, .ref D.d4] [.int ev, .int wi, .ref t] H Q := fun x dx nx nd ne => by
  have s0 := new_same (C := C) nx nd ne
  exact ⟨x, dx, ev, wi, t, D.d2, D.d3, D.d4, ts, [], [], [], rfl, upd_same, e0, e8, w0, w8, ht.same s0, .nil (hd _).2.1, .nil (hd _).2.2.1, .nil (hd _).2.2.2,
    fun H' t' g' s' c' k ho h1 h2 h3 h4 => ⟨rfl, q x dx t' g' s' c' H' (made_same nx nd k) nx ho h1 h2 h3 h4⟩⟩
theorem n_bk2 {D : BookD} {ev wi : Int} (hd : ∀ H, SqT K H D.d1 [] ∧ SqT K H D.d2 [] ∧ SqT K H D.d3 [] ∧ SqT K H D.d4 []) (e0 : 0 ≤ ev) (e8 : ev ≤ 8) (w0 : 0 ≤ wi) (w8 : wi ≤ 8)
    (q : NewBook K C ev wi [] [] [] [] H Q) : MkB K C [.ref D.d1, .ref D.d2, .ref D.d3, .ref D.d4] [.int ev, .int wi] H Q := fun x dx nx nd ne => by
  exact ⟨x, dx, ev, wi, D.d1, D.d2, D.d3, D.d4, [], [], [], [], rfl, upd_same, e0, e8, w0, w8, .nil (hd _).1, .nil (hd _).2.1, .nil (hd _).2.2.1, .nil (hd _).2.2.2,
    fun H' t' g' s' c' k ho h1 h2 h3 h4 => ⟨rfl, q x dx t' g' s' c' H' (made_same nx nd k) nx ho h1 h2 h3 h4⟩⟩
end
theorem Bag.same {H H' : Hp} {b c : Addr} (h : Bag H b c) (s : Same H H') : Bag H' b c := by
  obtain ⟨i, j, k, cs, h1, h2, r⟩ := h
  exact ⟨i, j, k, cs, s _ _ h1, s _ _ h2, r⟩
theorem Bag.ne {H : Hp} {b c p : Addr} (h : Bag H b c) (hp : H p = none) : p ≠ b := fun z => by
  obtain ⟨i, j, k, cs, h1, _⟩ := h
  subst z
  rw [h1] at hp
  cases hp
theorem Th.kp {K : Frag} {b c : Addr} {H H' : Hp} {x : V} (h : Th K H x) (hb : Bag H b c) (hb' : Bag H' b c) (k : Kp b H H') : Th K H' x := by
  obtain ⟨_, _, _, _, h1, _⟩ := hb
  obtain ⟨_, _, _, _, h2, _⟩ := hb'
  exact h.stay h1 h2 k
theorem all_nil {α : Type} {p : α → Prop} : ∀ x ∈ ([] : List α), p x := fun _ h => nomatch h
theorem all_cons {α : Type} {p : α → Prop} {a : α} {l : List α} (h : p a) (t : ∀ x ∈ l, p x) : ∀ x ∈ a :: l, p x := fun x hx => (List.mem_cons.mp hx).elim (fun e => e ▸ h) (t x)
theorem all_app {α : Type} {p : α → Prop} {l m : List α} (h : ∀ x ∈ l, p x) (t : ∀ x ∈ m, p x) : ∀ x ∈ l ++ m, p x := fun x hx => (List.mem_append.mp hx).elim (h x) (t x)
/-- what is new -/
def Nw (H : Hp) (p : Addr) : Prop := ∀ o, Same H (upd H p o)
theorem nw_of {H : Hp} {p : Addr} (h : H p = none) : Nw H p := fun o => L2.Same.nw (Same.refl H) h
theorem Nw.to {H : Hp} {p a : Addr} {o u : HO} (n : Nw H p) (h : H a = some u) : upd H p o a = some u := n o a u h
theorem Th.kpK {K : Frag} {b c : Addr} {H H' : Hp} {x : V} (k : Kp b H H') (hb' : Bag H' b c) (hb : Bag H b c) (h : Th K H x) : Th K H' x := h.kp hb hb' k
theorem Kp.into {b : Addr} {H H1 H2 : Hp} (q : Kp b H1 H2) (p : Same H H1) : Kp b H H2 := (same_kp p).trans q
theorem eqv_is (r : Int) (s : Str) : PyData.eqv (.tuple [.int r, .str s]) (.tuple [.int r, .str s]) = true := by simp [PyData.eqv, PyData.eqvAll]
theorem shp_is {r : Int} {s : Str} (h : PyData.strOk s = true) : SeqAt.shaped (.tuple [.int r, .str s]) = true := by
  simp [SeqAt.shaped, PyData.canLay0, PyData.canLayAll0, PyData.depth, PyData.depthAll]
  exact h
/-- what a law promises: True for each script -/
def spLaw (K : Frag) : Sp := fun vs H Q _ => ∃ (a : Addr) (ns : List Int), vs = [.ref a] ∧ SqL K H a (ns.map V.int) ∧ ∀ H', Q (.bl true) H'
theorem walk_all {l : PySem.W.OpenLaw} {k : Nat} {q : Program} {loose : List Str} {XP : (Str → Option Value) → Heap → Prop} {YP : World → Heap → Prop} {d : DefRec} {K : Params → Frag} (hn : l.most = some 63) (hdf : d.params.defaults = []) (hr : Room k PySem.callerA)
    (hY : ∀ (w : World) (h : Heap), YP w h → (K w.params).In h)
    (F : ∀ (w : World) (mg : Str → Option Value) (fa : Addr) (h : Heap), (K w.params).In h → h.Ns mainGlobals mg → mg d.name = some (.ref fa) →
      ∃ fd : FuncData, (∀ (s : Shared) (u : Value), BindsTo s fd ⟨[u], []⟩ [("_law_script", u)]) ∧ ∀ base : Heap, (K w.params).In base → base.Ns mainGlobals mg → FnG l.prog w (K w.params) mg base CX0 k fa fd ["_law_script"] (spLaw (K w.params))) :
    PySem.W.WalkO q loose XP YP l.row.toRowW d [] (fun f vs => PySem.call f vs) :=
  walk_law (n := 63) (x := "_law_script") (CX := fun _ => CX0) (sp := fun w => spLaw (K w.params)) hn (by decide) hdf hr hY F (fun _ _ a ns hl _ hS => ⟨a, ns, rfl, hS, fun _ => rfl⟩) fun _ _ _ _ _ z => z
theorem own_kit {K : PySem.W.Frag} {C : Addr} {T : String} (hm : PySem.W.kitMeta T = true) (h : PySem.W.mroIn K C (.type T) = some false) : PySem.W.kitOne K (.ref C) (.type T) = some false := by
  unfold PySem.W.kitOne
  rw [if_neg (by simp)]
  show (if PySem.W.kitMeta T = true then PySem.W.subIn K (.ref C) (.type T) else none) = _
  rw [if_pos hm]
  exact h
/-! ### the properties of a book -/
def spGet (C : Addr) (fld : Str) : Sp := fun vs H Q _ => ∃ (a dx : Addr) (fs : List (Str × V)) (v : V), vs = [.ref a] ∧ H a = some (.ins C dx fs) ∧ fs.lookup fld = some v ∧ Q v H
structure PrpG (P : Program) (w : World) (K : Frag) (mg : Str → Option Value) (base : Heap) (C : Addr) (f fld : Str) : Prop where
  ex : ∃ p g fd, PropOf K C f p g ∧ FnOk P w K mg base CX0 1 g fd ["self"] (spGet C fld) ∧ L2.Binds K fd ["self"] []
  cl : Cls K C
theorem pe_prp {X : Cx} {C : Addr} {f fld : Str} {e : Expr} {ta : TE} {pos : Pos} (G : PrpG X.prog X.w X.K X.mg X.base C f fld) (hr : Room 2 X.A) (ha : PE X e ta) (hab : attributeBase e f X.env (eval e X.env) = eval e X.env := by rfl) :
    PE X (.Attribute e f pos) (tProp C (spGet C fld) [] E0 ta) := by
  obtain ⟨p, g, fd, hp, F, hb⟩ := G.ex
  exact pe_prop ha G.cl hp F hr hb .nil pass0 hab
def PrpR (C : Addr) (fld : Str) (x : V) (H : Hp) (Q : VK) : Prop := ∃ a dx fs, x = V.ref a ∧ H a = some (.ins C dx fs) ∧ spGet C fld (V.ref a :: []) H Q E0
theorem a_prp {C : Addr} {fld : Str} {ta : TE} {σ : L2.St} {H : Hp} {Q : VK} (q : ta σ H fun x H1 => PrpR C fld x H1 Q) : tProp C (spGet C fld) [] E0 ta σ H Q := q
theorem n_prp {C a dx : Addr} {fld : Str} {fs : List (Str × V)} {v : V} {H : Hp} {Q : VK} (h : H a = some (.ins C dx fs)) (hv : fs.lookup fld = some v) (q : Q v H) : PrpR C fld (.ref a) H Q := ⟨a, dx, fs, rfl, h, a, dx, fs, v, rfl, h, hv, q⟩
theorem nn {H : Hp} {a q : Addr} {o : HO} (h : upd H a o q = none) : q ≠ a ∧ H q = none := by
  by_cases e : q = a
  · subst e
    rw [upd_same] at h
    cases h
  · rw [upd_ne e] at h
    exact ⟨e, h⟩
theorem isI_cases {x : V} (h : isI x = true) : (∃ z, x = .int z) ∨ ∃ z, x = .bl z := by
  cases x with
  | int z => exact .inl ⟨z, rfl⟩
  | bl z => exact .inr ⟨z, rfl⟩
  | _ => cases h
theorem shp_ints : ∀ (js : List Int), SeqAt.shaped (.list (js.map PyData.int)) = true := by
  intro js
  simp only [SeqAt.shaped, Bool.and_eq_true, decide_eq_true_iff]
  refine ⟨?_, ?_⟩
  · show PyData.canLayAll0 (js.map PyData.int) = true
    induction js with
    | nil => rfl
    | cons j r ih => simp only [List.map_cons, PyData.canLayAll0, PyData.canLay0, ih, Bool.and_true]
  · have q : PyData.depthAll (js.map PyData.int) ≤ 1 := by
      induction js with
      | nil => decide
      | cons j r ih => simp [PyData.depthAll, PyData.depth]; omega
    simp [PyData.depth]; omega
theorem eqv_nil (ds : List PyData) : PyData.eqv (.list ds) (.list []) = decide (ds = []) := by
  cases ds with
  | nil => simp [PyData.eqv, PyData.eqvAll]
  | cons d r => simp [PyData.eqv, PyData.eqvAll]
theorem dp_ints {K : Frag} {H : Hp} : ∀ (js : List Int), DpAll K H (js.map V.int) (js.map PyData.int)
  | [] => .nil
  | j :: r => .cons (.int j) (dp_ints r)
/-! ### data stays -/
mutual
theorem dp_same {K : Frag} {H H' : Hp} (s : Same H H') : ∀ (d : PyData) (v : V), Dp K H v d → Dp K H' v d
  | .none, _, h => by cases h; exact .non
  | .bool _, _, h => by cases h; exact .bl _
  | .int _, _, h => by cases h; exact .int _
  | .str _, _, h => by cases h; exact .str _
  | .list ds, _, h => by
    cases h with
    | lst a ha => exact .lst (Same.seq s a) (dp_sameAll s ds _ ha)
  | .tuple ds, _, h => by
    cases h with
    | tup a ha => exact .tup (a.same s) (dp_sameAll s ds _ ha)
  | .dict _, _, h => by cases h
theorem dp_sameAll {K : Frag} {H H' : Hp} (s : Same H H') : ∀ (ds : List PyData) (vs : List V), DpAll K H vs ds → DpAll K H' vs ds
  | [], _, h => by cases h; exact .nil
  | d :: ds, _, h => by
    cases h with
    | cons h1 h2 => exact .cons (dp_same s d _ h1) (dp_sameAll s ds _ h2)
end
end EL

/- part XC -/
/-! a caught error that keeps fields: isinstance of it, its fields; the class told by the reading -/
namespace EL
open PySem PySem.Spec PyProof.Rows L2
open PySem.W (Frag)
def rIsX (K : Frag) (a : Addr) (cls : Value) (d : Option Addr) : List V → Hp → VK → Prop := fun xs H Q => ∃ (D : Addr) (c : V) (cv : Value) (b : Bool) (dd : Addr) (fs : List (Str × V)), xs = [.ref a, c] ∧ cls = .ref D ∧ ExcC K D ∧ d = some dd ∧ H dd = some (.xd fs) ∧ (∀ u, RelV c u → u = cv) ∧ PySem.W.kitOne K (.ref D) cv = some b ∧ Q (.bl b) H
theorem call_isX {X : Cx} {a : Addr} {oe : Obj} {cls : Value} {d : Option Addr} {pn : List (Addr × Obj)} (hz : Zc cls d oe) (hf : ∃ vs, oe.data = .fields vs) : CallR (X.suite a ((a, oe) :: pn)) (.builtin "isinstance") (rIsX X.K a cls d) := by
  intro pins s σ H xs us Q I r h
  obtain ⟨D, c, cv, b, dd, fs, rfl, ecl, C, ed, ea, hcv, e, q⟩ := h
  cases r with
  | cons rx rr =>
    cases rr with
    | cons rt rr =>
      cases rr
      cases rx
      have ec := hcv _ rt
      subst ec
      subst ecl
      subst ed
      obtain ⟨hget, _⟩ := I.pin (a, oe) (List.mem_append.mpr (.inl List.mem_cons_self))
      obtain ⟨vs, hv⟩ := hf
      have hx : ObjOk X.prog X.w H s.heap dd (.xd fs) := I.hok dd _ ea
      obtain ⟨mA, hns, hr⟩ := hx
      obtain ⟨od, ho, hl⟩ := lookIn_ns hns
      have J : PySem.W.InstAt s.heap a oe D (some od) := ⟨hget, hz.1, by unfold PySem.W.notCls; rw [hv] <;> rfl, by rw [hz.2]; exact ho⟩
      have hcl : (PySem.W.clsIn X.K D).isSome = true := by
        obtain ⟨cd, hc, _⟩ := PySem.W.any_some C.hd
        rw [hc]; rfl
      exact PySem.W.kia_one (PySem.W.kitx_exc hcl C.hg C.hk C.hs C.ha C.hn C.ht C.hm) I.kIn J e (fun z => nomatch z) fun tk => ⟨.bl b, H, I.kept (t' := tk) fun _ _ z => z, rfl, q⟩
/-- the reading of e.f: a the caught error, cls its class, d its dict -/
def tXfR (K : Frag) (a : Addr) (cls : Value) (d : Option Addr) (f : Str) (te : TE) : TE := fun σ H Q => te σ H fun x H1 => x = .ref a ∧ ∃ (C dd : Addr) (fs : List (Str × V)) (v : V), cls = .ref C ∧ XfC K C ∧ PySem.W.findIn K (.ref C) f = some none ∧ d = some dd ∧ H1 dd = some (.xd fs) ∧ fs.lookup f = some v ∧ Q v H1
theorem pe_xfR {X : Cx} {a : Addr} {oe : Obj} {cls : Value} {d : Option Addr} {pn : List (Addr × Obj)} {e : Expr} {te : TE} {pos : Pos} {n : Str}
    (hz : Zc cls d oe) (hf : ∃ vs, oe.data = .fields vs) (he : PE (X.suite a ((a, oe) :: pn)) e te) (hb : attributeBase e n X.env (eval e X.env) = eval e X.env := by rfl) :
    PE (X.suite a ((a, oe) :: pn)) (.Attribute e n pos) (tXfR X.K a cls d n te) := by
  refine ⟨fun pins s σ H Q I h => ?_⟩
  refine attr_of hb (thn (he.run pins s σ H _ I h) fun u s1 hh => ?_)
  obtain ⟨x, H1, I1, rx, ex, C, dd, fs, v, ec, T, hno, ed, ea, l, q⟩ := hh
  subst ex
  obtain rfl : u = Value.ref a := rx
  subst ec
  subst ed
  obtain ⟨ha, _⟩ := I1.pin (a, oe) (List.mem_append_left _ List.mem_cons_self)
  obtain ⟨vs, hd⟩ := hf
  have hx : ObjOk X.prog X.w H1 s1.heap dd (.xd fs) := I1.hok dd _ ea
  obtain ⟨mA, hns, hr⟩ := hx
  obtain ⟨od, ho, hl⟩ := lookIn_ns hns
  obtain ⟨u, hu, ru⟩ := RelO.some_of (v := v) (o := mA n) (by rw [← l]; exact hr n)
  have J : PySem.W.InstAt s1.heap a oe C (some od) := ⟨ha, hz.1, by unfold PySem.W.notCls; rw [hd] <;> rfl, by rw [hz.2]; exact ho⟩
  exact HandSPX.exc_get I1.kIn J T.ga T.gg T.exC (PySem.W.findObj_own T.hdC hno rfl (by rw [hl, hu])) (handed_of ru) ⟨v, H1, I1.tok _, ru, q⟩
theorem a_xfR {K : Frag} {a : Addr} {cls : Value} {d : Option Addr} {f : Str} {te : TE} {σ : L2.St} {H : Hp} {Q : VK} (q : te σ H fun x H1 => x = .ref a ∧ ∃ (C dd : Addr) (fs : List (Str × V)) (v : V), cls = .ref C ∧ XfC K C ∧ PySem.W.findIn K (.ref C) f = some none ∧ d = some dd ∧ H1 dd = some (.xd fs) ∧ fs.lookup f = some v ∧ Q v H1) : tXfR K a cls d f te σ H Q := q
end EL

/- part XTE -/
/-! try .. except X as n .. else ..: what the clause does with an error, by itself; then the whole -/
namespace EL
open PySem PySem.Spec PyProof.Rows L2
open PySem.W (Frag)
/-- an error is noted, set down, and the clauses look at it -/
abbrev Hears (Y : Cx) (hds : List ExceptHandler) (R : Flow → Shared → Prop) : Value → Shared → Prop := fun x t =>
  wpAny (model Y.prog Y.w) Y.A (noteFrame x Y.env) (fun _ t1 => wpAny (model Y.prog Y.w) Y.A (setFlight x none) (fun _ t2 => wpAny (model Y.prog Y.w) Y.A (handleBy x Y.env hds) R Y.xe t2) Y.xe t1) Y.xe t
section
variable {Y : Cx} {x n : Str} {c : Value} {i : Nat} {body suite orelse : List Stmt} {b1 : Stmt} {p1 p2 p3 : Pos} {tb : WX → TS} {ts : Addr → Value → Option Addr → TS} {u : TS} {Wo : WX} {D : Ends}
/-- an object with fields is none of the frames' -/
theorem no_frame {B h : Heap} {a : Addr} {o : Obj} {vs : Array Value} (hf : Y.env.frame = some Y.env.locals) (ff : h.FunFrames B (Y.env :: Y.outer)) (e : h.get? a = some o) (d : o.data = .fields vs) : a ≠ Y.env.locals ∧ a ∉ Y.fs := by
  have out : a ∉ frs (Y.env :: Y.outer) := by
    intro hm
    obtain ⟨_, o2, e2, nf⟩ := ff.mem hm
    cases e.symm.trans e2
    exact nf _ d
  refine ⟨?_, ?_⟩
  · rintro rfl
    exact out (List.mem_filterMap.mpr ⟨Y.env, List.mem_cons_self, hf⟩)
  · intro hm
    obtain ⟨v, hv, q⟩ := List.mem_filterMap.mp hm
    exact out (List.mem_filterMap.mpr ⟨v, List.mem_cons_of_mem _ hv, q⟩)
theorem takes_clause (ok : Y.Ok) (pins : List (Addr × Obj)) (hs : Y.stack = Y.env :: Y.outer) (hf : Y.env.frame = some Y.env.locals) (hN : Y.N.Nodup) (hi : Y.N[i]? = some n) (hl : Y.env.kindOf n = some .local) (hc : Names Y x c) (tk : Takes Y Wo)
    (su : ∀ (a : Addr) (oe : Obj) (cls : Value) (d : Option Addr) (pn : List (Addr × Obj)), Zc cls d oe → (∃ vs, oe.data = .fields vs) → PSs (Y.suite a ((a, oe) :: pn)) (b1 :: suite) (ts a cls d)) :
    Takes (Y.tr (Y.pn ++ pins) (Hears Y [.ExceptHandler (some (.Name x p1)) (some n) (b1 :: suite) p2] (SP Y pins D))) (wAs Y.K c i ts Wo D) := by
  rintro _ s1 ⟨a, B, s0, ps, σ1, H1, cls, d, rfl, J0, onB, slots, sky, na, eos, bare, b, eb, yes, no⟩
  have J := J0.ofTry ok
  have frame : Y.A.frames = some (Y.env :: Y.outer) := ok.frames.trans (congrArg some hs)
  have air : Sky B (Y.env :: Y.outer) a (Zc cls d) Y.env.locals s1.heap := hs ▸ sky
  refine Sky.land Zc.steady frame hf air fun h1 f1 u1 => ?_
  obtain ⟨o1, v1, g1, z1, d1⟩ := f1.there
  obtain ⟨nL, nF⟩ := no_frame hf f1.2.2.1 g1 d1
  have stand : Inv Y pins σ1 H1 { s1 with heap := h1 } := J.landed onB f1.1 (slots.trans u1) eos bare
  have S1 := stand.suite g1 d1 na nL nF
  refine wpAny_handleBy_cons (codeAny_handlers_test ?_) (fun q => nomatch q)
  have look : PySem.W.Looks (model Y.prog Y.w) h1 (typeOf (.ref a)) cls := fun _ _ _ _ k q => wpAny_typeOf_ref (k _ _ g1) (by rw [z1.1]; exact q)
  have match_ := PySem.W.exm_one (M := model Y.prog Y.w) stand.kIn look eb
  have named : ∀ {Q E : Value → Shared → Prop}, Q c { s1 with heap := h1 } → wpAny (model Y.prog Y.w) (Y.A.mark (some (.ref a))) (eval (.Name x p1) Y.env) Q E { s1 with heap := h1 } := by
    intro Q E q
    rcases hc with ⟨gl, nd, own | ⟨own, bo, ne⟩⟩
    · exact ld_glob (X := Y.suite a ((a, o1) :: (Y.pn ++ pins))) S1 gl own q nd
    · exact ld_blt (X := Y.suite a ((a, o1) :: (Y.pn ++ pins))) S1 gl own bo q ne nd
  refine named (match_.here ?_)
  cases b
  · -- not this class: the error goes on
    show wpAny _ Y.A (handleBy (.ref a) Y.env []) _ _ _
    refine wpAny_handleBy_nil ?_
    obtain ⟨_, _, _, _, _, T, _, _, e1, _, e2, e3, _⟩ := id f1
    have last : wpAny (model Y.prog Y.w) Y.A (setFlight (.ref a) Y.env.frame) (fun _ t => wpAny (model Y.prog Y.w) Y.A (throw (.ref a) : Sem Flow) (SP Y pins D) Y.xe t) Y.xe { s1 with heap := h1 } := by
      rw [hf]
      refine HandSPX.setFlight_upZ f1 fun h2 f2 u2 => wpAny_throw (tk _ _ ⟨a, B, s0, pins, σ1, H1, cls, d, rfl, J, onB, (slots.trans u1).trans u2, .inr (.inr (hs ▸ f2)), na, eos, bare, no rfl⟩)
    unfold PySem.passOn
    refine wpAny_bind (wpAny_field e1 e2 e3 ?_)
    rw [if_neg (by simp)]
    first
      | exact wpAny_bind last
      | exact wpAny_bind (wpAny_pure (wpAny_bind last))
  · -- this class: the suite
    refine codeAny_handlers_suite_as (HandSPX.lands_againZ f1 fun h2 f2 u2 => ?_)
    obtain ⟨o2, v2, g2, z2, d2⟩ := f2.there
    have stand2 : Inv Y pins σ1 H1 { s1 with heap := h2 } := J.landed onB f2.1 ((slots.trans u1).trans u2) eos bare
    have S2 := stand2.suite g2 d2 na nL nF
    refine store_ok (X := Y.suite a ((a, o2) :: (Y.pn ++ pins))) (v := .ref a) S2 hN hi (.inl hl) rfl (fun s3 S3 => ?_) (.inr hl)
    refine wpAny_mono ((su a o2 cls d (Y.pn ++ pins) z2 ⟨_, d2⟩).run [] s3 _ H1 _ S3 (yes rfl a na)) (fun f s4 hf4 => ?_) (fun _ _ z => z.elim)
    cases f with
    | ret v =>
      obtain ⟨w4, σ4, H4, S4, r4, q4⟩ := hf4
      exact gone_ok (S4.unsuite ok) hN hi hl fun s5 J5 => ⟨_, _, _, J5, r4, q4⟩
    | _ =>
      obtain ⟨σ4, H4, S4, q4⟩ := hf4
      exact gone_ok (S4.unsuite ok) hN hi hl fun s5 J5 => ⟨_, _, J5, q4⟩
/-- the whole statement with its else -/
theorem ps_try_asE (ho : PSs Y orelse u) (hs : Y.stack = Y.env :: Y.outer) (hf : Y.env.frame = some Y.env.locals) (hN : Y.N.Nodup) (hi : Y.N[i]? = some n) (hl : Y.env.kindOf n = some .local) (hc : Names Y x c) (tk : Takes Y Wo)
    (hb : ∀ (W : WX) (pn : List (Addr × Obj)) (xe : Value → Shared → Prop), Takes (Y.tr pn xe) W → PassesOwn (model Y.prog Y.w) Y.A Y.env xe → PSs (Y.tr pn xe) body (tb W))
    (su : ∀ (a : Addr) (oe : Obj) (cls : Value) (d : Option Addr) (pn : List (Addr × Obj)), Zc cls d oe → (∃ vs, oe.data = .fields vs) → PSs (Y.suite a ((a, oe) :: pn)) (b1 :: suite) (ts a cls d)) :
    PS Y (.Try body [.ExceptHandler (some (.Name x p1)) (some n) (b1 :: suite) p2] orelse [] p3) (fun D σ H => tb (wAs Y.K c i ts Wo D) { D with nx := u D } σ H) := by
  refine ⟨fun pins s σ H D I h => wpAny_Try_except (wpAny_mono ((hb _ _ _ (takes_clause (D := D) I.ok pins hs hf hN hi hl hc tk su) PassesOwn.looking).run [] s σ H { D with nx := u D } (I.toTry _) h) (fun f s1 hf1 => ?_) fun _ _ z => z)⟩
  cases f with
  | next =>
    obtain ⟨σ1, H1, J, q⟩ := hf1
    exact ho.run pins s1 σ1 H1 D (J.ofTry I.ok) q
  | ret v =>
    obtain ⟨w1, σ1, H1, J, r, q⟩ := hf1
    exact ⟨w1, σ1, H1, J.ofTry I.ok, r, q⟩
  | _ =>
    obtain ⟨σ1, H1, J, q⟩ := hf1
    exact ⟨σ1, H1, J.ofTry I.ok, q⟩
end
end EL

/- part EV -/
/-! an own error with an own __init__, made as a value: it lies on the heap with its fields -/
namespace EL
open PySem PySem.Spec PyProof.Rows L2
open PySem.W (Frag)
def tVlO (C : Addr) (sp : Sp) (dvs : List V) (ta : TA) : TE := fun σ H Q => ta σ H fun vs H1 => vs.length ≤ 1000 ∧ ∀ a : Addr, H1 a = none → sp (.ref a :: (vs ++ dvs)) (upd H1 a (exo a C none)) (fun v H2 => v = .non ∧ Q (.ref a) H2) fun _ _ _ => False
theorem pe_oex {X : Cx} {e : Expr} {es : List Expr} {ta : TA} {p pos : Pos} {CX : CXT} {x : Str} {C fI : Addr} {k : Nat} {fd : FuncData} {ps : List Str} {sp : Sp} {ds : List Value} {dvs : List V}
    (T : OexC X.K C) (iC : PySem.W.findIn X.K (.ref C) "__init__" = some (some (.ref fI))) (tI : PySem.W.typeIn X.K (.ref fI) = some (.type "function")) (F1 : FnOk X.prog X.w X.K X.mg X.base CX k fI fd ps sp) (hr : Room (k + 1) X.A)
    (hb : L2.Binds X.K fd ps ds) (hd : Vals dvs ds) (hx : Passes CX X fun _ _ _ => False) (hg : Gl X x) (hm : X.mg x = some (.ref C)) (ha : PA X (e :: es) ta) (hdb : (x == ("__debug__" : Str)) = false := by decide)
    (he : starEach (e :: es) X.env = (false, eval e X.env) :: starEach es X.env := by rfl) (hpl : (backTo pos (starEach es X.env)).any (·.1) = false := by rfl) :
    PE X (.Call (.Name x p) (e :: es) [] pos) (tVlO C sp dvs ta) := by
  refine ⟨fun pins s σ H Q I h => ?_⟩
  obtain ⟨nm, q, N, bs, bm, sn, sub, ab, col, dd, k0, k1, k2, k3, k5, hC, hbm⟩ := T.cls
  refine wpAny_Call_Name_kw (ld_glob I hg hm (PySem.W.callWith_K I.ok.mod.kin T.kC (thn (ha.run pos pins s σ H _ I h) fun us s1 hh => ?_) he hpl) hdb)
  obtain ⟨vs, H1, I1, r1, hz, q1⟩ := hh
  refine ⟨I1.kIn, ?_⟩
  obtain ⟨hp, g, dr, tk, os⟩ := s1
  have hsz := Nat.le_succ hp.objs.size
  have hn := HOk.fresh I1.hok hsz
  have hq := q1 (hp.objs.size + 1) hn
  have kk : ∀ b o, hp.get? b = some o → ((hp.push (PySem.W.kdv_tup us)).push (HandSPX.excO C hp.objs.size)).get? b = some o := fun b o e => Heap.get?_push_of_some _ (Heap.get?_push_of_some _ e)
  have hget : ((hp.push (PySem.W.kdv_tup us)).push (HandSPX.excO C hp.objs.size)).get? (hp.objs.size + 1) = some (HandSPX.excO C hp.objs.size) := Heap.get?_push_at (by rw [Heap.size_push]) rfl
  have I2 : Inv X pins σ (upd H1 (hp.objs.size + 1) (exo (hp.objs.size + 1) C none)) ⟨(hp.push (PySem.W.kdv_tup us)).push (HandSPX.excO C hp.objs.size), g, dr, tk, os⟩ := I1.laid kk hsz (exo_ok hget)
  have r2 : Vals (.ref (hp.objs.size + 1) :: (vs ++ dvs)) (.ref (hp.objs.size + 1) :: (us ++ ds)) := .cons rfl (Vals.append r1 hd)
  have hl : (Value.ref (hp.objs.size + 1) :: (us ++ ds)).length = ps.length := r2.length.symm.trans (F1.len _ _ _ _ hq)
  have hus : us.length ≤ sizeLine := by
    have := r1.length
    rw [← this]
    exact Nat.le_trans hz (by decide)
  refine wpAny_call (HandSPX.call_own F.excBase_ValueError (fun Y => HandSPX.refsVE_contains Y bm hbm) (I1.kIn C _ hC) (PySem.W.looks_findIn I1.kIn iC) (fun self => PySem.W.bind_fn I1.kIn self tI) hus
    (codeAny_mono (F1.run (X.A.under (Code.builtin "type.__call__" { pos := Value.ref C :: us })) X.stack _ (upd H1 (hp.objs.size + 1) (exo (hp.objs.size + 1) C none)) { pos := Value.ref (hp.objs.size + 1) :: us } (Value.ref (hp.objs.size + 1) :: (us ++ ds)) (V.ref (hp.objs.size + 1) :: (vs ++ dvs)) _ _ (Room.make hr C us []) (Env0.make I2.env0 C us []) (hb _ (Value.ref (hp.objs.size + 1) :: us) I2.kIn hl) r2 hq) fun r s' hq' => ?_))
  rcases r with er | fl
  · exact hx pins σ _ _ er s' I2 hq'
  · cases fl with
    | next => exact False.elim hq'
    | brk => exact False.elim hq'
    | cont => exact False.elim hq'
    | ret u =>
      obtain ⟨v, H2, J, rv, ev, q2⟩ := I2.after hq'
      subst ev
      exact ⟨rv, .ref (hp.objs.size + 1), H2, J, rfl, q2⟩
/-- an error that was raised and caught, kept as a value: its other fields are not told -/
def exr (a C : Addr) (d : Option Addr) : HO := .ext fun h => ∃ oe vs, h.get? a = some oe ∧ Zc (.ref C) d oe ∧ oe.data = .fields vs
/-- an error on the heap: made, or caught -/
def ErrAt (H : Hp) (a C dx : Addr) (fs : List (Str × V)) : Prop := (H a = some (exo a C (some dx)) ∨ H a = some (exr a C (some dx))) ∧ (H dx = some (exd dx fs) ∨ H dx = some (.xd fs))
theorem ErrAt.inst {P : Program} {w : World} {H : Hp} {h : Heap} {a C dx : Addr} {fs : List (Str × V)} (e : ErrAt H a C dx fs) (ok : HOk P w H h) : ∃ oe, h.get? a = some oe ∧ oe.cls = .ref C ∧ oe.dict = some dx ∧ ∃ vs, oe.data = .fields vs := by
  rcases e.1 with ea | ea
  · obtain ⟨⟨t1, ha⟩, _⟩ := ok a _ ea
    exact ⟨_, ha, rfl, rfl, _, rfl⟩
  · obtain ⟨⟨oe, vs, ha, hz, hd⟩, _⟩ := ok a _ ea
    exact ⟨oe, ha, hz.1, hz.2, vs, hd⟩
theorem ErrAt.dict {P : Program} {w : World} {H : Hp} {h : Heap} {a C dx : Addr} {fs : List (Str × V)} (e : ErrAt H a C dx fs) (ok : HOk P w H h) : ∃ mA, h.Ns1 dx mA ∧ ∀ f : Str, RelO (fs.lookup f) (mA f) := by
  rcases e.2 with ed | ed
  · exact (ok dx _ ed).1
  · exact ok dx _ ed
/-- the reading of e.f: e an error that lies on the heap -/
def tXo (K : Frag) (f : Str) (te : TE) : TE := fun σ H Q => te σ H fun x H1 => ∃ (a C dx : Addr) (fs : List (Str × V)) (v : V), x = .ref a ∧ ErrAt H1 a C dx fs ∧ XfC K C ∧ PySem.W.findIn K (.ref C) f = some none ∧ fs.lookup f = some v ∧ Q v H1
theorem pe_xo {X : Cx} {e : Expr} {te : TE} {pos : Pos} {n : Str} (he : PE X e te) (hb : attributeBase e n X.env (eval e X.env) = eval e X.env := by rfl) : PE X (.Attribute e n pos) (tXo X.K n te) := by
  refine ⟨fun pins s σ H Q I h => ?_⟩
  refine attr_of hb (thn (he.run pins s σ H _ I h) fun u s1 hh => ?_)
  obtain ⟨x, H1, I1, rx, a, C, dx, fs, v, ex, ea, T, hno, l, q⟩ := hh
  subst ex
  obtain rfl : u = Value.ref a := rx
  obtain ⟨oe, ha, hc, hdt, vs, hd⟩ := ea.inst I1.hok
  obtain ⟨mA, hns, hr⟩ := ea.dict I1.hok
  obtain ⟨od, ho, hl⟩ := lookIn_ns hns
  obtain ⟨u, hu, ru⟩ := RelO.some_of (v := v) (o := mA n) (by rw [← l]; exact hr n)
  have J : PySem.W.InstAt s1.heap a oe C (some od) := ⟨ha, hc, by unfold PySem.W.notCls; rw [hd] <;> rfl, by rw [hdt]; exact ho⟩
  exact HandSPX.exc_get I1.kIn J T.ga T.gg T.exC (PySem.W.findObj_own T.hdC hno rfl (by rw [hl, hu])) (handed_of ru) ⟨v, H1, I1.tok _, ru, q⟩
def rIsO (K : Frag) : List V → Hp → VK → Prop := fun xs H Q => ∃ (a D dx : Addr) (c : V) (cv : Value) (b : Bool) (fs : List (Str × V)), xs = [.ref a, c] ∧ ErrAt H a D dx fs ∧ ExcC K D ∧ (∀ u, RelV c u → u = cv) ∧ PySem.W.kitOne K (.ref D) cv = some b ∧ Q (.bl b) H
theorem call_isO {X : Cx} : CallR X (.builtin "isinstance") (rIsO X.K) := by
  intro pins s σ H xs us Q I r h
  obtain ⟨a, D, dx, c, cv, b, fs, rfl, ea, C, hcv, e, q⟩ := h
  cases r with
  | cons rx rr =>
    cases rr with
    | cons rt rr =>
      cases rr
      cases rx
      have ec := hcv _ rt
      subst ec
      obtain ⟨oe, hget, hc, hdt, vs, hd⟩ := ea.inst I.hok
      obtain ⟨mA, hns, hr⟩ := ea.dict I.hok
      obtain ⟨od, ho, hl⟩ := lookIn_ns hns
      have J : PySem.W.InstAt s.heap a oe D (some od) := ⟨hget, hc, by unfold PySem.W.notCls; rw [hd] <;> rfl, by rw [hdt]; exact ho⟩
      have hcl : (PySem.W.clsIn X.K D).isSome = true := by
        obtain ⟨cd, hc, _⟩ := PySem.W.any_some C.hd
        rw [hc]; rfl
      exact PySem.W.kia_one (PySem.W.kitx_exc hcl C.hg C.hk C.hs C.ha C.hn C.ht C.hm) I.kIn J e (fun z => nomatch z) fun tk => ⟨.bl b, H, I.kept (t' := tk) fun _ _ z => z, rfl, q⟩
/-- an object that stands there comes to be known -/
theorem inv_know {X : Cx} {pins : List (Addr × Obj)} {σ : L2.St} {H : Hp} {s : Shared} {a : Addr} {o : HO} (I : Inv X pins σ H s) (hn : H a = none) (h0 : X.s_0.heap.get? a = none) (nl : a ≠ X.env.locals) (nc : ∀ (x : Str) (c : Addr), X.env.cells.lookup x = some c → c ≠ a)
    (np : ∀ p ∈ X.pn ++ pins, p.fst ≠ a) (hok : HOk X.prog X.w (upd H a o) s.heap) : Inv X pins σ (upd H a o) s := by
  obtain ⟨ok, os, bare, base, loc, cell, free, freeC, pin, hk, len⟩ := I
  obtain ⟨u1, u2, u3, u4, u5, u6, u7⟩ := base
  refine ⟨ok, os, bare, ⟨u1, u2, fun b q e z x => ?_, u4, fun b xs e => ?_, fun b q u e => ?_, fun b ps e => ?_⟩, loc, cell, by rw [upd_ne nl.symm]; exact free, fun x c e => by rw [upd_ne (nc x c e)]; exact freeC x c e, fun p hp => ?_, hok, len⟩
  · have ne : b ≠ a := fun z => by rw [z, h0] at e; cases e
    rw [upd_ne ne]
    exact u3 b q e z x
  · have := u5 b xs e
    have ne : b ≠ a := fun z => by rw [z, hn] at this; cases this
    rw [upd_ne ne]; exact this
  · have := u6 b q u e
    have ne : b ≠ a := fun z => by rw [z, hn] at this; cases this
    rw [upd_ne ne]; exact this
  · obtain ⟨more, this⟩ := u7 b ps e
    have ne : b ≠ a := fun z => by rw [z, hn] at this; cases this
    exact ⟨more, by rw [upd_ne ne]; exact this⟩
  · obtain ⟨p1, p2, p3⟩ := pin p hp
    exact ⟨p1, by rw [upd_ne (np p hp)]; exact p2, p3⟩
end EL

/- part EVR -/
/-! try: .. except X as e: return e -/
namespace EL
open PySem PySem.Spec PyProof.Rows L2
open PySem.W (Frag)
theorem hok_know {P : Program} {w : World} {H : Hp} {h : Heap} {a : Addr} {o : HO} (k : HOk P w H h) (hn : H a = none) (ho : ObjOk P w (upd H a o) h a o) : HOk P w (upd H a o) h := fun b x hb => by
  by_cases e : b = a
  · subst e
    rw [upd_same] at hb
    cases hb
    exact ho
  · rw [upd_ne e] at hb
    have ne : ∀ {c : Addr} {u : HO}, H c = some u → c ≠ a := fun hc z => by rw [z, hn] at hc; cases hc
    exact (k b x hb).stay (fun _ _ _ q => q) (fun c hc => by rw [upd_ne (ne hc)]; exact hc) (fun c xs hc => by rw [upd_ne (ne hc)]; exact hc)
/-- what becomes of an error: it is given back -/
def wRet (K : Frag) (c : Value) (Wo : WX) (D : Ends) : WX := fun cls d σ H => ∃ b, PySem.W.exmOne K cls c = some b ∧ (b = true → ∀ a, H a = none → ∃ C, cls = .ref C ∧ D.rt (.ref a) (upd H a (exr a C d))) ∧ (b = false → Wo cls d σ H)
section
variable {Y : Cx} {x n : Str} {c : Value} {i : Nat} {body suite : List Stmt} {b1 : Stmt} {p1 p2 p3 : Pos} {tb : WX → TS} {Wo : WX} {D : Ends}
theorem takes_ret (ok : Y.Ok) (pins : List (Addr × Obj)) (hex : Y.ex = []) (hs : Y.stack = Y.env :: Y.outer) (hf : Y.env.frame = some Y.env.locals) (hN : Y.N.Nodup) (hi : Y.N[i]? = some n) (hl : Y.env.kindOf n = some .local) (hc : Names Y x c) (tk : Takes Y Wo)
    (su : ∀ (a : Addr) (oe : Obj) (cls : Value) (d : Option Addr) (pn : List (Addr × Obj)), Zc cls d oe → (∃ vs, oe.data = .fields vs) → PSs (Y.suite a ((a, oe) :: pn)) (b1 :: suite) (tRet (tVar i))) :
    Takes (Y.tr (Y.pn ++ pins) (Hears Y [.ExceptHandler (some (.Name x p1)) (some n) (b1 :: suite) p2] (SP Y pins D))) (wRet Y.K c Wo D) := by
  rintro _ s1 ⟨a, B, s0, ps, σ1, H1, cls, d, rfl, J0, onB, slots, sky, na, eos, bare, b, eb, yes, no⟩
  have J := J0.ofTry ok
  have frame : Y.A.frames = some (Y.env :: Y.outer) := ok.frames.trans (congrArg some hs)
  have air : Sky B (Y.env :: Y.outer) a (Zc cls d) Y.env.locals s1.heap := hs ▸ sky
  refine Sky.land Zc.steady frame hf air fun h1 f1 u1 => ?_
  obtain ⟨o1, v1, g1, z1, d1⟩ := f1.there
  obtain ⟨nL, nF⟩ := no_frame hf f1.2.2.1 g1 d1
  have stand : Inv Y pins σ1 H1 { s1 with heap := h1 } := J.landed onB f1.1 (slots.trans u1) eos bare
  have S1 := stand.suite g1 d1 na nL nF
  refine wpAny_handleBy_cons (codeAny_handlers_test ?_) (fun q => nomatch q)
  have look : PySem.W.Looks (model Y.prog Y.w) h1 (typeOf (.ref a)) cls := fun _ _ _ _ k q => wpAny_typeOf_ref (k _ _ g1) (by rw [z1.1]; exact q)
  have match_ := PySem.W.exm_one (M := model Y.prog Y.w) stand.kIn look eb
  have named : ∀ {Q E : Value → Shared → Prop}, Q c { s1 with heap := h1 } → wpAny (model Y.prog Y.w) (Y.A.mark (some (.ref a))) (eval (.Name x p1) Y.env) Q E { s1 with heap := h1 } := by
    intro Q E q
    rcases hc with ⟨gl, nd, own | ⟨own, bo, ne⟩⟩
    · exact ld_glob (X := Y.suite a ((a, o1) :: (Y.pn ++ pins))) S1 gl own q nd
    · exact ld_blt (X := Y.suite a ((a, o1) :: (Y.pn ++ pins))) S1 gl own bo q ne nd
  refine named (match_.here ?_)
  cases b
  · show wpAny _ Y.A (handleBy (.ref a) Y.env []) _ _ _
    refine wpAny_handleBy_nil ?_
    obtain ⟨_, _, _, _, _, T, _, _, e1, _, e2, e3, _⟩ := id f1
    have last : wpAny (model Y.prog Y.w) Y.A (setFlight (.ref a) Y.env.frame) (fun _ t => wpAny (model Y.prog Y.w) Y.A (throw (.ref a) : Sem Flow) (SP Y pins D) Y.xe t) Y.xe { s1 with heap := h1 } := by
      rw [hf]
      refine HandSPX.setFlight_upZ f1 fun h2 f2 u2 => wpAny_throw (tk _ _ ⟨a, B, s0, pins, σ1, H1, cls, d, rfl, J, onB, (slots.trans u1).trans u2, .inr (.inr (hs ▸ f2)), na, eos, bare, no rfl⟩)
    unfold PySem.passOn
    refine wpAny_bind (wpAny_field e1 e2 e3 ?_)
    rw [if_neg (by simp)]
    first
      | exact wpAny_bind last
      | exact wpAny_bind (wpAny_pure (wpAny_bind last))
  · refine codeAny_handlers_suite_as (HandSPX.lands_againZ f1 fun h2 f2 u2 => ?_)
    obtain ⟨o2, v2, g2, z2, d2⟩ := f2.there
    have stand2 : Inv Y pins σ1 H1 { s1 with heap := h2 } := J.landed onB f2.1 ((slots.trans u1).trans u2) eos bare
    have S2 := stand2.suite g2 d2 na nL nF
    have bN : B.get? a = none := f2.2.1
    have aF : a ∉ frs Y.stack := by
      rw [hs]
      intro hm
      obtain ⟨v, hv, q⟩ := List.mem_filterMap.mp hm
      cases hv with
      | head => exact nL (Option.some.inj (q.symm.trans hf))
      | tail _ z => exact nF (List.mem_filterMap.mpr ⟨v, z, q⟩)
    have n0 : Y.s_0.heap.get? a = none := by
      cases e : Y.s_0.heap.get? a with
      | none => rfl
      | some o =>
        obtain ⟨o', e'⟩ := J.base.there a o e (by rw [hex]; simp)
        have := onB a o' e' aF
        rw [bN] at this
        cases this
    have nP : ∀ p ∈ Y.pn ++ pins, p.fst ≠ a := fun p hp z => by
      obtain ⟨q1, q2, q3, q4, q5⟩ := J.pin p hp
      have : p.fst ∉ frs Y.stack := by rw [z]; exact aF
      have := onB _ _ q1 this
      rw [z, bN] at this
      cases this
    have li : (σ1.set i (some (.ref a)))[i]? = some (some (.ref a)) := by
      rw [List.getElem?_set_self]
      rw [J.len]
      exact (List.getElem?_eq_some_iff.mp hi).1
    obtain ⟨C, ecl, qk⟩ := yes rfl a na
    refine store_ok (X := Y.suite a ((a, o2) :: (Y.pn ++ pins))) (v := .ref a) S2 hN hi (.inl hl) rfl (fun s3 S3 => ?_) (.inr hl)
    refine wpAny_mono ((su a o2 cls d (Y.pn ++ pins) z2 ⟨_, d2⟩).run [] s3 _ H1 { nx := fun _ _ => False, rt := fun v H' => v = .ref a ∧ H' = H1, bk := fun _ _ => False, ct := fun _ _ => False } S3 ⟨_, li, rfl, rfl⟩) (fun f s4 hf4 => ?_) (fun _ _ z => z.elim)
    cases f with
    | ret v =>
      obtain ⟨w4, σ4, H4, S4, r4, rfl, rfl⟩ := hf4
      obtain rfl : v = Value.ref a := r4
      obtain ⟨g4, _⟩ := S4.pin (a, o2) (List.mem_append.mpr (.inl List.mem_cons_self))
      have J4 := S4.unsuite ok
      have nC : ∀ (x : Str) (c : Addr), Y.env.cells.lookup x = some c → c ≠ a := fun x c e z => by
        obtain ⟨v, o', e1, e2⟩ := J4.cell x c e
        have g4' : s4.heap.get? a = some o2 := g4
        rw [z, g4'] at e1
        have eo : o' = o2 := (Option.some.inj e1).symm
        rw [eo, d2] at e2
        cases e2
      have hx : ObjOk Y.prog Y.w (upd H4 a (exr a C d)) s4.heap a (exr a C d) := ⟨⟨o2, v2, g4, ecl ▸ z2, d2⟩, ⟨_, g4⟩, fun h1 h2 ⟨oe, vs, e1, e2, e3⟩ up => ⟨oe, vs, up _ e1, e2, e3⟩⟩
      exact gone_ok (inv_know J4 na n0 nL nC nP (hok_know J4.hok na hx)) hN hi hl fun s5 J5 => ⟨.ref a, _, _, J5, rfl, qk⟩
    | _ =>
      obtain ⟨σ4, H4, S4, q4⟩ := hf4
      exact q4.elim
/-- the whole statement -/
theorem ps_try_ret (hex : Y.ex = []) (hs : Y.stack = Y.env :: Y.outer) (hf : Y.env.frame = some Y.env.locals) (hN : Y.N.Nodup) (hi : Y.N[i]? = some n) (hl : Y.env.kindOf n = some .local) (hc : Names Y x c) (tk : Takes Y Wo)
    (hb : ∀ (W : WX) (pn : List (Addr × Obj)) (xe : Value → Shared → Prop), Takes (Y.tr pn xe) W → PassesOwn (model Y.prog Y.w) Y.A Y.env xe → PSs (Y.tr pn xe) body (tb W))
    (su : ∀ (a : Addr) (oe : Obj) (cls : Value) (d : Option Addr) (pn : List (Addr × Obj)), Zc cls d oe → (∃ vs, oe.data = .fields vs) → PSs (Y.suite a ((a, oe) :: pn)) (b1 :: suite) (tRet (tVar i))) :
    PS Y (.Try body [.ExceptHandler (some (.Name x p1)) (some n) (b1 :: suite) p2] [] [] p3) (fun D σ H => tb (wRet Y.K c Wo D) D σ H) := by
  refine ⟨fun pins s σ H D I h => wpAny_Try_except (wpAny_mono ((hb _ _ _ (takes_ret (D := D) I.ok pins hex hs hf hN hi hl hc tk su) PassesOwn.looking).run [] s σ H D (I.toTry _) h) (fun f s1 hf1 => ?_) fun _ _ z => z)⟩
  cases f with
  | next =>
    obtain ⟨σ1, H1, J, q⟩ := hf1
    exact pss_nil.run pins s1 σ1 H1 D (J.ofTry I.ok) q
  | ret v =>
    obtain ⟨w1, σ1, H1, J, r, q⟩ := hf1
    exact ⟨w1, σ1, H1, J.ofTry I.ok, r, q⟩
  | _ =>
    obtain ⟨σ1, H1, J, q⟩ := hf1
    exact ⟨σ1, H1, J.ofTry I.ok, q⟩
end
end EL

/- part EVS -/
/-! an own error whose __init__ has *values (or any promise over bare arguments), made as a value -/
namespace EL
open PySem PySem.Spec PyProof.Rows L2
open PySem.W (Frag)
theorem pe_oexR {X : Cx} {e : Expr} {es : List Expr} {ta : TA} {p pos : Pos} {CX : CXT} {x : Str} {C fI : Addr} {k : Nat} {sp : Sp}
    (T : OexC X.K C) (iC : PySem.W.findIn X.K (.ref C) "__init__" = some (some (.ref fI))) (tI : PySem.W.typeIn X.K (.ref fI) = some (.type "function")) (F1 : FnR X.prog X.w X.K X.mg X.base CX k fI sp) (hr : Room (k + 1) X.A)
    (hx : Passes CX X fun _ _ _ => False) (hg : Gl X x) (hm : X.mg x = some (.ref C)) (ha : PA X (e :: es) ta) (hdb : (x == ("__debug__" : Str)) = false := by decide)
    (he : starEach (e :: es) X.env = (false, eval e X.env) :: starEach es X.env := by rfl) (hpl : (backTo pos (starEach es X.env)).any (·.1) = false := by rfl) :
    PE X (.Call (.Name x p) (e :: es) [] pos) (tVlO C sp [] ta) := by
  refine ⟨fun pins s σ H Q I h => ?_⟩
  obtain ⟨nm, q, N, bs, bm, sn, sub, ab, col, dd, k0, k1, k2, k3, k5, hC, hbm⟩ := T.cls
  refine wpAny_Call_Name_kw (ld_glob I hg hm (PySem.W.callWith_K I.ok.mod.kin T.kC (thn (ha.run pos pins s σ H _ I h) fun us s1 hh => ?_) he hpl) hdb)
  obtain ⟨vs, H1, I1, r1, hz, q1⟩ := hh
  refine ⟨I1.kIn, ?_⟩
  obtain ⟨hp, g, dr, tk, os⟩ := s1
  have hsz := Nat.le_succ hp.objs.size
  have hn := HOk.fresh I1.hok hsz
  have hq := q1 (hp.objs.size + 1) hn
  have kk : ∀ b o, hp.get? b = some o → ((hp.push (PySem.W.kdv_tup us)).push (HandSPX.excO C hp.objs.size)).get? b = some o := fun b o e => Heap.get?_push_of_some _ (Heap.get?_push_of_some _ e)
  have hget : ((hp.push (PySem.W.kdv_tup us)).push (HandSPX.excO C hp.objs.size)).get? (hp.objs.size + 1) = some (HandSPX.excO C hp.objs.size) := Heap.get?_push_at (by rw [Heap.size_push]) rfl
  have I2 : Inv X pins σ (upd H1 (hp.objs.size + 1) (exo (hp.objs.size + 1) C none)) ⟨(hp.push (PySem.W.kdv_tup us)).push (HandSPX.excO C hp.objs.size), g, dr, tk, os⟩ := I1.laid kk hsz (exo_ok hget)
  rw [List.append_nil] at hq
  have r2 : Vals (.ref (hp.objs.size + 1) :: vs) (.ref (hp.objs.size + 1) :: us) := .cons rfl r1
  have hus : us.length ≤ sizeLine := by
    have := r1.length
    rw [← this]
    exact Nat.le_trans hz (by decide)
  refine wpAny_call (HandSPX.call_own F.excBase_ValueError (fun Y => HandSPX.refsVE_contains Y bm hbm) (I1.kIn C _ hC) (PySem.W.looks_findIn I1.kIn iC) (fun self => PySem.W.bind_fn I1.kIn self tI) hus
    (codeAny_mono (F1 (X.A.under (Code.builtin "type.__call__" { pos := Value.ref C :: us })) X.stack _ (upd H1 (hp.objs.size + 1) (exo (hp.objs.size + 1) C none)) (Value.ref (hp.objs.size + 1) :: us) (V.ref (hp.objs.size + 1) :: vs) _ _ (Room.make hr C us []) (Env0.make I2.env0 C us []) r2 hq) fun r s' hq' => ?_))
  rcases r with er | fl
  · exact hx pins σ _ _ er s' I2 hq'
  · cases fl with
    | next => exact False.elim hq'
    | brk => exact False.elim hq'
    | cont => exact False.elim hq'
    | ret u =>
      obtain ⟨v, H2, J, rv, ev, q2⟩ := I2.after hq'
      subst ev
      exact ⟨rv, .ref (hp.objs.size + 1), H2, J, rfl, q2⟩
theorem pe_oexR0 {X : Cx} {p pos : Pos} {CX : CXT} {x : Str} {C fI : Addr} {k : Nat} {sp : Sp}
    (T : OexC X.K C) (iC : PySem.W.findIn X.K (.ref C) "__init__" = some (some (.ref fI))) (tI : PySem.W.typeIn X.K (.ref fI) = some (.type "function")) (F1 : FnR X.prog X.w X.K X.mg X.base CX k fI sp) (hr : Room (k + 1) X.A)
    (hx : Passes CX X fun _ _ _ => False) (hg : Gl X x) (hm : X.mg x = some (.ref C)) (hdb : (x == ("__debug__" : Str)) = false := by decide) :
    PE X (.Call (.Name x p) [] [] pos) (tVlO C sp [] tNil) := by
  refine ⟨fun pins s σ H Q I h => ?_⟩
  obtain ⟨nm, q, N, bs, bm, sn, sub, ab, col, dd, k0, k1, k2, k3, k5, hC, hbm⟩ := T.cls
  refine wpAny_Call_Name_kw (ld_glob I hg hm (PySem.W.callWith_K0 I.kIn T.kC ?_) hdb)
  obtain ⟨hz, q0⟩ := h
  have q1 : ∀ a : Addr, H a = none → sp (.ref a :: ([] : List V)) (upd H a (exo a C none)) (fun v H2 => v = .non ∧ Q (.ref a) H2) fun _ _ _ => False := q0
  show wpAny _ _ (call (Value.ref C) []) _ _ _
  have I1 := I
  have r1 : Vals [] [] := .nil
  generalize hus : ([] : List Value) = us at r1 ⊢
  generalize hvs : ([] : List V) = vs at r1 hz q1 ⊢
  generalize s = s1 at I1 ⊢
  generalize H = H1 at I1 q1 ⊢
  obtain ⟨hp, g, dr, tk, os⟩ := s1
  have hsz := Nat.le_succ hp.objs.size
  have hn := HOk.fresh I1.hok hsz
  have hq := q1 (hp.objs.size + 1) hn
  have kk : ∀ b o, hp.get? b = some o → ((hp.push (PySem.W.kdv_tup us)).push (HandSPX.excO C hp.objs.size)).get? b = some o := fun b o e => Heap.get?_push_of_some _ (Heap.get?_push_of_some _ e)
  have hget : ((hp.push (PySem.W.kdv_tup us)).push (HandSPX.excO C hp.objs.size)).get? (hp.objs.size + 1) = some (HandSPX.excO C hp.objs.size) := Heap.get?_push_at (by rw [Heap.size_push]) rfl
  have I2 : Inv X pins σ (upd H1 (hp.objs.size + 1) (exo (hp.objs.size + 1) C none)) ⟨(hp.push (PySem.W.kdv_tup us)).push (HandSPX.excO C hp.objs.size), g, dr, tk, os⟩ := I1.laid kk hsz (exo_ok hget)
  have r2 : Vals (.ref (hp.objs.size + 1) :: vs) (.ref (hp.objs.size + 1) :: us) := .cons rfl r1
  have hus : us.length ≤ sizeLine := by
    have := r1.length
    rw [← this]
    exact Nat.le_trans hz (by decide)
  refine wpAny_call (HandSPX.call_own F.excBase_ValueError (fun Y => HandSPX.refsVE_contains Y bm hbm) (I1.kIn C _ hC) (PySem.W.looks_findIn I1.kIn iC) (fun self => PySem.W.bind_fn I1.kIn self tI) hus
    (codeAny_mono (F1 (X.A.under (Code.builtin "type.__call__" { pos := Value.ref C :: us })) X.stack _ (upd H1 (hp.objs.size + 1) (exo (hp.objs.size + 1) C none)) (Value.ref (hp.objs.size + 1) :: us) (V.ref (hp.objs.size + 1) :: vs) _ _ (Room.make hr C us []) (Env0.make I2.env0 C us []) r2 hq) fun r s' hq' => ?_))
  rcases r with er | fl
  · exact hx pins σ _ _ er s' I2 hq'
  · cases fl with
    | next => exact False.elim hq'
    | brk => exact False.elim hq'
    | cont => exact False.elim hq'
    | ret u =>
      obtain ⟨v, H2, J, rv, ev, q2⟩ := I2.after hq'
      subst ev
      exact ⟨rv, .ref (hp.objs.size + 1), H2, J, rfl, q2⟩
end EL

/- part EV2 -/
/-! own errors with no fields: raised, made, told apart -/
namespace EL
open PySem PySem.Spec PyProof.Rows L2
open PySem.W (Frag)
/-- an error with no dict on the heap: made, or caught -/
def ErrN (H : Hp) (a C : Addr) : Prop := H a = some (exo a C none) ∨ H a = some (exr a C none)
theorem ErrN.inst {P : Program} {w : World} {H : Hp} {h : Heap} {a C : Addr} (e : ErrN H a C) (ok : HOk P w H h) : ∃ oe, h.get? a = some oe ∧ oe.cls = .ref C ∧ oe.dict = none ∧ ∃ vs, oe.data = .fields vs := by
  rcases e with ea | ea
  · obtain ⟨⟨t1, ha⟩, _⟩ := ok a _ ea
    exact ⟨_, ha, rfl, rfl, _, rfl⟩
  · obtain ⟨⟨oe, vs, ha, hz, hd⟩, _⟩ := ok a _ ea
    exact ⟨oe, ha, hz.1, hz.2, vs, hd⟩
def rIsN (K : Frag) : List V → Hp → VK → Prop := fun xs H Q => ∃ (a D : Addr) (c : V) (cv : Value) (b : Bool), xs = [.ref a, c] ∧ ErrN H a D ∧ ExcC K D ∧ (∀ u, RelV c u → u = cv) ∧ PySem.W.kitOne K (.ref D) cv = some b ∧ Q (.bl b) H
theorem call_isN {X : Cx} : CallR X (.builtin "isinstance") (rIsN X.K) := by
  intro pins s σ H xs us Q I r h
  obtain ⟨a, D, c, cv, b, rfl, ea, C, hcv, e, q⟩ := h
  cases r with
  | cons rx rr =>
    cases rr with
    | cons rt rr =>
      cases rr
      cases rx
      have ec := hcv _ rt
      subst ec
      obtain ⟨oe, hget, hc, hdt, vs, hd⟩ := ea.inst I.hok
      have J : PySem.W.InstAt s.heap a oe D none := ⟨hget, hc, by unfold PySem.W.notCls; rw [hd] <;> rfl, by rw [hdt]; trivial⟩
      have hcl : (PySem.W.clsIn X.K D).isSome = true := by
        obtain ⟨cd, hc, _⟩ := PySem.W.any_some C.hd
        rw [hc]; rfl
      exact PySem.W.kia_one (PySem.W.kitx_exc hcl C.hg C.hk C.hs C.ha C.hn C.ht C.hm) I.kIn J e (fun z => nomatch z) fun tk => ⟨.bl b, H, I.kept (t' := tk) fun _ _ z => z, rfl, q⟩
def rIsON (K : Frag) : List V → Hp → VK → Prop := fun xs H Q => rIsO K xs H Q ∨ rIsN K xs H Q
theorem call_isON {X : Cx} : CallR X (.builtin "isinstance") (rIsON X.K) := call_isO.or call_isN
/-- the end of C(): the exception is let go -/
theorem mk_endN {X : Cx} {pins : List (Addr × Obj)} {σ : L2.St} {H1 H2 : Hp} {Q : XK} {hp hp2 h2 : Heap} {g1 g2 : Array GenState} {d1 d2 : Drawn} {t1 t2 : Nat} {os1 os2 : OsState} {a C : Addr} (T : Raises X (.ref C)) (I1 : Inv X pins σ H1 ⟨hp, g1, d1, t1, os1⟩)
    (ha : hp.objs.size ≤ a) (k : ∀ b o, hp.get? b = some o → hp2.get? b = some o) (un : Un (frs X.stack) [] (upd H1 a (exo a C none)) H2 hp2 h2) (hok : HOk X.prog X.w H2 h2) (ho : os2 = os1) (hb : AllBare g2)
    (ea : H2 a = some (exo a C none)) (q : Q (.ref C) none (del H2 a)) : MkP X pins σ Q (.ref a) ⟨h2, g2, d2, t2, os2⟩ := by
  obtain ⟨t0, hoe⟩ := exo_at hok ea
  have hn : H1 a = none := I1.hok.fresh ha
  obtain ⟨G, g1', g2'⟩ := restrict h2 fun b => decide (b ≠ a)
  have gk : ∀ b, b ≠ a → G.get? b = h2.get? b := fun b hb => g1' b (decide_eq_true hb)
  have ge : G.get? a = none := g2' a (by simp)
  have nha : ∀ {b : Addr} {o : Obj}, hp.get? b = some o → b ≠ a := fun {b o} z => Nat.ne_of_lt (Nat.lt_of_lt_of_le (Heap.lt_size z) ha)
  have up : ∀ {b : Addr}, b ≠ a → H1 b = none → upd H1 a (exo a C none) b = none := fun {b} hb n => by rw [upd_ne hb]; exact n
  have U : Un (frs X.stack) [] H1 (del H2 a) hp G := {
    keep := fun b o z n hf hx => by
      rw [gk b (nha z)]
      exact un.keep b o (k b o z) (up (nha z) n) hf hx
    slot := fun b o z n hf hx => by
      rw [gk b (nha z)]
      exact un.slot b o (k b o z) (up (nha z) n) hf hx
    free := fun b o z n hx => by
      rw [del_ne (nha z)]
      exact un.free b o (k b o z) (up (nha z) n) hx
    there := fun b o z hx => by
      rw [gk b (nha z)]
      exact un.there b o (k b o z) hx
    tups := fun b xs z => by
      rw [del_ne (ne_of_none z hn)]
      exact un.tups b xs (by rw [upd_ne (ne_of_none z hn)]; exact z)
    frzs := fun b o v z => by
      rw [del_ne (ne_of_none z hn)]
      exact un.frzs b o v (by rw [upd_ne (ne_of_none z hn)]; exact z)
    tbls := fun b ps z => by
      rw [del_ne (ne_of_none z hn)]
      exact un.tbls b ps (by rw [upd_ne (ne_of_none z hn)]; exact z) }
  have hok3 : HOk X.prog X.w (del H2 a) G := fun b o z => by
    have hba : b ≠ a := fun e => by
      rw [e, del_same] at z
      cases z
    rw [del_ne hba] at z
    have noa : ∀ {c : Addr}, H2 c = some (.own b) → c ≠ a := fun {c} hc => at_ne ea hc exo_own
    exact (hok b o z).stay (fun c v hc y => by
        have hca : c ≠ a := by
          rcases hc with hc | hc
          · rw [hc]
            exact hba
          · exact noa hc
        rw [gk c hca]
        exact y)
      (fun c hc => by rw [del_ne (noa hc)]; exact hc) (fun c xs hc => by rw [del_ne (at_ne ea hc exo_tup)]; exact hc)
  have J : Inv X pins σ (del H2 a) ⟨G, g2, d2, t2, os2⟩ := I1.call' (ch := []) ho U hok3 hb (fun b z => absurd z (by simp))
  refine ⟨a, _, _, ⟨G, g2, d2, t2, os2⟩, _, .ref C, none, rfl, J, fun b o z => ?_, ge, hoe, ⟨rfl, rfl⟩, rfl, rfl, del_same, rfl, hb, T, q⟩
  by_cases hba : b = a
  · rw [hba, ge] at z
    cases z
  · exact (gk b hba).symm.trans z
/-- raise C(), C an own error whose __init__ keeps nothing -/
def tRzN (C : Addr) (sp : Sp) (W : WX) : TS := fun D σ H => ∀ a : Addr, H a = none → sp [.ref a] (upd H a (exo a C none)) (fun v H2 => v = .non ∧ H2 a = some (exo a C none) ∧ W (.ref C) none σ (del H2 a)) (fun _ _ _ => False)
theorem pmk_oexN {X : Cx} {p pos : Pos} {CX : CXT} {x : Str} {C fI : Addr} {k : Nat} {sp : Sp}
    (T : OexC X.K C) (iC : PySem.W.findIn X.K (.ref C) "__init__" = some (some (.ref fI))) (tI : PySem.W.typeIn X.K (.ref fI) = some (.type "function")) (F1 : FnR X.prog X.w X.K X.mg X.base CX k fI sp) (hr : Room (k + 1) X.A)
    (hx : Passes CX X fun _ _ _ => False) (hg : Gl X x) (hm : X.mg x = some (.ref C)) (hdb : (x == ("__debug__" : Str)) = false := by decide) :
    PMk X (.Call (.Name x p) [] [] pos) (fun σ H Q => ∀ a : Addr, H a = none → sp [.ref a] (upd H a (exo a C none)) (fun v H2 => v = .non ∧ H2 a = some (exo a C none) ∧ Q (.ref C) none (del H2 a)) (fun _ _ _ => False)) := by
  intro pins s σ H Q I h
  obtain ⟨nm, q, N, bs, bm, sn, sub, ab, col, dd, k0, k1, k2, k3, k5, hC, hbm⟩ := T.cls
  refine wpAny_Call_Name_kw (ld_glob I hg hm (PySem.W.callWith_K0 I.kIn T.kC ?_) hdb)
  show wpAny _ _ (call (Value.ref C) []) _ _ _
  have I1 := I
  generalize hus : ([] : List Value) = us
  have r1 : Vals [] us := by subst hus; exact .nil
  generalize s = s1 at I1 ⊢
  generalize H = H1 at I1 h ⊢
  obtain ⟨hp, g, dr, tk, os⟩ := s1
  have hsz : hp.objs.size ≤ hp.objs.size + 1 := Nat.le_succ hp.objs.size
  have hn : H1 (hp.objs.size + 1) = none := HOk.fresh I1.hok hsz
  have hq := h (hp.objs.size + 1) hn
  have kk : ∀ b o, hp.get? b = some o → ((hp.push (PySem.W.kdv_tup us)).push (HandSPX.excO C hp.objs.size)).get? b = some o := fun b o e => Heap.get?_push_of_some _ (Heap.get?_push_of_some _ e)
  have hget : ((hp.push (PySem.W.kdv_tup us)).push (HandSPX.excO C hp.objs.size)).get? (hp.objs.size + 1) = some (HandSPX.excO C hp.objs.size) := Heap.get?_push_at (by rw [Heap.size_push]) rfl
  have I2 : Inv X pins σ (upd H1 (hp.objs.size + 1) (exo (hp.objs.size + 1) C none)) ⟨(hp.push (PySem.W.kdv_tup us)).push (HandSPX.excO C hp.objs.size), g, dr, tk, os⟩ :=
    I1.laid (t' := tk) (a := hp.objs.size + 1) (o := exo (hp.objs.size + 1) C none) (h' := (hp.push (PySem.W.kdv_tup us)).push (PySem.HandSPX.excO C hp.objs.size)) kk hsz (exo_ok hget)
  have r2 : Vals [V.ref (hp.objs.size + 1)] (Value.ref (hp.objs.size + 1) :: us) := .cons rfl r1
  have hus' : us.length ≤ sizeLine := by subst hus; exact Nat.zero_le _
  refine wpAny_call (HandSPX.call_own F.excBase_ValueError (fun Y => HandSPX.refsVE_contains Y bm hbm) (I1.kIn C _ hC) (PySem.W.looks_findIn I1.kIn iC) (fun self => PySem.W.bind_fn I1.kIn self tI) hus'
    (codeAny_mono (F1 (X.A.under (Code.builtin "type.__call__" { pos := Value.ref C :: us })) X.stack _ _ (Value.ref (hp.objs.size + 1) :: us) [V.ref (hp.objs.size + 1)] _ (fun _ _ _ => False) (Room.make hr C us []) (Env0.make I2.env0 C us []) r2 hq) fun r s' hq' => ?_))
  rcases r with er | fl
  · exact hx pins σ _ _ er s' I2 hq'
  · cases fl with
    | next => exact False.elim hq'
    | brk => exact False.elim hq'
    | cont => exact False.elim hq'
    | ret u =>
      obtain ⟨v, H2, os2, bare2, un2, hok2, rv, ev, ea, q2⟩ := hq'
      subst ev
      obtain ⟨h2, g2, d2, t2, os'⟩ := s'
      exact ⟨rv, mk_endN (raises_own T.exC T.tyC) I1 hsz kk un2 hok2 os2 bare2 ea q2⟩
theorem ps_rzN {X : Cx} {W : WX} {x : Str} {C fI : Addr} {CX : CXT} {k : Nat} {sp : Sp} {p pos pos' : Pos} (T : OexC X.K C) (iC : PySem.W.findIn X.K (.ref C) "__init__" = some (some (.ref fI))) (tI : PySem.W.typeIn X.K (.ref fI) = some (.type "function")) (F1 : FnR X.prog X.w X.K X.mg X.base CX k fI sp) (hr : Room (k + 1) X.A)
    (hx : Passes CX X fun _ _ _ => False) (hm : X.mg x = some (.ref C)) (hc : X.calm = true) (tk : Takes X W) (hg : Gl X x := by rfl) (hdb : (x == ("__debug__" : Str)) = false := by decide) :
    PS X (.Raise (some (.Call (.Name x p) [] [] pos)) none pos') (tRzN C sp W) :=
  ps_raise hc tk (pmk_oexN T iC tI F1 hr hx hg hm hdb)
end EL

/- part T4 -/
/-! tracked data with dicts of any entries (keys: ints and texts); repr of it, sys.modules' own place told apart; a law's end that tells it -/
namespace EL
open PySem PySem.Spec PyProof.Rows L2
open PySem.W (Frag)
def kD : Key → PyData
  | .inl i => .int i
  | .inr x => .str x
mutual
inductive Td (H : Hp) : V → PyData → Prop
  | non : Td H .non .none
  | bl (b : Bool) : Td H (.bl b) (.bool b)
  | int (i : Int) : Td H (.int i) (.int i)
  | str (x : Str) : Td H (.str x) (.str x)
  | lst {a : Addr} {xs : List V} {ds : List PyData} (h : H a = some (.lst xs)) (t : TdAll H xs ds) : Td H (.ref a) (.list ds)
  | tup {a : Addr} {xs : List V} {ds : List PyData} (h : H a = some (.tup xs)) (t : TdAll H xs ds) : Td H (.ref a) (.tuple ds)
  | dct {a : Addr} {kvs : List (Key × V)} {ds : List (PyData × PyData)} (h : H a = some (.dK kvs)) (t : TdKv H kvs ds) : Td H (.ref a) (.dict ds)
inductive TdAll (H : Hp) : List V → List PyData → Prop
  | nil : TdAll H [] []
  | cons {v : V} {vs : List V} {d : PyData} {ds : List PyData} (h : Td H v d) (t : TdAll H vs ds) : TdAll H (v :: vs) (d :: ds)
inductive TdKv (H : Hp) : List (Key × V) → List (PyData × PyData) → Prop
  | nil : TdKv H [] []
  | cons {k : Key} {v : V} {vs : List (Key × V)} {d : PyData} {ds : List (PyData × PyData)} (h : Td H v d) (t : TdKv H vs ds) : TdKv H ((k, v) :: vs) ((kD k, d) :: ds)
end
mutual
theorem td_same {H H' : Hp} (s : Same H H') : ∀ (d : PyData) (v : V), Td H v d → Td H' v d
  | .none, _, h => by cases h; exact .non
  | .bool _, _, h => by cases h; exact .bl _
  | .int _, _, h => by cases h; exact .int _
  | .str _, _, h => by cases h; exact .str _
  | .list ds, _, h => by
    cases h with
    | lst a t => exact .lst (s _ _ a) (td_sameAll s ds _ t)
  | .tuple ds, _, h => by
    cases h with
    | tup a t => exact .tup (s _ _ a) (td_sameAll s ds _ t)
  | .dict ds, _, h => by
    cases h with
    | dct a t => exact .dct (s _ _ a) (td_sameKv s ds _ t)
theorem td_sameAll {H H' : Hp} (s : Same H H') : ∀ (ds : List PyData) (vs : List V), TdAll H vs ds → TdAll H' vs ds
  | [], _, h => by cases h; exact .nil
  | d :: ds, _, h => by
    cases h with
    | cons h1 h2 => exact .cons (td_same s d _ h1) (td_sameAll s ds _ h2)
theorem td_sameKv {H H' : Hp} (s : Same H H') : ∀ (ds : List (PyData × PyData)) (vs : List (Key × V)), TdKv H vs ds → TdKv H' vs ds
  | [], _, h => by cases h; exact .nil
  | (_, d) :: ds, _, h => by
    cases h with
    | cons h1 h2 => exact .cons (td_same s d _ h1) (td_sameKv s ds _ h2)
end
theorem Td.same {H H' : Hp} {v : V} {d : PyData} (h : Td H v d) (s : Same H H') : Td H' v d := td_same s d v h
theorem TdAll.same {H H' : Hp} {v : List V} {d : List PyData} (h : TdAll H v d) (s : Same H H') : TdAll H' v d := td_sameAll s d v h
/-- known apart from the object at b -/
abbrev TdB (b : Addr) (H : Hp) (v : V) (d : PyData) : Prop := Td (wo b H) v d
theorem TdB.td {b : Addr} {H : Hp} {v : V} {d : PyData} (h : TdB b H v d) : Td H v d := h.same wo_same
theorem TdB.kp {b : Addr} {H H' : Hp} {v : V} {d : PyData} (h : TdB b H v d) (k : Kp b H H') : TdB b H' v d := h.same (wo_kp k)
theorem TdB.of {b : Addr} {H H' : Hp} {v : V} {d : PyData} (h : TdB b H v d) (s : Same H H') : TdB b H' v d := h.same (wo_sm s)
section
variable {X : Cx} {pins : List (Addr × Obj)} {σ : L2.St} {H : Hp} {s : Shared}
theorem lst_ne (hM : ∃ mm, X.base.Ns sysModules mm) (I : Inv X pins σ H s) {a : Addr} {xs : List V} (h : H a = some (.lst xs)) : a ≠ sysModules := by
  rintro rfl
  obtain ⟨its, rv, ⟨o, n, ho, hc, _, hd⟩, _⟩ := I.list (SqL.of h)
  obtain ⟨mm, o', es, ep, ho', hd', _⟩ := hM
  have := I.bk _ _ ho'
  rw [ho] at this
  cases this
  rw [hd] at hd'
  cases hd'
mutual
theorem td_reads (hM : ∃ mm, X.base.Ns sysModules mm) (I : Inv X pins σ H s) : ∀ (d : PyData) (v : V) (u : Value), Td H v d → RelV v u → ∃ as, Reads s.heap u d as ∧ sysModules ∉ as
  | .none, _, _, h, r => by
    cases h
    cases r
    exact ⟨_, Reads.none, List.not_mem_nil⟩
  | .bool b, _, _, h, r => by
    cases h
    cases r
    exact ⟨_, Reads.bool b, List.not_mem_nil⟩
  | .int i, _, _, h, r => by
    cases h
    obtain ⟨t, rfl⟩ := r
    exact ⟨_, Reads.int i t, List.not_mem_nil⟩
  | .str x, _, _, h, r => by
    cases h
    obtain ⟨t, rfl⟩ := r
    exact ⟨_, Reads.str x t, List.not_mem_nil⟩
  | .list ds, _, _, h, r => by
    cases h with
    | lst hs ha =>
      cases r
      obtain ⟨its, rv, ⟨o, n, ho, hc, _, hd⟩, _⟩ := I.list (SqL.of hs)
      obtain ⟨as, hr, hm⟩ := td_readsAll hM I ds _ its ha rv
      refine ⟨_, Reads.list ho hc hd hr, fun z => ?_⟩
      rcases List.mem_cons.mp z with z | z
      · exact lst_ne hM I hs z.symm
      · exact hm z
  | .tuple ds, _, _, h, r => by
    cases h with
    | tup hs ha =>
      cases r
      obtain ⟨its, rv, ⟨o, ho, hc, n, hd⟩, _⟩ := I.tuple (SqT.of hs)
      obtain ⟨as, hr, hm⟩ := td_readsAll hM I ds _ its ha rv
      exact ⟨_, Reads.tuple ho hc hd hr, hm⟩
  | .dict ds, _, _, h, r => by
    cases h with
    | @dct p kvs _ hp ha =>
      cases r
      obtain ⟨_, ns, vs, kv, o, es, ep, ho, ex, hd, _, pr, _⟩ := I.hok p _ hp
      obtain ⟨as, bs, h1, h2, m1, m2⟩ := td_readsKv hM I ds kvs vs es.toList ha kv pr
      refine ⟨_, .dict ho ex.1 hd h1 h2, fun z => ?_⟩
      rcases List.mem_append.mp z with z | z
      · rcases List.mem_cons.mp z with z | z
        · rw [← z] at ns
          exact absurd ns (by decide)
        · exact m1 z
      · exact m2 z
theorem td_readsAll (hM : ∃ mm, X.base.Ns sysModules mm) (I : Inv X pins σ H s) : ∀ (ds : List PyData) (vs : List V) (us : List Value), TdAll H vs ds → Vals vs us → ∃ as, ReadsAll s.heap us ds as ∧ sysModules ∉ as
  | [], _, _, h, r => by
    cases h
    cases r
    exact ⟨_, ReadsAll.nil, List.not_mem_nil⟩
  | d :: ds, _, _, h, r => by
    cases h with
    | cons h1 h2 =>
      cases r with
      | cons r1 r2 =>
        obtain ⟨as, q1, m1⟩ := td_reads hM I d _ _ h1 r1
        obtain ⟨bs, q2, m2⟩ := td_readsAll hM I ds _ _ h2 r2
        exact ⟨_, ReadsAll.cons q1 q2, fun w => (List.mem_append.mp w).elim m1 m2⟩
theorem td_readsKv (hM : ∃ mm, X.base.Ns sysModules mm) (I : Inv X pins σ H s) : ∀ (ds : List (PyData × PyData)) (kvs : List (Key × V)) (vs : List (Key × Value)) (es : List DictEntry), TdKv H kvs ds → KV kvs vs → Pairs (mixKind X.prog X.w) es vs →
    ∃ as bs, ReadsAll s.heap (es.map (·.key)) (ds.map (·.1)) as ∧ ReadsAll s.heap (es.map (·.val)) (ds.map (·.2)) bs ∧ sysModules ∉ as ∧ sysModules ∉ bs
  | [], _, _, _, h, r, p => by
    cases h
    cases r
    cases p
    exact ⟨_, _, ReadsAll.nil, ReadsAll.nil, List.not_mem_nil, List.not_mem_nil⟩
  | (_, d) :: ds, _, _, _, h, r, p => by
    cases h with
    | @cons k v vs _ _ h1 h2 =>
      cases r with
      | @cons _ q _ qs r1 r2 =>
        cases p with
        | @cons e _ es _ p1 p2 p3 =>
          obtain ⟨ek, rv⟩ := r1
          obtain ⟨bs, q2, m2⟩ := td_reads hM I d v q.2 h1 rv
          obtain ⟨as', bs', h3, h4, m3, m4⟩ := td_readsKv hM I ds vs qs es h2 r2 p3
          have key : Reads s.heap e.key (kD k) [] := by
            have ek' : k = q.1 := ek
            rw [ek']
            have p1' : keyIs q.1 e.key = true := p1
            cases hq : q.1 with
            | inl i =>
              rw [hq] at p1'
              obtain ⟨t, e⟩ := Value.isInt_shape p1'
              rw [e]
              exact Reads.int _ _
            | inr x =>
              rw [hq] at p1'
              obtain ⟨t, e⟩ := Value.isStrOf_shape p1'
              rw [e]
              exact Reads.str _ _
          have q2' : Reads s.heap e.val d bs := by rw [p2]; exact q2
          refine ⟨_, _, ReadsAll.cons key h3, ReadsAll.cons q2' h4, fun z => (List.mem_append.mp z).elim (fun z => nomatch z) m3, fun z => (List.mem_append.mp z).elim m2 m4⟩
end
end
def rShowD : List V → Hp → VK → Prop := fun xs H Q => ∃ x d, xs = [x] ∧ Td H x d ∧ d.showable = true ∧ d.depth ≤ 40 ∧ d.shown.length ≤ sizeLine ∧ Q (.str d.shown) H
theorem u_showD {X : Cx} (hM : ∃ mm, X.base.Ns sysModules mm) (hq : Quiet X.A) (hu : X.A.units + 64 < cLine) : CallR X (.builtin "repr") rShowD := by
  rintro pins s σ H xs us Q I r ⟨x, d, rfl, hd, hs, hdep, hlen, q⟩
  cases r with
  | cons rx rn =>
    rename_i u us
    cases rn
    obtain ⟨as, rd, ns⟩ := td_reads hM I d x u hd rx
    have ns2 : d.hasDict = true → sysModules ∉ as := fun _ => ns
    have fin : ∀ t k, EP X pins σ Q (.str d.shown t) { s with toks := k } := fun t k => ⟨V.str d.shown, H, I.tok _, ⟨t, rfl⟩, q⟩
    have fin2 : ∀ h' t k, (∀ b o, s.heap.get? b = some o → h'.get? b = some o) → EP X pins σ Q (.str d.shown t) { s with heap := h', toks := k } := fun h' t tk k => ⟨V.str _, H, I.kept k, ⟨t, rfl⟩, q⟩
    cases rd with
    | none => exact PySem.P.repr_of_none (fin _ _)
    | bool b => exact PySem.P.repr_of_bool (fin _ _)
    | int i t => exact PySem.P.repr_of_int (by simpa [PyData.showable] using hs) (fin _ _)
    | str y t => exact PySem.P.repr_of_str (fin _ _) hlen
    | list h1 h2 h3 h4 => exact repr_of_reads' (h₀ := s.heap) (.list h1 h2 h3 h4) hs ns2 hq (by omega) (fun _ _ e => e) fin2 hlen
    | tuple h1 h2 h3 h4 => exact repr_of_reads' (h₀ := s.heap) (.tuple h1 h2 h3 h4) hs ns2 hq (by omega) (fun _ _ e => e) fin2 hlen
    | dict h1 h2 h3 h4 h5 => exact repr_of_reads' (h₀ := s.heap) (.dict h1 h2 h3 h4 h5) hs ns2 hq (by omega) (fun _ _ e => e) fin2 hlen
/-! ### one expression, two readings -/
theorem PE.alt {X : Cx} {e : Expr} {t1 t2 : TE} (h1 : PE X e t1) (h2 : PE X e t2) : PE X e (fun σ H Q => t1 σ H Q ∨ t2 σ H Q) :=
  ⟨fun pins s σ H Q I h => h.elim (h1.run pins s σ H Q I) (h2.run pins s σ H Q I)⟩
end EL

/- part P1M -/
/-! the end of a law that is told where sys.modules stands -/
namespace EL
open PySem PySem.Spec PyProof.Rows L2
open PySem.W (Frag)

theorem law_fromM {P : Program} {w : World} {K : Frag} {mg mb : Str → Option Value} {CX : CXT} {k : Nat} {fa a : Addr} {fd : FuncData} {x : Str} {sp : Sp} {s : Shared} {vs : List Value} {H : Hp}
    (hmm : ∃ mm, s.heap.Ns sysModules mm) (KX : K.In s.heap) (hns : s.heap.Ns mainGlobals mg) (hb : s.heap.Ns builtinsNs mb) (hbb : ∀ y : Str, y ≠ "__name__" → mb y = bootBuiltins y) (hlim : s.heap.NoLimit) (hg : s.gens = #[])
    (ha : s.heap.get? a = some { cls := .type "list", data := .seq vs.toArray }) (hr : Room k PySem.callerA)
    (F : ∀ base : Heap, K.In base → base.Ns mainGlobals mg → (∃ mm, base.Ns sysModules mm) → FnG P w K mg base CX k fa fd [x] sp) (hbind : ∀ (s : Shared) (u : Value), BindsTo s fd ⟨[u], []⟩ [(x, u)])
    (hsp : sp [.ref a] H (fun v _ => v = .bl true) fun _ _ _ => False) (hCX : ∀ e s', CX [] H s (fun _ _ _ => False) e s' → False)
    (hO : Only H) (hok : HOk P w H s.heap) (hA : ∀ b, H b ≠ none → b = a) (hK : H a ≠ none → K.lookup a = none) :
    codeAny (model P w) PySem.callerA (.call (.ref fa) ⟨[.ref a], []⟩) (fun r s' => r = .ok (.ret (.bool true)) ∧ OldK s.heap s'.heap ∧ s'.os = s.os ∧ AllBare s'.gens) s := by
  have free : ∀ {b : Addr} {o : Obj}, s.heap.get? b = some o → (b = a → False) ∨ (H b = none) → (hidT s.heap H).get? b = some o := by
    intro b o e z
    apply hidT_get e
    rcases z with z | z
    · cases q : H b with
      | none => rfl
      | some u => exact (z (hA b (by simp [q]))).elim
    · exact z
  have dict : ∀ {b : Addr} {m : Str → Option Value}, s.heap.Ns b m → (hidT s.heap H).Ns b m := by
    rintro b m ⟨o, es, ep, e, d, r⟩
    refine ⟨o, es, ep, free e (.inl fun z => ?_), d, r⟩
    rw [z, ha] at e
    cases e
    exact nomatch d
  have kin : K.In (hidT s.heap H) := by
    intro b o e
    cases q : H b with
    | none => exact free (KX b o e) (.inr q)
    | some u =>
      have ba := hA b (by simp [q])
      rw [ba] at e q
      rw [hK (by simp [q])] at e
      exact nomatch e
  have M : Mod K mg (hidT s.heap H) := ⟨kin, dict hns, ⟨mb, dict hb, hbb⟩, let ⟨mc, h1, h2⟩ := hlim; ⟨mc, dict h1, h2⟩⟩
  have none_in : ∀ b : Addr, b ∉ ([] : List Addr) := fun b z => by simp at z
  have e0 : Env0 P w K mg (hidT s.heap H) PySem.callerA [] s H :=
    { frames := rfl, mod := M, bs := fun b o e => of_hidT e, bsz := Nat.le_of_eq (hidT_size _ _), funs := trivial, frf := fun b z => (none_in b z).elim, hok := hok, bare := .of_eq hg }
  refine codeAny_mono ((F _ kin (dict hns) (let ⟨mm, q⟩ := hmm; ⟨mm, dict q⟩)).run PySem.callerA [] s H _ [.ref a] [.ref a] _ _ hr rfl e0 (hbind s (.ref a)) (.cons rfl .nil) hsp) ?_
  rintro (e | fl) s' hz
  · exact (hCX e s' hz).elim
  · cases fl with
    | next => exact False.elim hz
    | brk => exact False.elim hz
    | cont => exact False.elim hz
    | ret u =>
      obtain ⟨v, H', os, bare, un, hok', r', q⟩ := hz
      have q2 : v = .bl true := q
      rw [q2] at r'
      have u2 : u = Value.bool true := r'
      rw [u2]
      refine ⟨rfl, OldK.of_keep fun b o e => ?_, os, bare⟩
      rcases hO b with z | ⟨ob, xs, z⟩
      · exact un.keep b o e z (none_in b) (none_in b)
      · have e1 := (hok b _ z).1
        rw [e] at e1
        rw [Option.some.inj e1]
        exact (hok' b _ (un.frzs b ob _ z)).1

theorem law_runsM {P : Program} {w : World} {K : Frag} {mg mb : Str → Option Value} {CX : CXT} {k : Nat} {fa a : Addr} {fd : FuncData} {x : Str} {sp : Sp} {s : Shared} {vs : List Value} {ns : List Int}
    (hmm : ∃ mm, s.heap.Ns sysModules mm) (KX : K.In s.heap) (hns : s.heap.Ns mainGlobals mg) (hb : s.heap.Ns builtinsNs mb) (hbb : ∀ y : Str, y ≠ "__name__" → mb y = bootBuiltins y) (hlim : s.heap.NoLimit) (hg : s.gens = #[])
    (ha : s.heap.get? a = some { cls := .type "list", data := .seq vs.toArray }) (hi : IntsAre vs ns) (hl : ns.length ≤ sizeLine) (hr : Room k PySem.callerA)
    (F : ∀ base : Heap, K.In base → base.Ns mainGlobals mg → (∃ mm, base.Ns sysModules mm) → FnG P w K mg base CX k fa fd [x] sp) (hbind : ∀ (s : Shared) (u : Value), BindsTo s fd ⟨[u], []⟩ [(x, u)])
    (hsp : ∀ H : Hp, Only H → SqL K H a (ns.map V.int) → sp [.ref a] H (fun v _ => v = .bl true) fun _ _ _ => False)
    (hCX : ∀ H e s', CX [] H s (fun _ _ _ => False) e s' → False) :
    codeAny (model P w) PySem.callerA (.call (.ref fa) ⟨[.ref a], []⟩) (fun r s' => r = .ok (.ret (.bool true)) ∧ OldK s.heap s'.heap ∧ s'.os = s.os ∧ AllBare s'.gens) s := by
  have rv := vals_ints hi
  by_cases hk : K.lookup a = none
  · let H : Hp := fun b => if b = a then some (.frz { cls := .type "list", data := .seq vs.toArray } (.lst (ns.map V.int))) else none
    have at_ : H a = some (.frz { cls := .type "list", data := .seq vs.toArray } (.lst (ns.map V.int))) := if_pos rfl
    have other : ∀ b, b ≠ a → H b = none := fun b h => if_neg h
    have hO : Only H := fun b => by
      by_cases q : b = a
      · exact .inr ⟨_, _, by rw [q]; exact at_⟩
      · exact .inl (other b q)
    refine law_fromM (H := H) hmm KX hns hb hbb hlim hg ha hr F hbind (hsp H hO (.inl (.inr ⟨_, at_⟩))) (hCX H) hO ?_ ?_ fun _ => hk
    · intro b u z
      by_cases q : b = a
      · subst q
        rw [at_] at z
        cases z
        refine ⟨ha, ?_, vs, _, rv, ha⟩
        rw [List.length_map]
        exact hl
      · rw [other b q] at z
        exact nomatch z
    · intro b z
      by_cases q : b = a
      · exact q
      · exact (z (other b q)).elim
  · obtain ⟨o, hk⟩ := Option.ne_none_iff_exists'.mp hk
    have e := KX a o hk
    rw [ha] at e
    cases e
    let H : Hp := fun _ => none
    have hO : Only H := fun _ => .inl rfl
    have hS : SqL K H a (ns.map V.int) := .inr ⟨_, vs.toArray, _, hk, rfl, rfl, rfl, by simpa [hi.length] using hl, by simpa using rv⟩
    exact law_fromM (H := H) hmm KX hns hb hbb hlim hg ha hr F hbind (hsp H hO hS) (hCX H) hO (fun b u z => nomatch (show (none : Option HO) = some u from z)) (fun b z => (z rfl).elim) fun z => (z rfl).elim

theorem walk_lawM {l : PySem.W.OpenLaw} {n k : Nat} {q : Program} {loose : List Str} {XP : (Str → Option Value) → Heap → Prop} {YP : World → Heap → Prop} {d : DefRec} {K : Params → Frag} {CX : World → CXT} {sp : World → Sp} {x : Str}
    (hI : importsNone q = true) (hn : l.most = some n) (hn2 : n ≤ sizeLine) (hdf : d.params.defaults = []) (hr : Room k PySem.callerA) (hY : ∀ (w : World) (h : Heap), YP w h → (K w.params).In h)
    (F : ∀ (w : World) (mg : Str → Option Value) (fa : Addr) (h : Heap), (K w.params).In h → h.Ns mainGlobals mg → mg d.name = some (.ref fa) →
      ∃ fd : FuncData, (∀ (s : Shared) (u : Value), BindsTo s fd ⟨[u], []⟩ [(x, u)]) ∧ ∀ base : Heap, (K w.params).In base → base.Ns mainGlobals mg → (∃ mm, base.Ns sysModules mm) → FnG l.prog w (K w.params) mg base (CX w) k fa fd [x] (sp w))
    (hsp : ∀ (w : World) (H : Hp) (a : Addr) (ns : List Int), ns.length ≤ n → Only H → SqL (K w.params) H a (ns.map V.int) → sp w [.ref a] H (fun v _ => v = .bl true) fun _ _ _ => False)
    (hCX : ∀ (w : World) (H : Hp) (s : Shared) (e : Value) (s' : Shared), CX w [] H s (fun _ _ _ => False) e s' → False) :
    PySem.W.WalkO q loose XP YP l.row.toRowW d [] (fun f vs => PySem.call f vs) := by
  refine Att.attach_call hn hdf ?_
  intro w s₀ s₁ mg mb fa o pm cd doc a vs ns G Y ho hd hcd hmg hobj hints hlen hg
  have hmm : ∃ mm, s₁.heap.Ns sysModules mm := let ⟨mm, q, _⟩ := (G.T.seer hI).mods; ⟨mm, q⟩
  obtain ⟨fd, hb, hF⟩ := F w mg fa _ (hY w _ Y) G.T.g hmg
  exact law_runsM hmm (hY w _ Y) G.T.g G.T.b G.T.builtins G.T.nolimit hg hobj hints (Nat.le_trans hlen hn2) hr hF hb (fun H => hsp w H a ns hlen) fun H => hCX w H s₁
end EL

/- part X -/
namespace EL
open PySem PySem.Spec PyProof.Rows L2
open PySem.W (Frag)
abbrev s_Wrong_init : Stmt := inClass (top 2) 0
abbrev N_Wrong_init : List Str := ["self", "place"]
theorem sc_Wrong_init : FnScope N_Wrong_init ["self", "place"] (defScope s_Wrong_init) := ⟨rfl, rfl, rfl, by decide +kernel, rfl, by decide +kernel, by decide +kernel⟩
abbrev s_BadItem_init : Stmt := inClass (top 3) 0
abbrev N_BadItem_init : List Str := ["self", "place", "index"]
theorem sc_BadItem_init : FnScope N_BadItem_init ["self", "place", "index"] (defScope s_BadItem_init) := ⟨rfl, rfl, rfl, by decide +kernel, rfl, by decide +kernel, by decide +kernel⟩
abbrev s_TooMany_init : Stmt := inClass (top 4) 0
abbrev N_TooMany_init : List Str := ["self", "limit"]
theorem sc_TooMany_init : FnScope N_TooMany_init ["self", "limit"] (defScope s_TooMany_init) := ⟨rfl, rfl, rfl, by decide +kernel, rfl, by decide +kernel, by decide +kernel⟩
abbrev s_Unequal_init : Stmt := inClass (top 10) 0
abbrev N_Unequal_init : List Str := ["self", "one", "other"]
theorem sc_Unequal_init : FnScope N_Unequal_init ["self", "one", "other"] (defScope s_Unequal_init) := ⟨rfl, rfl, rfl, by decide +kernel, rfl, by decide +kernel, by decide +kernel⟩
local macro_rules | `(tactic| walk_at "el1") => `(tactic| with_reducible first
  | refine a_sasg ?_ | refine a_sdrop ?_ | refine a_saugS ?_ | refine a_spar ?_ | refine a_seq ?_ | refine a_asg ?_ | refine a_drop ?_ | refine a_ret ?_ | refine a_if ?_ | refine a_next ?_
  | refine a_op ?_ | refine a_cons ?_ | refine a_nil ?_ | refine a_cb ?_ | refine a_call ?_ | refine a_c ?_ | refine a_gn ?_ | refine a_nx ?_ | refine a_rt ?_ | refine a_un ?_
  | refine a_test ?_ | refine a_B ?_ | refine a_bl ?_ | refine a_and ?_ | refine a_or ?_ | refine a_not ?_ | refine a_andV ?_ | refine a_orV ?_ | refine a_notV ?_ | refine a_ifx ?_ | refine a_chain ?_
  | refine a_nT ?_ | refine a_nF ?_ | refine a_fld ?_ | refine a_getF ?_ | refine a_T ?_ | refine a_F ?_ | refine a_tup ?_ | refine a_lst ?_ | refine a_sub ?_ | refine a_augS ?_ | refine a_two ?_ | refine a_I0 ?_ | refine a_U ?_ | refine n_add ?_ | refine n_int ?_ | refine n_ib ?_ | refine a_ip ?_ | refine a_rng1 ?_ | refine a_rng2 ?_ | refine a_bm ?_ | refine a_abs ?_ | refine a_pairs ?_ | refine a_pairs0 ?_ | refine a_bk ?_ | refine a_prp ?_ | refine a_lc ?_ | refine a_yes ?_ | refine a_sl ?_ | refine a_nop ?_ | refine a_prt ?_ | refine a_ex1 ?_ | refine a_for ?_ | refine a_sfor ?_ | refine a_iE1 ?_ | refine a_iEs ?_ | refine a_iEz ?_ | refine a_iEnum ?_ | refine a_iTup ?_ | refine a_iList ?_ | refine a_gcons ?_ | refine a_gnil ?_ | refine a_revT ?_ | refine a_spar3 ?_ | refine a_par3 ?_ | refine a_three ?_)
local macro_rules | `(tactic| walk_at "el2") => `(tactic| first
  | (refine a_var (by rfl) ?_)
  | (refine n_ixL (SqL.of (by assumption)) (by rfl) ?_) | (refine n_ixT (SqT.of (by assumption)) (by rfl) ?_) | (refine n_eq (by rfl) ?_) | (refine n_ne (by rfl) ?_)
  | (refine n_isN ?_) | (refine n_notN ?_) | (refine n_isB ?_) | (refine n_notB ?_) | (refine n_isBI ?_) | (refine n_notBI ?_) | (refine n_len (.inl (SqL.of (by assumption))) ?_) | (refine n_len (.inr (SqT.of (by assumption))) ?_)
  | (refine a_getL (SqL.of (by assumption)) (by rfl) ?_)
  | (refine n_isInt (by assumption) ?_) | (refine n_isBool (by assumption) ?_) | (refine n_isStr (by assumption) ?_) | (refine n_isTup (by assumption) ?_) | (refine n_isLst (by assumption) ?_))
local macro_rules | `(tactic| walk_at "el") => `(tactic| repeat (first | walk_at "el1" | walk_at "el2"))

/-! ### errors that keep what they were made of -/
def spErr1 (C : Addr) (fld : Str) : Sp := fun vs H Q _ => ∃ (a : Addr) (y : V), vs = [.ref a, y] ∧ H a = some (exo a C none) ∧ ∀ dx, H dx = none → dx ≠ a → Q .non (upd (upd H dx (exd dx [(fld, y)])) a (exo a C (some dx)))
def spErr2 (C : Addr) (f1 f2 : Str) : Sp := fun vs H Q _ => ∃ (a : Addr) (y z : V), vs = [.ref a, y, z] ∧ H a = some (exo a C none) ∧ ∀ dx, H dx = none → dx ≠ a → Q .non (upd (upd (upd H dx (exd dx [(f1, y)])) a (exo a C (some dx))) dx (exd dx [(f2, z), (f1, y)]))
theorem err_heap {H : Hp} {a d C : Addr} {e1 e2 : HO} (ha : H a = none) (hd : d ≠ a) (fs : List (Str × V)) : upd (del (upd (upd (upd H a e1) d e2) a (exo a C (some d))) a) d (.xd fs) = upd H d (.xd fs) := by
  funext b
  by_cases e : b = d
  · subst e
    rw [upd_same, upd_same]
  · rw [upd_ne e, upd_ne e]
    by_cases z : b = a
    · subst z
      show (if b = b then none else _) = _
      rw [if_pos rfl, ha]
    · show (if b = a then none else _) = _
      rw [if_neg z, upd_ne z, upd_ne e, upd_ne z]
/-- what the making of an error asks -/
def ErrR (C : Addr) (sp : Sp) (vs : List V) (H1 : Hp) (Q : XK) : Prop := vs.length ≤ 1000 ∧ ∀ a : Addr, H1 a = none → sp (.ref a :: (vs ++ [])) (upd H1 a (exo a C none)) (fun v H2 => v = .non ∧ ∃ (d : Addr) (fs : List (Str × V)), H2 a = some (exo a C (some d)) ∧ H2 d = some (exd d fs) ∧ H1 d = none ∧ Q (.ref C) (some d) (upd (del H2 a) d (.xd fs))) (fun _ _ _ => False)
def tRz (C : Addr) (sp : Sp) (ta : TA) (W : WX) : TS := fun _ σ H => ta σ H fun vs H1 => ErrR C sp vs H1 fun cls d H' => W cls d σ H'
theorem a_rz {C : Addr} {sp : Sp} {ta : TA} {W : WX} {D : Ends} {σ : L2.St} {H : Hp} (q : ta σ H fun vs H1 => ErrR C sp vs H1 fun cls d H' => W cls d σ H') : tRz C sp ta W D σ H := q
theorem n_err1 {C : Addr} {fld : Str} {y : V} {H : Hp} {Q : XK} (q : ∀ d, H d = none → Q (.ref C) (some d) (upd H d (.xd [(fld, y)]))) : ErrR C (spErr1 C fld) [y] H Q := by
  refine ⟨by show 1 ≤ 1000; decide, fun a ha => ⟨a, y, rfl, upd_same, fun d hd ne => ⟨rfl, d, [(fld, y)], upd_same, by rw [upd_ne ne]; exact upd_same, (nn hd).2, ?_⟩⟩⟩
  rw [err_heap ha ne]
  exact q d (nn hd).2
theorem err_heap2 {H : Hp} {a d C : Addr} {e1 e2 e3 : HO} (ha : H a = none) (hd : d ≠ a) (fs : List (Str × V)) : upd (del (upd (upd (upd (upd H a e1) d e2) a (exo a C (some d))) d e3) a) d (.xd fs) = upd H d (.xd fs) := by
  funext b
  by_cases e : b = d
  · subst e
    rw [upd_same, upd_same]
  · rw [upd_ne e, upd_ne e]
    by_cases z : b = a
    · subst z
      show (if b = b then none else _) = _
      rw [if_pos rfl, ha]
    · show (if b = a then none else _) = _
      rw [if_neg z, upd_ne e, upd_ne z, upd_ne e, upd_ne z]
theorem n_err2 {C : Addr} {f1 f2 : Str} {y z : V} {H : Hp} {Q : XK} (q : ∀ d, H d = none → Q (.ref C) (some d) (upd H d (.xd [(f2, z), (f1, y)]))) : ErrR C (spErr2 C f1 f2) [y, z] H Q := by
  refine ⟨by show 2 ≤ 1000; decide, fun a ha => ⟨a, y, z, rfl, upd_same, fun d hd ne => ⟨rfl, d, [(f2, z), (f1, y)], by rw [upd_ne ne.symm]; exact upd_same, upd_same, (nn hd).2, ?_⟩⟩⟩
  rw [err_heap2 ha ne]
  exact q d (nn hd).2
structure ErrG (P : Program) (w : World) (K : Frag) (mg : Str → Option Value) (base : Heap) (x : Str) (C : Addr) (ps : List Str) (sp : Sp) : Prop where
  ex : ∃ fI fd, PySem.W.findIn K (.ref C) "__init__" = some (some (.ref fI)) ∧ PySem.W.typeIn K (.ref fI) = some (.type "function") ∧ FnOk P w K mg base CX0 1 fI fd ps sp ∧ L2.Binds K fd ps []
  o : OexC K C
  g : mg x = some (.ref C)
theorem ps_rz {X : Cx} {W : WX} {x : Str} {C : Addr} {ps : List Str} {sp : Sp} {e : Expr} {es : List Expr} {ta : TA} {p pos pos' : Pos} (G : ErrG X.prog X.w X.K X.mg X.base x C ps sp) (hr : Room 2 X.A) (hc : X.calm = true) (tk : Takes X W) (ha : PA X (e :: es) ta)
    (hg : Gl X x := by rfl) (hb : (x == ("__debug__" : Str)) = false := by decide) (he : starEach (e :: es) X.env = (false, eval e X.env) :: starEach es X.env := by rfl) (hpl : (backTo pos (starEach es X.env)).any (·.1) = false := by rfl) :
    PS X (.Raise (some (.Call (.Name x p) (e :: es) [] pos)) none pos') (tRz C sp ta W) := by
  obtain ⟨fI, fd, i, t, F, b⟩ := G.ex
  exact ps_raise hc tk (pmk_oex (pos := pos) (p := p) G.o i t F hr b .nil pass0 hg G.g ha hb he hpl)
/-! ### errors on their way through a call -/
theorem passE {X : Cx} {E : XK} (tk : Takes X fun cls d _ H => E cls d H) : Passes (L2.CX X.prog X.w) X E := fun pins σ H s e s' I hz => passAt tk σ pins H s e s' I hz
theorem pe_calX {X : Cx} {W : WX} {k : Nat} {x : Str} {ps : List Str} {sp : Sp} {p pos : Pos} {e : Expr} {es : List Expr} {t : TA} (C : Cal X.prog X.w X.K X.mg X.base (L2.CX X.prog X.w) k x ps sp) (hr : Room k X.A) (tk : Takes X W) (ha : PA X (e :: es) t)
    (hg : Gl X x := by rfl) (hdb : (x == ("__debug__" : Str)) = false := by decide) (he : starEach (e :: es) X.env = (false, eval e X.env) :: starEach es X.env := by rfl) (hpl : (backTo pos (starEach es X.env)).any (·.1) = false := by rfl) :
    PE X (.Call (.Name x p) (e :: es) [] pos) (tCallS sp (WE W) t) := by
  obtain ⟨f, fd, h1, h2, h3, h4⟩ := C.ex
  exact pe_callS h4 hr hg h1 h2 h3 (fun σ => passAt tk σ) ha hdb he hpl
section
variable {P : Program} {w : World} {K : Frag} {mg : Str → Option Value} {base : Heap} {f C aForms aParts : Addr} {fd : FuncData}
theorem ok_Wrong (F : Fun K "__init__" "Wrong.__init__" s_Wrong_init f fd) (O : OexC K C) (n : PySem.W.findIn K (.ref C) "place" = some none) : FnOk P w K mg base CX0 1 f fd ["self", "place"] (spErr1 C "place") := by
  refine F.ok sc_Wrong_init (fun vs H Q E h => ?_) (fun cdv A outer s H vs Q E hr h => ?_)
  · obtain ⟨_, _, rfl, _⟩ := h
    rfl
  · obtain ⟨a, y, rfl, ha, k⟩ := h
    refine ⟨_, (pss_one (ps_ost (pv 0) (pv 1))), ?_⟩
    walk_at "el"
    refine ⟨a, C, rfl, O, n, .inl ⟨ha, fun dx hd ne => ?_⟩⟩
    walk_at "el"
    exact k dx hd ne
theorem ok_TooMany (F : Fun K "__init__" "TooMany.__init__" s_TooMany_init f fd) (O : OexC K C) (n : PySem.W.findIn K (.ref C) "limit" = some none) : FnOk P w K mg base CX0 1 f fd ["self", "limit"] (spErr1 C "limit") := by
  refine F.ok sc_TooMany_init (fun vs H Q E h => ?_) (fun cdv A outer s H vs Q E hr h => ?_)
  · obtain ⟨_, _, rfl, _⟩ := h
    rfl
  · obtain ⟨a, y, rfl, ha, k⟩ := h
    refine ⟨_, (pss_one (ps_ost (pv 0) (pv 1))), ?_⟩
    walk_at "el"
    refine ⟨a, C, rfl, O, n, .inl ⟨ha, fun dx hd ne => ?_⟩⟩
    walk_at "el"
    exact k dx hd ne
theorem ok_BadItem (F : Fun K "__init__" "BadItem.__init__" s_BadItem_init f fd) (O : OexC K C) (n : PySem.W.findIn K (.ref C) "place" = some none) (n2 : PySem.W.findIn K (.ref C) "index" = some none) : FnOk P w K mg base CX0 1 f fd ["self", "place", "index"] (spErr2 C "place" "index") := by
  refine F.ok sc_BadItem_init (fun vs H Q E h => ?_) (fun cdv A outer s H vs Q E hr h => ?_)
  · obtain ⟨_, _, _, rfl, _⟩ := h
    rfl
  · obtain ⟨a, y, z, rfl, ha, k⟩ := h
    refine ⟨_, (pss_cons (ps_ost (pv 0) (pv 1))
  (pss_one (ps_ost (pv 0) (pv 2)))), ?_⟩
    walk_at "el"
    refine ⟨a, C, rfl, O, n, .inl ⟨ha, fun dx hd ne => ?_⟩⟩
    walk_at "el"
    refine ⟨a, C, rfl, O, n2, .inr ⟨dx, [("place", y)], upd_same, by rw [upd_ne ne]; exact upd_same, by show 1 ≤ 900; decide, ?_⟩⟩
    walk_at "el"
    exact k dx hd ne
/-- items that are looked at: the error of the first that is none -/
def spCiX (K : Frag) (CT CB : Addr) : Sp := fun vs H Q E => ∃ (n : Int) (p : Pt) (a : Addr) (xs : List V) (ev wi : Int), vs = [.int n, .str p.name, .ref a, .int ev, .int wi] ∧ SqA K H a xs ∧ (∀ x ∈ xs, Th K H x ∧ ∀ (q : Addr) (ys : List V), x = .ref q → H q = some (.tup ys) → ∀ y ∈ ys, Th K H y) ∧
  (24 < xs.length → ∀ d, H d = none → E (.ref CT) (some d) (upd H d (.xd [("limit", .int 24)]))) ∧
  (xs.length ≤ 24 → (∀ x ∈ xs, ItemOk p H x ev wi) → ∀ H', Same H H' → Q .non H') ∧
  (xs.length ≤ 24 → ∀ i x, xs[i]? = some x → (∀ (j : Nat) y, j < i → xs[j]? = some y → ItemOk p H y ev wi) → ¬ ItemOk p H x ev wi → ∀ H' d, Same H H' → H' d = none → E (.ref CB) (some d) (upd H' d (.xd [("index", .int i), ("place", .int n)])))
theorem ItemOk.back {K : Frag} {p : Pt} {H H' : Hp} {x : V} {ev wi : Int} (h : ItemOk p H' x ev wi) (th : Th K H x) (s : Same H H') : ItemOk p H x ev wi := by
  obtain ⟨a, xs, rfl, ha, hl, hs⟩ := h
  refine ⟨a, xs, rfl, ?_, hl, hs⟩
  have go : ∀ u, H a = some u → H a = some (.tup xs) := fun u hu => by
    have q := s _ _ hu
    rw [ha] at q
    rw [hu, ← q]
  cases th with
  | lst h => exact go _ h
  | tup h => exact go _ h
  | dct h => exact go _ h
  | ins h c => exact go _ h
  | dtt h => exact go _ h
theorem th_at {K : Frag} {H H' : Hp} {xs : List V} {x : V} (th : ∀ x ∈ xs, Th K H x ∧ ∀ (q : Addr) (ys : List V), x = .ref q → H q = some (.tup ys) → ∀ y ∈ ys, Th K H y) (s : Same H H') (hx : x ∈ xs) {q : Addr} {ys : List V} (e : x = .ref q) (hq : H' q = some (.tup ys)) : ∀ y ∈ ys, Th K H' y := by
  obtain ⟨t1, t2⟩ := th x hx
  have go : ∀ u, H q = some u → H q = some (.tup ys) := fun u hu => by
    have w := s _ _ hu
    rw [hq] at w
    rw [hu, ← w]
  intro y hy
  subst e
  have h0 : H q = some (.tup ys) := by
    cases t1 with
    | lst h => exact go _ h
    | tup h => exact go _ h
    | dct h => exact go _ h
    | ins h c => exact go _ h
    | dtt h => exact go _ h
  exact (t2 q ys rfl h0 y hy).same s
end
end EL

/- part K11A -/
namespace EL
open PySem PySem.Spec PyProof.Rows L2
open PySem.W (Frag)
abbrev s_NoFit_init : Stmt := inClass (top 5) 0
abbrev N_NoFit_init : List Str := ["self", "reason"]
theorem sc_NoFit_init : FnScope N_NoFit_init ["self", "reason"] (defScope s_NoFit_init) := ⟨rfl, rfl, rfl, by decide +kernel, rfl, by decide +kernel, by decide +kernel⟩
abbrev s_NoHelp_init : Stmt := inClass (top 6) 0
abbrev N_NoHelp_init : List Str := ["self", "reason"]
theorem sc_NoHelp_init : FnScope N_NoHelp_init ["self", "reason"] (defScope s_NoHelp_init) := ⟨rfl, rfl, rfl, by decide +kernel, rfl, by decide +kernel, by decide +kernel⟩
abbrev s_NotPlain_init : Stmt := inClass (top 7) 0
abbrev N_NotPlain_init : List Str := ["self", "index"]
theorem sc_NotPlain_init : FnScope N_NotPlain_init ["self", "index"] (defScope s_NotPlain_init) := ⟨rfl, rfl, rfl, by decide +kernel, rfl, by decide +kernel, by decide +kernel⟩
abbrev s_NoKinds_init : Stmt := inClass (top 8) 0
abbrev N_NoKinds_init : List Str := ["self", "kinds"]
theorem sc_NoKinds_init : FnScope N_NoKinds_init ["self", "kinds"] (defScope s_NoKinds_init) := ⟨rfl, rfl, rfl, by decide +kernel, rfl, by decide +kernel, by decide +kernel⟩
abbrev s_NoIndex_init : Stmt := inClass (top 9) 0
abbrev N_NoIndex_init : List Str := ["self", "index"]
theorem sc_NoIndex_init : FnScope N_NoIndex_init ["self", "index"] (defScope s_NoIndex_init) := ⟨rfl, rfl, rfl, by decide +kernel, rfl, by decide +kernel, by decide +kernel⟩
abbrev s_NoText_init : Stmt := inClass (top 11) 0
abbrev N_NoText_init : List Str := ["self", "line"]
theorem sc_NoText_init : FnScope N_NoText_init ["self", "line"] (defScope s_NoText_init) := ⟨rfl, rfl, rfl, by decide +kernel, rfl, by decide +kernel, by decide +kernel⟩
abbrev s_NoCommand_init : Stmt := inClass (top 12) 0
abbrev N_NoCommand_init : List Str := ["self", "line"]
theorem sc_NoCommand_init : FnScope N_NoCommand_init ["self", "line"] (defScope s_NoCommand_init) := ⟨rfl, rfl, rfl, by decide +kernel, rfl, by decide +kernel, by decide +kernel⟩
abbrev s_Nothing_init : Stmt := inClass (top 13) 0
abbrev N_Nothing_init : List Str := ["self"]
theorem sc_Nothing_init : FnScope N_Nothing_init ["self"] (defScope s_Nothing_init) := ⟨rfl, rfl, rfl, by decide +kernel, rfl, by decide +kernel, by decide +kernel⟩
abbrev s_CaseError_init : Stmt := inClass (top 1) 0
abbrev N_CaseError_init : List Str := ["self", "values"]
theorem sc_CaseError_init : FnScope N_CaseError_init ["self", "values"] (defScope s_CaseError_init) := ⟨rfl, rfl, rfl, by decide +kernel, rfl, by decide +kernel, by decide +kernel⟩
local macro_rules | `(tactic| walk_at "el1") => `(tactic| with_reducible first
  | refine a_sasg ?_ | refine a_sdrop ?_ | refine a_saugS ?_ | refine a_spar ?_ | refine a_seq ?_ | refine a_asg ?_ | refine a_drop ?_ | refine a_ret ?_ | refine a_if ?_ | refine a_next ?_
  | refine a_op ?_ | refine a_cons ?_ | refine a_nil ?_ | refine a_cb ?_ | refine a_call ?_ | refine a_c ?_ | refine a_gn ?_ | refine a_nx ?_ | refine a_rt ?_ | refine a_un ?_
  | refine a_test ?_ | refine a_B ?_ | refine a_bl ?_ | refine a_and ?_ | refine a_or ?_ | refine a_not ?_ | refine a_andV ?_ | refine a_orV ?_ | refine a_notV ?_ | refine a_ifx ?_ | refine a_chain ?_
  | refine a_nT ?_ | refine a_nF ?_ | refine a_fld ?_ | refine a_getF ?_ | refine a_T ?_ | refine a_F ?_ | refine a_tup ?_ | refine a_lst ?_ | refine a_sub ?_ | refine a_augS ?_ | refine a_two ?_ | refine a_I0 ?_ | refine a_U ?_ | refine n_add ?_ | refine n_int ?_ | refine n_ib ?_ | refine a_ip ?_ | refine a_rng1 ?_ | refine a_rng2 ?_ | refine a_bm ?_ | refine a_abs ?_ | refine a_pairs ?_ | refine a_pairs0 ?_ | refine a_bk ?_ | refine a_prp ?_ | refine a_lc ?_ | refine a_yes ?_ | refine a_sl ?_ | refine a_nop ?_ | refine a_prt ?_ | refine a_ex1 ?_ | refine a_for ?_ | refine a_sfor ?_ | refine a_iE1 ?_ | refine a_iEs ?_ | refine a_iEz ?_ | refine a_iEnum ?_ | refine a_iTup ?_ | refine a_iList ?_ | refine a_gcons ?_ | refine a_gnil ?_ | refine a_revT ?_ | refine a_spar3 ?_ | refine a_par3 ?_ | refine a_three ?_)
local macro_rules | `(tactic| walk_at "el2") => `(tactic| first
  | (refine a_var (by rfl) ?_)
  | (refine n_ixL (SqL.of (by assumption)) (by rfl) ?_) | (refine n_ixT (SqT.of (by assumption)) (by rfl) ?_) | (refine n_eq (by rfl) ?_) | (refine n_ne (by rfl) ?_)
  | (refine n_isN ?_) | (refine n_notN ?_) | (refine n_isB ?_) | (refine n_notB ?_) | (refine n_isBI ?_) | (refine n_notBI ?_) | (refine n_len (.inl (SqL.of (by assumption))) ?_) | (refine n_len (.inr (SqT.of (by assumption))) ?_)
  | (refine a_getL (SqL.of (by assumption)) (by rfl) ?_)
  | (refine n_isInt (by assumption) ?_) | (refine n_isBool (by assumption) ?_) | (refine n_isStr (by assumption) ?_) | (refine n_isTup (by assumption) ?_) | (refine n_isLst (by assumption) ?_))
local macro_rules | `(tactic| walk_at "el") => `(tactic| repeat (first | walk_at "el1" | walk_at "el2"))

theorem upd_at {H : Hp} {p : Addr} (_ : H p = none) (o : HO) : upd H p o p = some o := upd_same
theorem bagMu {H : Hp} {b c q : Addr} {o : HO} (h : Bag H b c) (nb : q ≠ b) (nc : q ≠ c) : Bag (upd H q o) b c := by
  obtain ⟨i, j, k, cs, h1, h2, h3, h4, h5, h6, h7, h8⟩ := h
  exact ⟨i, j, k, cs, by rw [upd_ne nb.symm]; exact h1, by rw [upd_ne nc.symm]; exact h2, h3, h4, h5, h6, h7, h8⟩
theorem bagNc {H : Hp} {b c q : Addr} (h : Bag H b c) (hq : H q = none) : q ≠ c := fun z => by
  obtain ⟨_, _, _, _, _, h2, _⟩ := h
  rw [z, h2] at hq
  cases hq
/-! ### the thirteen classes -/
def nmE : Nat → Str
  | 0 => "Wrong" | 1 => "BadItem" | 2 => "TooMany" | 3 => "NoFit" | 4 => "NoHelp" | 5 => "NotPlain" | 6 => "NoKinds" | 7 => "NoIndex" | 8 => "Unequal" | 9 => "NoText" | 10 => "NoCommand" | 11 => "Nothing" | _ => "CaseError"
def fsE (x y : V) : Nat → List (Str × V)
  | 0 => [("place", x)] | 1 => [("index", y), ("place", x)] | 2 => [("limit", x)] | 3 => [("reason", x)] | 4 => [("reason", x)] | 5 => [("index", x)] | 6 => [("kinds", x)] | 7 => [("index", x)] | 8 => [("other", y), ("one", x)] | 9 => [("line", x)] | 10 => [("line", x)] | _ => []
def fdE : Nat → List Str
  | 0 => ["place"] | 1 => ["place", "index"] | 2 => ["limit"] | 3 => ["reason"] | 4 => ["reason"] | 5 => ["index"] | 6 => ["kinds"] | 7 => ["index"] | 8 => ["one", "other"] | 9 => ["line"] | 10 => ["line"] | _ => []
def kitE (i j : Nat) : Bool := j == i || j == 12
structure Ers (K : Frag) (mg : Str → Option Value) (C : Nat → Addr) : Prop where
  g : ∀ i, i < 13 → mg (nmE i) = some (.ref (C i))
  x : ∀ i, i < 13 → ExcC K (C i)
  kit : ∀ i j, i < 13 → j < 13 → PySem.W.kitOne K (.ref (C i)) (.ref (C j)) = some (kitE i j)
  kitV : ∀ i, i < 13 → PySem.W.kitOne K (.ref (C i)) (.type "ValueError") = some true
  exm : ∀ i, i < 12 → PySem.W.exmOne K (.ref (C i)) (.ref (C 12)) = some true
  nf : ∀ i f, i < 13 → f ∈ fdE i → PySem.W.findIn K (.ref (C i)) f = some none
theorem xf_of {K : Frag} {D : Addr} (h : ExcC K D) : XfC K D := ⟨h.hg, h.hk, h.hs, h.hd⟩
/-- an error of class i with these fields -/
def ErrIs (C : Nat → Addr) (H : Hp) (a : Addr) (i : Nat) (x y : V) : Prop := (i < 11 ∧ ∃ dx, ErrAt H a (C i) dx (fsE x y i)) ∨ (i = 11 ∧ ErrN H a (C 11))
theorem errAt_same {H H' : Hp} {a C dx : Addr} {fs : List (Str × V)} (h : ErrAt H a C dx fs) (s : Same H H') : ErrAt H' a C dx fs :=
  ⟨h.1.elim (fun q => .inl (s _ _ q)) fun q => .inr (s _ _ q), h.2.elim (fun q => .inl (s _ _ q)) fun q => .inr (s _ _ q)⟩
theorem errN_same {H H' : Hp} {a C : Addr} (h : ErrN H a C) (s : Same H H') : ErrN H' a C := h.elim (fun q => .inl (s _ _ q)) fun q => .inr (s _ _ q)
theorem ErrIs.same {C : Nat → Addr} {H H' : Hp} {a : Addr} {i : Nat} {x y : V} (h : ErrIs C H a i x y) (s : Same H H') : ErrIs C H' a i x y :=
  h.elim (fun ⟨l, dx, q⟩ => .inl ⟨l, dx, errAt_same q s⟩) fun ⟨l, q⟩ => .inr ⟨l, errN_same q s⟩
/-! ### making one as a value -/
def VlR (C : Addr) (sp : Sp) (vs : List V) (H : Hp) (Q : VK) : Prop := vs.length ≤ 1000 ∧ ∀ a : Addr, H a = none → sp (.ref a :: (vs ++ [])) (upd H a (exo a C none)) (fun v H2 => v = .non ∧ Q (.ref a) H2) fun _ _ _ => False
theorem a_vl {C : Addr} {sp : Sp} {ta : TA} {σ : L2.St} {H : Hp} {Q : VK} (q : ta σ H fun vs H1 => VlR C sp vs H1 Q) : tVlO C sp [] ta σ H Q := q
theorem exo_heap {H : Hp} {a d C : Addr} {e : HO} (ha : H a = none) (hd : (upd H a (exo a C none)) d = none) (hn : d ≠ a) :
    Same H (upd (upd (upd H a (exo a C none)) d e) a (exo a C (some d))) := fun b o h => by
  have nb := ne_of_none h ha
  have nd : b ≠ d := fun z => by subst z; rw [upd_ne nb, h] at hd; cases hd
  rw [upd_ne nb, upd_ne nd, upd_ne nb]
  exact h
theorem n_vl1 {C : Addr} {fld : Str} {y : V} {H : Hp} {Q : VK} (q : ∀ a dx H2, H a = none → Same H H2 → ErrAt H2 a C dx [(fld, y)] → Q (.ref a) H2) : VlR C (spErr1 C fld) [y] H Q :=
  ⟨by show 1 ≤ 1000; decide, fun a ha => ⟨a, y, rfl, upd_same, fun d hd ne => ⟨rfl, q a d _ ha (exo_heap ha hd ne) ⟨.inl upd_same, .inl (by rw [upd_ne ne]; exact upd_same)⟩⟩⟩⟩
theorem n_vl2 {C : Addr} {f1 f2 : Str} {y z : V} {H : Hp} {Q : VK} (q : ∀ a dx H2, H a = none → Same H H2 → ErrAt H2 a C dx [(f2, z), (f1, y)] → Q (.ref a) H2) : VlR C (spErr2 C f1 f2) [y, z] H Q :=
  ⟨by show 2 ≤ 1000; decide, fun a ha => ⟨a, y, z, rfl, upd_same, fun d hd ne => ⟨rfl, q a d _ ha (L2.Same.mu (exo_heap ha hd ne) (nn hd).2) ⟨.inl (by rw [upd_ne ne.symm]; exact upd_same), .inl upd_same⟩⟩⟩⟩
theorem pe_err {X : Cx} {x : Str} {C : Addr} {ps : List Str} {sp : Sp} {e : Expr} {es : List Expr} {ta : TA} {p pos : Pos} (G : ErrG X.prog X.w X.K X.mg X.base x C ps sp) (hr : Room 2 X.A) (ha : PA X (e :: es) ta)
    (hg : Gl X x := by rfl) (hb : (x == ("__debug__" : Str)) = false := by decide) (he : starEach (e :: es) X.env = (false, eval e X.env) :: starEach es X.env := by rfl) (hpl : (backTo pos (starEach es X.env)).any (·.1) = false := by rfl) :
    PE X (.Call (.Name x p) (e :: es) [] pos) (tVlO C sp [] ta) := by
  obtain ⟨fI, fd, i, t, F, b⟩ := G.ex
  exact pe_oex G.o i t F hr b .nil pass0 hg G.g ha hb he hpl
/-- an error whose __init__ keeps nothing -/
structure ErrZ (P : Program) (w : World) (K : Frag) (mg : Str → Option Value) (base : Heap) (x : Str) (C : Addr) (sp : Sp) : Prop where
  ex : ∃ fI, PySem.W.findIn K (.ref C) "__init__" = some (some (.ref fI)) ∧ PySem.W.typeIn K (.ref fI) = some (.type "function") ∧ FnR P w K mg base CX0 1 fI sp
  o : OexC K C
  g : mg x = some (.ref C)
theorem pe_errZ {X : Cx} {x : Str} {C : Addr} {sp : Sp} {e : Expr} {es : List Expr} {ta : TA} {p pos : Pos} (G : ErrZ X.prog X.w X.K X.mg X.base x C sp) (hr : Room 2 X.A) (ha : PA X (e :: es) ta)
    (hg : Gl X x := by rfl) (hb : (x == ("__debug__" : Str)) = false := by decide) (he : starEach (e :: es) X.env = (false, eval e X.env) :: starEach es X.env := by rfl) (hpl : (backTo pos (starEach es X.env)).any (·.1) = false := by rfl) :
    PE X (.Call (.Name x p) (e :: es) [] pos) (tVlO C sp [] ta) := by
  obtain ⟨fI, i, t, F⟩ := G.ex
  exact pe_oexR G.o i t F hr pass0 hg G.g ha hb he hpl
theorem pe_errZ0 {X : Cx} {x : Str} {C : Addr} {sp : Sp} {p pos : Pos} (G : ErrZ X.prog X.w X.K X.mg X.base x C sp) (hr : Room 2 X.A)
    (hg : Gl X x := by rfl) (hb : (x == ("__debug__" : Str)) = false := by decide) : PE X (.Call (.Name x p) [] [] pos) (tVlO C sp [] tNil) := by
  obtain ⟨fI, i, t, F⟩ := G.ex
  exact pe_oexR0 G.o i t F hr pass0 hg G.g hb
theorem ps_errZ {X : Cx} {W : WX} {x : Str} {C : Addr} {sp : Sp} {p pos pos' : Pos} (G : ErrZ X.prog X.w X.K X.mg X.base x C sp) (hr : Room 2 X.A) (hc : X.calm = true) (tk : Takes X W)
    (hg : Gl X x := by rfl) (hb : (x == ("__debug__" : Str)) = false := by decide) : PS X (.Raise (some (.Call (.Name x p) [] [] pos)) none pos') (tRzN C sp W) := by
  obtain ⟨fI, i, t, F⟩ := G.ex
  exact ps_rzN G.o i t F hr pass0 G.g hc tk hg hb
/-- __init__(self): nothing is kept -/
def spNil : Sp := fun vs H Q _ => ∃ a, vs = [.ref a] ∧ Q .non H
/-- __init__(self, *values): nothing is kept -/
def spStar : Sp := fun vs H Q _ => ∃ (v : V) (rest : List V), vs = v :: rest ∧ rest.length ≤ 1000 ∧ ∀ p, H p = none → Q .non (upd H p (.tup rest))
theorem n_vlS {C : Addr} {vs : List V} {H : Hp} {Q : VK} (hl : vs.length ≤ 1000) (q : ∀ a H2, H a = none → Same H H2 → ErrN H2 a C → Q (.ref a) H2) : VlR C spStar vs H Q :=
  ⟨hl, fun a ha => ⟨.ref a, vs ++ [], rfl, by rw [List.append_nil]; exact hl, fun p hp => ⟨rfl, q a _ ha (L2.Same.nw (L2.Same.nw (Same.refl H) ha) hp) (.inl (by rw [upd_ne (fun z => by rw [← z, upd_same] at hp; cases hp)]; exact upd_same))⟩⟩⟩
theorem n_vlN {C : Addr} {H : Hp} {Q : VK} (q : ∀ a H2, H a = none → Same H H2 → ErrN H2 a C → Q (.ref a) H2) : VlR C spNil [] H Q :=
  ⟨by show 0 ≤ 1000; decide, fun a ha => ⟨a, rfl, rfl, q a _ ha (L2.Same.nw (Same.refl H) ha) (.inl upd_same)⟩⟩
section
variable {P : Program} {w : World} {K : Frag} {mg : Str → Option Value} {base : Heap} {f C : Addr} {fd : FuncData}
theorem ok_NoFit (F : Fun K "__init__" "NoFit.__init__" s_NoFit_init f fd) (O : OexC K C) (n : PySem.W.findIn K (.ref C) "reason" = some none) : FnOk P w K mg base CX0 1 f fd ["self", "reason"] (spErr1 C "reason") := by
  refine F.ok sc_NoFit_init (fun vs H Q E h => ?_) (fun cdv A outer s H vs Q E hr h => ?_)
  · obtain ⟨_, _, rfl, _⟩ := h
    rfl
  · obtain ⟨a, y, rfl, ha, k⟩ := h
    refine ⟨_, (pss_one (ps_ost (pv 0) (pv 1))), ?_⟩
    walk_at "el"
    refine ⟨a, C, rfl, O, n, .inl ⟨ha, fun dx hd ne => ?_⟩⟩
    walk_at "el"
    exact k dx hd ne
theorem ok_NoHelp (F : Fun K "__init__" "NoHelp.__init__" s_NoHelp_init f fd) (O : OexC K C) (n : PySem.W.findIn K (.ref C) "reason" = some none) : FnOk P w K mg base CX0 1 f fd ["self", "reason"] (spErr1 C "reason") := by
  refine F.ok sc_NoHelp_init (fun vs H Q E h => ?_) (fun cdv A outer s H vs Q E hr h => ?_)
  · obtain ⟨_, _, rfl, _⟩ := h
    rfl
  · obtain ⟨a, y, rfl, ha, k⟩ := h
    refine ⟨_, (pss_one (ps_ost (pv 0) (pv 1))), ?_⟩
    walk_at "el"
    refine ⟨a, C, rfl, O, n, .inl ⟨ha, fun dx hd ne => ?_⟩⟩
    walk_at "el"
    exact k dx hd ne
theorem ok_NotPlain (F : Fun K "__init__" "NotPlain.__init__" s_NotPlain_init f fd) (O : OexC K C) (n : PySem.W.findIn K (.ref C) "index" = some none) : FnOk P w K mg base CX0 1 f fd ["self", "index"] (spErr1 C "index") := by
  refine F.ok sc_NotPlain_init (fun vs H Q E h => ?_) (fun cdv A outer s H vs Q E hr h => ?_)
  · obtain ⟨_, _, rfl, _⟩ := h
    rfl
  · obtain ⟨a, y, rfl, ha, k⟩ := h
    refine ⟨_, (pss_one (ps_ost (pv 0) (pv 1))), ?_⟩
    walk_at "el"
    refine ⟨a, C, rfl, O, n, .inl ⟨ha, fun dx hd ne => ?_⟩⟩
    walk_at "el"
    exact k dx hd ne
theorem ok_NoKinds (F : Fun K "__init__" "NoKinds.__init__" s_NoKinds_init f fd) (O : OexC K C) (n : PySem.W.findIn K (.ref C) "kinds" = some none) : FnOk P w K mg base CX0 1 f fd ["self", "kinds"] (spErr1 C "kinds") := by
  refine F.ok sc_NoKinds_init (fun vs H Q E h => ?_) (fun cdv A outer s H vs Q E hr h => ?_)
  · obtain ⟨_, _, rfl, _⟩ := h
    rfl
  · obtain ⟨a, y, rfl, ha, k⟩ := h
    refine ⟨_, (pss_one (ps_ost (pv 0) (pv 1))), ?_⟩
    walk_at "el"
    refine ⟨a, C, rfl, O, n, .inl ⟨ha, fun dx hd ne => ?_⟩⟩
    walk_at "el"
    exact k dx hd ne
theorem ok_NoIndex (F : Fun K "__init__" "NoIndex.__init__" s_NoIndex_init f fd) (O : OexC K C) (n : PySem.W.findIn K (.ref C) "index" = some none) : FnOk P w K mg base CX0 1 f fd ["self", "index"] (spErr1 C "index") := by
  refine F.ok sc_NoIndex_init (fun vs H Q E h => ?_) (fun cdv A outer s H vs Q E hr h => ?_)
  · obtain ⟨_, _, rfl, _⟩ := h
    rfl
  · obtain ⟨a, y, rfl, ha, k⟩ := h
    refine ⟨_, (pss_one (ps_ost (pv 0) (pv 1))), ?_⟩
    walk_at "el"
    refine ⟨a, C, rfl, O, n, .inl ⟨ha, fun dx hd ne => ?_⟩⟩
    walk_at "el"
    exact k dx hd ne
theorem ok_NoText (F : Fun K "__init__" "NoText.__init__" s_NoText_init f fd) (O : OexC K C) (n : PySem.W.findIn K (.ref C) "line" = some none) : FnOk P w K mg base CX0 1 f fd ["self", "line"] (spErr1 C "line") := by
  refine F.ok sc_NoText_init (fun vs H Q E h => ?_) (fun cdv A outer s H vs Q E hr h => ?_)
  · obtain ⟨_, _, rfl, _⟩ := h
    rfl
  · obtain ⟨a, y, rfl, ha, k⟩ := h
    refine ⟨_, (pss_one (ps_ost (pv 0) (pv 1))), ?_⟩
    walk_at "el"
    refine ⟨a, C, rfl, O, n, .inl ⟨ha, fun dx hd ne => ?_⟩⟩
    walk_at "el"
    exact k dx hd ne
theorem ok_NoCommand (F : Fun K "__init__" "NoCommand.__init__" s_NoCommand_init f fd) (O : OexC K C) (n : PySem.W.findIn K (.ref C) "line" = some none) : FnOk P w K mg base CX0 1 f fd ["self", "line"] (spErr1 C "line") := by
  refine F.ok sc_NoCommand_init (fun vs H Q E h => ?_) (fun cdv A outer s H vs Q E hr h => ?_)
  · obtain ⟨_, _, rfl, _⟩ := h
    rfl
  · obtain ⟨a, y, rfl, ha, k⟩ := h
    refine ⟨_, (pss_one (ps_ost (pv 0) (pv 1))), ?_⟩
    walk_at "el"
    refine ⟨a, C, rfl, O, n, .inl ⟨ha, fun dx hd ne => ?_⟩⟩
    walk_at "el"
    exact k dx hd ne
theorem ok_Unequal (F : Fun K "__init__" "Unequal.__init__" s_Unequal_init f fd) (O : OexC K C) (n : PySem.W.findIn K (.ref C) "one" = some none) (n2 : PySem.W.findIn K (.ref C) "other" = some none) : FnOk P w K mg base CX0 1 f fd ["self", "one", "other"] (spErr2 C "one" "other") := by
  refine F.ok sc_Unequal_init (fun vs H Q E h => ?_) (fun cdv A outer s H vs Q E hr h => ?_)
  · obtain ⟨_, _, _, rfl, _⟩ := h
    rfl
  · obtain ⟨a, y, z, rfl, ha, k⟩ := h
    refine ⟨_, (pss_cons (ps_ost (pv 0) (pv 1))
  (pss_one (ps_ost (pv 0) (pv 2)))), ?_⟩
    walk_at "el"
    refine ⟨a, C, rfl, O, n, .inl ⟨ha, fun dx hd ne => ?_⟩⟩
    walk_at "el"
    refine ⟨a, C, rfl, O, n2, .inr ⟨dx, [("one", y)], upd_same, by rw [upd_ne ne]; exact upd_same, by show 1 ≤ 900; decide, ?_⟩⟩
    walk_at "el"
    exact k dx hd ne
theorem ok_Nothing (F : Fun K "__init__" "Nothing.__init__" s_Nothing_init f fd) : FnOk P w K mg base CX0 1 f fd ["self"] spNil := by
  refine F.ok sc_Nothing_init (fun vs H Q E h => ?_) (fun cdv A outer s H vs Q E hr h => ?_)
  · obtain ⟨_, rfl, _⟩ := h
    rfl
  · obtain ⟨a, rfl, k⟩ := h
    refine ⟨_, (pss_one ps_pass), ?_⟩
    walk_at "el"
    exact k
theorem ok_CaseError {oc kV doc pm cdv ct : Value} {od an : Option Addr} {osl : Array (Option Value)} (lk : K.lookup f = some ⟨oc, od, .func (PySem.W.fnOf "__init__" "CaseError.__init__" (defArgs s_CaseError_init) (defBody s_CaseError_init) (defScope s_CaseError_init) .none kV doc pm an cdv ct), osl⟩)
    (hcd : PySem.W.codeIn K cdv "CaseError.__init__" = true) : FnR P w K mg base CX0 1 f spStar := by
  refine FnR.imp (StX.fn_star (ps := ["self"]) (pv := "values") (sp := fun vs H Q E => ∃ a b, vs = [a, b] ∧ Q .non H) lk hcd sc_CaseError_init StX.cxUp_none (fun us rest hl => ?_) fun A outer s H vs Q E hr h => ?_) fun vs H Q E h => ?_
  · match us, hl, rest with
    | [u], _, [] => rfl
    | [u], _, r :: rs => rfl
  · obtain ⟨a, b, rfl, k⟩ := h
    refine ⟨_, (pss_one ps_pass), ?_⟩
    walk_at "el"
    exact k
  · obtain ⟨v, rest, rfl, hl, k⟩ := h
    exact ⟨[v], rest, rfl, rfl, Nat.le_trans hl (by decide), fun p hp => ⟨v, .ref p, rfl, k p hp⟩⟩
end
end EL

/- part K11B -/
namespace EL
open PySem PySem.Spec PyProof.Rows L2
open PySem.W (Frag)
abbrev s_value : Stmt := top 18
abbrev N_value : List Str := ["_law_bag_here", "_law_menu"]
theorem sc_value : FnScope N_value ["_law_bag_here"] (defScope s_value) := ⟨rfl, rfl, rfl, by decide +kernel, rfl, by decide +kernel, by decide +kernel⟩
abbrev s_flags : Stmt := top 19
abbrev N_flags : List Str := ["_law_error", "_law_found"]
theorem sc_flags : FnScope N_flags ["_law_error"] (defScope s_flags) := ⟨rfl, rfl, rfl, by decide +kernel, rfl, by decide +kernel, by decide +kernel⟩
abbrev s_made : Stmt := top 20
abbrev N_made : List Str := ["_law_at", "_law_first", "_law_second"]
theorem sc_made : FnScope N_made ["_law_at", "_law_first", "_law_second"] (defScope s_made) := ⟨rfl, rfl, rfl, by decide +kernel, rfl, by decide +kernel, by decide +kernel⟩
abbrev s_fields : Stmt := top 21
abbrev N_fields : List Str := ["_law_at", "_law_error"]
theorem sc_fields : FnScope N_fields ["_law_at", "_law_error"] (defScope s_fields) := ⟨rfl, rfl, rfl, by decide +kernel, rfl, by decide +kernel, by decide +kernel⟩
abbrev s_thrown : Stmt := top 22
abbrev N_thrown : List Str := ["_law_at", "_law_first", "_law_second"]
theorem sc_thrown : FnScope N_thrown ["_law_at", "_law_first", "_law_second"] (defScope s_thrown) := ⟨rfl, rfl, rfl, by decide +kernel, rfl, by decide +kernel, by decide +kernel⟩
abbrev s_raised : Stmt := top 23
abbrev N_raised : List Str := ["_law_at", "_law_first", "_law_second", "e"]
theorem sc_raised : FnScope N_raised ["_law_at", "_law_first", "_law_second"] (defScope s_raised) := ⟨rfl, rfl, rfl, by decide +kernel, rfl, by decide +kernel, by decide +kernel⟩
local macro_rules | `(tactic| walk_at "el1") => `(tactic| with_reducible first
  | refine a_sasg ?_ | refine a_sdrop ?_ | refine a_saugS ?_ | refine a_spar ?_ | refine a_seq ?_ | refine a_asg ?_ | refine a_drop ?_ | refine a_ret ?_ | refine a_if ?_ | refine a_next ?_
  | refine a_op ?_ | refine a_cons ?_ | refine a_nil ?_ | refine a_cb ?_ | refine a_call ?_ | refine a_c ?_ | refine a_gn ?_ | refine a_nx ?_ | refine a_rt ?_ | refine a_un ?_
  | refine a_test ?_ | refine a_B ?_ | refine a_bl ?_ | refine a_and ?_ | refine a_or ?_ | refine a_not ?_ | refine a_andV ?_ | refine a_orV ?_ | refine a_notV ?_ | refine a_ifx ?_ | refine a_chain ?_
  | refine a_nT ?_ | refine a_nF ?_ | refine a_fld ?_ | refine a_getF ?_ | refine a_T ?_ | refine a_F ?_ | refine a_tup ?_ | refine a_lst ?_ | refine a_sub ?_ | refine a_augS ?_ | refine a_two ?_ | refine a_I0 ?_ | refine a_U ?_ | refine n_add ?_ | refine n_int ?_ | refine n_ib ?_ | refine a_ip ?_ | refine a_rng1 ?_ | refine a_rng2 ?_ | refine a_bm ?_ | refine a_abs ?_ | refine a_pairs ?_ | refine a_pairs0 ?_ | refine a_bk ?_ | refine a_prp ?_ | refine a_lc ?_ | refine a_yes ?_ | refine a_sl ?_ | refine a_nop ?_ | refine a_prt ?_ | refine a_ex1 ?_ | refine a_for ?_ | refine a_sfor ?_ | refine a_iE1 ?_ | refine a_iEs ?_ | refine a_iEz ?_ | refine a_iEnum ?_ | refine a_iTup ?_ | refine a_iList ?_ | refine a_gcons ?_ | refine a_gnil ?_ | refine a_revT ?_ | refine a_spar3 ?_ | refine a_par3 ?_ | refine a_three ?_)
local macro_rules | `(tactic| walk_at "el2") => `(tactic| first
  | (refine a_var (by rfl) ?_)
  | (refine n_ixL (SqL.of (by assumption)) (by rfl) ?_) | (refine n_ixT (SqT.of (by assumption)) (by rfl) ?_) | (refine n_eq (by rfl) ?_) | (refine n_ne (by rfl) ?_)
  | (refine n_isN ?_) | (refine n_notN ?_) | (refine n_isB ?_) | (refine n_notB ?_) | (refine n_isBI ?_) | (refine n_notBI ?_) | (refine n_len (.inl (SqL.of (by assumption))) ?_) | (refine n_len (.inr (SqT.of (by assumption))) ?_)
  | (refine a_getL (SqL.of (by assumption)) (by rfl) ?_)
  | (refine n_isInt (by assumption) ?_) | (refine n_isBool (by assumption) ?_) | (refine n_isStr (by assumption) ?_) | (refine n_isTup (by assumption) ?_) | (refine n_isLst (by assumption) ?_))
local macro_rules | `(tactic| walk_at "el") => `(tactic| repeat (first | walk_at "el1" | walk_at "el2"))

theorem a_callS {sp : Sp} {E : L2.St → XK} {t : TA} {σ : L2.St} {H : Hp} {Q : VK} (q : t σ H fun vs H1 => sp vs H1 Q (E σ)) : tCallS sp E t σ H Q := q
theorem ieq {i : Nat} {j : Int} (h : decide (V.int i = V.int j) = true) : (i : Int) = j := by
  have := of_decide_eq_true h
  cases this
  rfl
theorem inv2 {i : Nat} {j k : Int} : inV (.int i) [.int j, .int k] = (decide ((i : Int) = j) || decide ((i : Int) = k)) := by
  have e : ∀ a b : Int, (a == b) = decide (b = a) := fun a b => by
    by_cases z : b = a
    · subst z; rw [decide_eq_true rfl]; exact beq_self_eq_true _
    · rw [decide_eq_false z]; exact beq_eq_false_iff_ne.mpr (Ne.symm z)
  simp only [inV, List.any_cons, List.any_nil, Bool.or_false, eqV, e]
theorem nieq {i : Nat} {j : Int} (h : ¬ decide (V.int i = V.int j) = true) : (i : Int) ≠ j := fun z => h (by rw [z]; exact decide_eq_true rfl)
/-! ### a value of many kinds -/
mutual
def gdx : PyData → Bool
  | .none | .bool _ => true
  | .int i => decide (i.natAbs < 10 ^ 60)
  | .str x => x.cps.toList.all fun c => decide (c < 16 ^ 8)
  | .list xs | .tuple xs => gdxAll xs
  | .dict kvs => gdxKv kvs
def gdxAll : List PyData → Bool
  | [] => true
  | x :: xs => gdx x && gdxAll xs
def gdxKv : List (PyData × PyData) → Bool
  | [] => true
  | (k, v) :: r => gdx k && gdx v && gdxKv r
end
mutual
theorem gdx_showable : ∀ (d : PyData), gdx d = true → d.showable = true
  | .none, _ => rfl
  | .bool _, _ => rfl
  | .str _, _ => rfl
  | .int i, h => by
    have q : i.natAbs < 10 ^ 60 := by simpa [gdx] using h
    have q2 : i.natAbs < 2 ^ 1920 := Nat.lt_of_lt_of_le q (by decide +kernel)
    show decide (i.natAbs.log2 < 1920) = true
    rw [decide_eq_true_iff]
    by_cases e : i.natAbs = 0
    · rw [e]; decide
    · exact (Nat.log2_lt e).mpr q2
  | .list xs, h => gdx_showableAll xs h
  | .tuple xs, h => gdx_showableAll xs h
  | .dict xs, h => gdx_showableKv xs h
theorem gdx_showableAll : ∀ (ds : List PyData), gdxAll ds = true → PyData.showableAll ds = true
  | [], _ => rfl
  | d :: ds, h => by
    have q : gdx d = true ∧ gdxAll ds = true := by simpa [gdxAll] using h
    show (d.showable && PyData.showableAll ds) = true
    rw [gdx_showable d q.1, gdx_showableAll ds q.2]
    rfl
theorem gdx_showableKv : ∀ (ds : List (PyData × PyData)), gdxKv ds = true → PyData.showableKv ds = true
  | [], _ => rfl
  | (k, d) :: ds, h => by
    have q : (gdx k = true ∧ gdx d = true) ∧ gdxKv ds = true := by simpa [gdxKv] using h
    show (k.showable && d.showable && PyData.showableKv ds) = true
    rw [gdx_showable k q.1.1, gdx_showable d q.1.2, gdx_showableKv ds q.2]
    rfl
end
mutual
theorem gdx_short : ∀ (d : PyData), gdx d = true → d.leavesShort 70 = true
  | .none, _ => rfl
  | .bool _, _ => rfl
  | .str _, h => h
  | .int i, h => by
    have q : i.natAbs < 10 ^ 60 := by simpa [gdx] using h
    show decide (_ ≤ 70) = true
    rw [decide_eq_true_iff]
    have q := int_text_length_le10 (a := i) (k := 60) (by decide) q
    have e : (PyData.shown (.int i)).length = (toString i).length := by
      show (Str.ofString (toString i)).length = _
      exact PySem.ofString_length _
    omega
  | .list xs, h => gdx_shortAll xs h
  | .tuple xs, h => gdx_shortAll xs h
  | .dict xs, h => gdx_shortKv xs h
theorem gdx_shortAll : ∀ (ds : List PyData), gdxAll ds = true → PyData.leavesShortAll 70 ds = true
  | [], _ => rfl
  | d :: ds, h => by
    have q : gdx d = true ∧ gdxAll ds = true := by simpa [gdxAll] using h
    show (d.leavesShort 70 && PyData.leavesShortAll 70 ds) = true
    rw [gdx_short d q.1, gdx_shortAll ds q.2]
    rfl
theorem gdx_shortKv : ∀ (ds : List (PyData × PyData)), gdxKv ds = true → PyData.leavesShortKv 70 ds = true
  | [], _ => rfl
  | (k, d) :: ds, h => by
    have q : (gdx k = true ∧ gdx d = true) ∧ gdxKv ds = true := by simpa [gdxKv] using h
    show (k.leavesShort 70 && d.leavesShort 70 && PyData.leavesShortKv 70 ds) = true
    rw [gdx_short k q.1.1, gdx_short d q.1.2, gdx_shortKv ds q.2]
    rfl
end
structure Sm (d : PyData) : Prop where
  good : gdx d = true
  bulk : d.bulk ≤ 20
  depth : d.depth ≤ 5
/-- a value that is drawn: known apart from the bag -/
def spVal : Sp := fun vs H Q _ => ∃ (b c : Addr), vs = [.ref b] ∧ Bag H b c ∧ ∀ x d N H', Bag H' b c → Kp b H H' → Sm d → Td N x d → Same N H' → (∀ a, H a ≠ none → N a = none) → Q x H'
/-- what is new since H -/
def only (H H' : Hp) : Hp := fun a => match H a with | none => H' a | some _ => none
theorem only_at {H H' : Hp} {a : Addr} {o : HO} (h : H a = none) (g : H' a = some o) : only H H' a = some o := by unfold only; rw [h]; exact g
theorem only_no {H H' : Hp} {a : Addr} (h : H a ≠ none) : only H H' a = none := by
  unfold only
  cases e : H a with
  | none => exact absurd e h
  | some o => rfl
theorem only_of {H H' : Hp} {a : Addr} {o : HO} (h : only H H' a = some o) : H a = none ∧ H' a = some o := by
  unfold only at h
  cases e : H a with
  | none => rw [e] at h; exact ⟨rfl, h⟩
  | some u => rw [e] at h; cases h
/-- thirteen answers -/
def flD (i : Nat) : List PyData := (List.range 13).map fun j => .bool (kitE i j)
def spFlags (C : Nat → Addr) : Sp := fun vs H Q _ => ∃ (a : Addr) (i : Nat), vs = [.ref a] ∧ i < 13 ∧ ((∃ dx fs, ErrAt H a (C i) dx fs) ∨ ErrN H a (C i)) ∧ ∀ l xs H', Same H H' → H' l = some (.lst xs) → TdAll H' xs (flD i) → Q (.ref l) H'
def spMade (C : Nat → Addr) : Sp := fun vs H Q _ => ∃ (i : Nat) (x y : V), vs = [.int i, x, y] ∧ i < 12 ∧ ∀ a H', Same H H' → H a = none → ErrIs C H' a i x y → Q (.ref a) H'
def flE (x y : V) (i : Nat) : List V := if i = 1 ∨ i = 8 then [x, y] else if i < 11 then [x] else []
def spFields (C : Nat → Addr) : Sp := fun vs H Q _ => ∃ (i : Nat) (a : Addr) (x y : V), vs = [.int i, .ref a] ∧ i < 12 ∧ ErrIs C H a i x y ∧ ∀ l H', Same H H' → H' l = some (.lst (flE x y i)) → Q (.ref l) H'
def spThrown (C : Nat → Addr) : Sp := fun vs H Q E => ∃ (i : Nat) (x y : V), vs = [.int i, x, y] ∧ i < 12 ∧ ∀ d H', Same H H' → ((i < 11 ∧ ∃ dx, d = some dx ∧ H' dx = some (.xd (fsE x y i))) ∨ (i = 11 ∧ d = none)) → E (.ref (C i)) d H'
section
variable {P : Program} {w : World} {K : Frag} {mg : Str → Option Value} {base : Heap} {f : Addr} {C : Nat → Addr} {fd : FuncData}
theorem ok_value (F : Fun K "_law_value" "_law_value" s_value f fd) (T : Tb mg) (c_one : Cal P w K mg base CX0 2 "_law_one" ["_law_bag_here", "_law_menu"] (spOne K)) : FnOk P w K mg base CX0 3 f fd ["_law_bag_here"] spVal := by
  refine F.ok sc_value (fun vs H Q E h => ?_) (fun cdv A outer s H vs Q E hr h => ?_)
  · obtain ⟨_, _, rfl, _⟩ := h
    rfl
  · obtain ⟨b, c, rfl, hb, k⟩ := h
    refine ⟨_, (pss_cons (ps_set (i := 1) sc_value.nd rfl (Or.inl rfl) (pe_lst (pa_cons pe_non (pa_cons pe_int (pa_cons (pe_un un_neg pe_int) (pa_cons pe_bl (pa_cons pe_str (pa_cons pe_str (pa_cons pe_str (pa_cons (pe_tup pa_nil) (pa_cons (pe_tup (pa_cons pe_int (pa_cons pe_str pa_nil))) (pa_cons (pe_lst pa_nil) (pa_cons pe_dnewK (pa_cons (pe_op op_sub (pe_op op_pow pe_int pe_int) pe_int) (pa_cons (pe_op op_sub pe_int (pe_op op_pow pe_int pe_int)) (pa_cons (pe_lst (pa_cons (pe_lst pa_nil) pa_nil)) (pa_cons (pe_tup (pa_cons pe_int (pa_cons (pe_lst pa_nil) pa_nil))) pa_nil)))))))))))))))))
  (pss_cons (ps_expr (pe_bm PySem.F.plainAttrs_list PySem.F.slot_list_append PySem.F.type_list_append mt_append (pv 1) (pa_cons (pe_disp (pps_cons pe_int (pe_lst (pa_cons pe_int pa_nil)) pps_nil) (by rfl) (by rfl) (fun z => by cases z) (by decide)) pa_nil)))
  (pss_one (ps_ret (pe_cal c_one (hr.mono (by decide)) pass0 (pa_cons (pv 0) (pa_cons (pv 1) pa_nil))))))), ?_⟩
    walk_at "el"
    refine ⟨by show 0 ≤ sizeLine; decide, fun p1 hp1 => ?_⟩
    have e1 := nw_of hp1 (.tup [])
    have g1 := upd_at hp1 (.tup [])
    generalize upd H p1 (.tup []) = H1 at e1 g1 ⊢
    walk_at "el"
    refine ⟨by show 2 ≤ sizeLine; decide, fun p2 hp2 => ?_⟩
    have e2 := nw_of hp2 (.tup [.int 1, .str "x"])
    have g2 := upd_at hp2 (.tup [.int 1, .str "x"])
    generalize upd H1 p2 (.tup [.int 1, .str "x"]) = H2 at e2 g2 ⊢
    walk_at "el"
    refine ⟨by show 0 ≤ sizeLine; decide, fun p3 hp3 => ?_⟩
    have e3 := nw_of hp3 (.lst [])
    have g3 := upd_at hp3 (.lst [])
    generalize upd H2 p3 (.lst []) = H3 at e3 g3 ⊢
    walk_at "el"
    intro p4 hp4
    have e4 := nw_of hp4 (.dK [])
    have g4 := upd_at hp4 (.dK [])
    generalize upd H3 p4 (.dK []) = H4 at e4 g4 ⊢
    walk_at "el"
    refine a_I ⟨by decide, by decide, by decide⟩ ?_
    walk_at "el"
    refine a_I ⟨by decide, by decide, by decide⟩ ?_
    walk_at "el"
    refine ⟨by show 0 ≤ sizeLine; decide, fun p5 hp5 => ?_⟩
    have e5 := nw_of hp5 (.lst [])
    have g5 := upd_at hp5 (.lst [])
    generalize upd H4 p5 (.lst []) = H5 at e5 g5 ⊢
    walk_at "el"
    refine ⟨by show 1 ≤ sizeLine; decide, fun p6 hp6 => ?_⟩
    have e6 := nw_of hp6 (.lst [.ref p5])
    have g6 := upd_at hp6 (.lst [.ref p5])
    generalize upd H5 p6 (.lst [.ref p5]) = H6 at e6 g6 ⊢
    walk_at "el"
    refine ⟨by show 0 ≤ sizeLine; decide, fun p7 hp7 => ?_⟩
    have e7 := nw_of hp7 (.lst [])
    have g7 := upd_at hp7 (.lst [])
    generalize upd H6 p7 (.lst []) = H7 at e7 g7 ⊢
    walk_at "el"
    refine ⟨by show 2 ≤ sizeLine; decide, fun p8 hp8 => ?_⟩
    have e8 := nw_of hp8 (.tup [.int 0, .ref p7])
    have g8 := upd_at hp8 (.tup [.int 0, .ref p7])
    generalize upd H7 p8 (.tup [.int 0, .ref p7]) = H8 at e8 g8 ⊢
    walk_at "el"
    refine ⟨by show 15 ≤ sizeLine; decide, fun m hm => ?_⟩
    generalize hL : ([V.non, .int 0, .int (-1), .bl true, .str "", .str "0", .str "early", .ref p1, .ref p2, .ref p3, .ref p4, .int ((10 : Int) ^ (60 : Int).toNat - 1), .int (1 - (10 : Int) ^ (60 : Int).toNat), .ref p6, .ref p8] : List V) = L
    have hL : L = [.non, .int 0, .int (-1), .bl true, .str "", .str "0", .str "early", .ref p1, .ref p2, .ref p3, .ref p4, .int ((10 : Int) ^ (60 : Int).toNat - 1), .int (1 - (10 : Int) ^ (60 : Int).toNat), .ref p6, .ref p8] := hL.symm
    have e9 := nw_of hm (.lst L)
    have g9 := upd_at hm (.lst L)
    generalize upd H8 m (.lst L) = H9 at e9 g9 ⊢
    walk_at "el"
    refine ⟨.inl ⟨rfl, _, SqL.of g9⟩, ?_⟩
    walk_at "el"
    intro p9 hp9
    have e10 := nw_of hp9 (.dK [])
    have g10 := upd_at hp9 (.dK [])
    generalize upd H9 p9 (.dK []) = H10 at e10 g10 ⊢
    walk_at "el"
    refine ⟨by show 1 ≤ sizeLine; decide, fun p10 hp10 => ?_⟩
    have e11 := nw_of hp10 (.lst [.int 2])
    have g11 := upd_at hp10 (.lst [.int 2])
    generalize upd H10 p10 (.lst [.int 2]) = H11 at e11 g11 ⊢
    walk_at "el"
    refine ⟨e11 _ _ g10, [(.inl 1, .ref p10)], rfl, by show 1 ≤ 15; decide, ?_⟩
    have e12 : Same H9 (upd H11 p9 (.dK (mergeK [] [(.inl 1, .ref p10)]))) := L2.Same.mu (e10.trans e11) hp9
    have g12 : upd H11 p9 (.dK (mergeK [] [(.inl 1, .ref p10)])) p9 = some (.dK [(.inl 1, .ref p10)]) := upd_same
    have g11 : upd H11 p9 (.dK (mergeK [] [(.inl 1, .ref p10)])) p10 = some (.lst [.int 2]) := by rw [upd_ne (fun z => by rw [z, g10] at hp10; cases hp10)]; exact g11
    generalize upd H11 p9 (.dK (mergeK [] [(.inl 1, .ref p10)])) = H12 at e12 g12 g11 ⊢
    refine ⟨m, _, _, rfl, rfl, e12 _ _ g9, by rw [hL]; show 15 < sizeLine; decide, ?_⟩
    walk_at "el"
    have s13 : Same H (upd H12 m (.lst (L ++ [.ref p9]))) := (((((((e1.trans e2).trans e3).trans e4).trans e5).trans e6).trans e7).trans e8).trans (L2.Same.mu (e9.trans e12) hm)
    have g13 : upd H12 m (.lst (L ++ [.ref p9])) m = some (.lst (L ++ [.ref p9])) := upd_same
    have e13 : Same H8 (upd H12 m (.lst (L ++ [.ref p9]))) := L2.Same.mu (e9.trans e12) hm
    have nm9 : p9 ≠ m := fun z => by subst z; rw [g9] at hp9; cases hp9
    have nm10 : p10 ≠ m := fun z => by subst z; rw [e10 _ _ g9] at hp10; cases hp10
    have g12 : upd H12 m (.lst (L ++ [.ref p9])) p9 = some (.dK [(.inl 1, .ref p10)]) := by rw [upd_ne nm9]; exact g12
    have g11 : upd H12 m (.lst (L ++ [.ref p9])) p10 = some (.lst [.int 2]) := by rw [upd_ne nm10]; exact g11
    generalize upd H12 m (.lst (L ++ [.ref p9])) = H13 at s13 g13 e13 g12 g11 ⊢
    have b8 := (((((((hb.same e1).same e2).same e3).same e4).same e5).same e6).same e7).same e8
    have nm := b8.ne hm
    have t1 := e1
    have t2 := t1.trans e2
    have t3 := t2.trans e3
    have t4 := t3.trans e4
    have t5 := t4.trans e5
    have t6 := t5.trans e6
    have t7 := t6.trans e7
    have t8 := t7.trans e8
    have h8 := only_at (t7.free hp8) (e13 _ _ g8)
    have h7 := only_at (t6.free hp7) (e13 _ _ (e8 _ _ g7))
    have h6 := only_at (t5.free hp6) (e13 _ _ (e8 _ _ (e7 _ _ g6)))
    have h5 := only_at (t4.free hp5) (e13 _ _ (e8 _ _ (e7 _ _ (e6 _ _ g5))))
    have h4 := only_at (t3.free hp4) (e13 _ _ (e8 _ _ (e7 _ _ (e6 _ _ (e5 _ _ g4)))))
    have h3 := only_at (t2.free hp3) (e13 _ _ (e8 _ _ (e7 _ _ (e6 _ _ (e5 _ _ (e4 _ _ g3))))))
    have h2 := only_at (t1.free hp2) (e13 _ _ (e8 _ _ (e7 _ _ (e6 _ _ (e5 _ _ (e4 _ _ (e3 _ _ g2)))))))
    have h1 := only_at hp1 (e13 _ _ (e8 _ _ (e7 _ _ (e6 _ _ (e5 _ _ (e4 _ _ (e3 _ _ (e2 _ _ g1))))))))
    have h9 := only_at ((t8.trans e9).free hp9) g12
    have h10 := only_at (((t8.trans e9).trans e10).free hp10) g11
    have all : ∀ x ∈ L ++ [V.ref p9], ∃ d, Sm d ∧ Td (only H H13) x d := by
      rw [hL]
      refine all_app (all_cons ⟨_, ?_, .non⟩ (all_cons ⟨_, ?_, .int _⟩ (all_cons ⟨_, ?_, .int _⟩ (all_cons ⟨_, ?_, .bl _⟩ (all_cons ⟨_, ?_, .str _⟩ (all_cons ⟨_, ?_, .str _⟩ (all_cons ⟨_, ?_, .str _⟩ (all_cons ⟨_, ?_, .tup h1 .nil⟩ (all_cons ⟨_, ?_, .tup h2 (.cons (.int _) (.cons (.str _) .nil))⟩
        (all_cons ⟨_, ?_, .lst h3 .nil⟩ (all_cons ⟨_, ?_, .dct h4 .nil⟩ (all_cons ⟨_, ?_, .int _⟩ (all_cons ⟨_, ?_, .int _⟩ (all_cons ⟨_, ?_, .lst h6 (.cons (.lst h5 .nil) .nil)⟩ (all_cons ⟨_, ?_, .tup h8 (.cons (.int _) (.cons (.lst h7 .nil) .nil))⟩ all_nil)))))))))))))))
        (all_cons ⟨_, ?_, .dct h9 (.cons (.lst h10 (.cons (.int _) .nil)) .nil)⟩ all_nil) <;> exact ⟨by decide +kernel, by decide +kernel, by decide +kernel⟩
    walk_at "el"
    refine ⟨b, c, m, _, rfl, hb.same s13, nm, .inl g13, by rw [hL]; show 0 < 16; decide, by rw [hL]; show 16 ≤ 1000000000; decide, fun x H14 hx hb14 k14 => ?_⟩
    obtain ⟨d, hd, td⟩ := all x hx
    refine k x d _ H14 hb14 (Kp.into k14 s13) hd td (fun z o hz => ?_) fun z hz => only_no hz
    obtain ⟨z0, z1⟩ := only_of hz
    exact k14 _ _ (hb.ne z0) z1
theorem ok_flags (F : Fun K "_law_flags" "_law_flags" s_flags f fd) (T : Tb mg) (ER : Ers K mg C) : FnOk P w K mg base CX0 1 f fd ["_law_error"] (spFlags C) := by
  refine F.ok sc_flags (fun vs H Q E h => ?_) (fun cdv A outer s H vs Q E hr h => ?_)
  · obtain ⟨_, _, rfl, _⟩ := h
    rfl
  · obtain ⟨a, i, rfl, hi, he, k⟩ := h
    refine ⟨_, (pss_cons (ps_set (i := 1) sc_flags.nd rfl (Or.inl rfl) (pe_lst (pa_cons (pe_callB (show CallR _ (.builtin "isinstance") (rIsON K) from call_isON) rfl T.b.isinstance_ boot_isinstance (pa_cons (pv 0) (pa_cons (pe_glob (v := .ref (C 0)) rfl (ER.g 0 (by decide)) rfl) pa_nil))) (pa_cons (pe_callB (show CallR _ (.builtin "isinstance") (rIsON K) from call_isON) rfl T.b.isinstance_ boot_isinstance (pa_cons (pv 0) (pa_cons (pe_glob (v := .ref (C 1)) rfl (ER.g 1 (by decide)) rfl) pa_nil))) (pa_cons (pe_callB (show CallR _ (.builtin "isinstance") (rIsON K) from call_isON) rfl T.b.isinstance_ boot_isinstance (pa_cons (pv 0) (pa_cons (pe_glob (v := .ref (C 2)) rfl (ER.g 2 (by decide)) rfl) pa_nil))) (pa_cons (pe_callB (show CallR _ (.builtin "isinstance") (rIsON K) from call_isON) rfl T.b.isinstance_ boot_isinstance (pa_cons (pv 0) (pa_cons (pe_glob (v := .ref (C 3)) rfl (ER.g 3 (by decide)) rfl) pa_nil))) pa_nil))))))
  (pss_cons (ps_set (i := 1) sc_flags.nd rfl (Or.inl rfl) (pe_op u_add (pv 1) (pe_lst (pa_cons (pe_callB (show CallR _ (.builtin "isinstance") (rIsON K) from call_isON) rfl T.b.isinstance_ boot_isinstance (pa_cons (pv 0) (pa_cons (pe_glob (v := .ref (C 4)) rfl (ER.g 4 (by decide)) rfl) pa_nil))) (pa_cons (pe_callB (show CallR _ (.builtin "isinstance") (rIsON K) from call_isON) rfl T.b.isinstance_ boot_isinstance (pa_cons (pv 0) (pa_cons (pe_glob (v := .ref (C 5)) rfl (ER.g 5 (by decide)) rfl) pa_nil))) (pa_cons (pe_callB (show CallR _ (.builtin "isinstance") (rIsON K) from call_isON) rfl T.b.isinstance_ boot_isinstance (pa_cons (pv 0) (pa_cons (pe_glob (v := .ref (C 6)) rfl (ER.g 6 (by decide)) rfl) pa_nil))) pa_nil))))))
  (pss_cons (ps_set (i := 1) sc_flags.nd rfl (Or.inl rfl) (pe_op u_add (pv 1) (pe_lst (pa_cons (pe_callB (show CallR _ (.builtin "isinstance") (rIsON K) from call_isON) rfl T.b.isinstance_ boot_isinstance (pa_cons (pv 0) (pa_cons (pe_glob (v := .ref (C 7)) rfl (ER.g 7 (by decide)) rfl) pa_nil))) (pa_cons (pe_callB (show CallR _ (.builtin "isinstance") (rIsON K) from call_isON) rfl T.b.isinstance_ boot_isinstance (pa_cons (pv 0) (pa_cons (pe_glob (v := .ref (C 8)) rfl (ER.g 8 (by decide)) rfl) pa_nil))) (pa_cons (pe_callB (show CallR _ (.builtin "isinstance") (rIsON K) from call_isON) rfl T.b.isinstance_ boot_isinstance (pa_cons (pv 0) (pa_cons (pe_glob (v := .ref (C 9)) rfl (ER.g 9 (by decide)) rfl) pa_nil))) pa_nil))))))
  (pss_one (ps_ret (pe_op u_add (pv 1) (pe_lst (pa_cons (pe_callB (show CallR _ (.builtin "isinstance") (rIsON K) from call_isON) rfl T.b.isinstance_ boot_isinstance (pa_cons (pv 0) (pa_cons (pe_glob (v := .ref (C 10)) rfl (ER.g 10 (by decide)) rfl) pa_nil))) (pa_cons (pe_callB (show CallR _ (.builtin "isinstance") (rIsON K) from call_isON) rfl T.b.isinstance_ boot_isinstance (pa_cons (pv 0) (pa_cons (pe_glob (v := .ref (C 11)) rfl (ER.g 11 (by decide)) rfl) pa_nil))) (pa_cons (pe_callB (show CallR _ (.builtin "isinstance") (rIsON K) from call_isON) rfl T.b.isinstance_ boot_isinstance (pa_cons (pv 0) (pa_cons (pe_glob (v := .ref (C 12)) rfl (ER.g 12 (by decide)) rfl) pa_nil))) pa_nil)))))))))), ?_⟩
    have isi : ∀ (j : Nat) (H' : Hp) (Q' : VK), j < 13 → Same H H' → Q' (.bl (kitE i j)) H' → rIsON K [.ref a, .ref (C j)] H' Q' := fun j H' Q' hj s q => by
      rcases he with ⟨dx, fs, he⟩ | he
      · exact .inl ⟨a, C i, dx, .ref (C j), .ref (C j), kitE i j, fs, rfl, errAt_same he s, ER.x i hi, fun u r => r, ER.kit i j hi hj, q⟩
      · exact .inr ⟨a, C i, .ref (C j), .ref (C j), kitE i j, rfl, errN_same he s, ER.x i hi, fun u r => r, ER.kit i j hi hj, q⟩
    walk_at "el"
    refine isi 0 _ _ (by decide) (Same.refl _) ?_
    walk_at "el"
    refine isi 1 _ _ (by decide) (Same.refl _) ?_
    walk_at "el"
    refine isi 2 _ _ (by decide) (Same.refl _) ?_
    walk_at "el"
    refine isi 3 _ _ (by decide) (Same.refl _) ?_
    walk_at "el"
    refine ⟨by show 4 ≤ sizeLine; decide, fun p1 hp1 => ?_⟩
    generalize hl1 : [V.bl (kitE i 0), V.bl (kitE i 1), V.bl (kitE i 2), V.bl (kitE i 3)] = L1
    have e1 := nw_of hp1 (.lst L1)
    have g1 := upd_at hp1 (.lst L1)
    generalize upd H p1 (.lst L1) = H1 at e1 g1 ⊢
    walk_at "el"
    refine isi 4 _ _ (by decide) e1 ?_
    walk_at "el"
    refine isi 5 _ _ (by decide) e1 ?_
    walk_at "el"
    refine isi 6 _ _ (by decide) e1 ?_
    walk_at "el"
    refine ⟨by show 3 ≤ sizeLine; decide, fun p2 hp2 => ?_⟩
    generalize hl2 : [V.bl (kitE i 4), V.bl (kitE i 5), V.bl (kitE i 6)] = L2
    have e2 := nw_of hp2 (.lst L2)
    have g2 := upd_at hp2 (.lst L2)
    generalize upd H1 p2 (.lst L2) = H2 at e2 g2 ⊢
    walk_at "el"
    refine n_cat (e2 _ _ g1) g2 (by subst hl1 hl2; show 7 ≤ sizeLine; decide) fun p3 hp3 => ?_
    have e3 := nw_of hp3 (.lst (L1 ++ L2))
    have g3 := upd_at hp3 (.lst (L1 ++ L2))
    generalize upd H2 p3 (.lst (L1 ++ L2)) = H3 at e3 g3 ⊢
    have s3 := (e1.trans e2).trans e3
    walk_at "el"
    refine isi 7 _ _ (by decide) s3 ?_
    walk_at "el"
    refine isi 8 _ _ (by decide) s3 ?_
    walk_at "el"
    refine isi 9 _ _ (by decide) s3 ?_
    walk_at "el"
    refine ⟨by show 3 ≤ sizeLine; decide, fun p4 hp4 => ?_⟩
    generalize hl3 : [V.bl (kitE i 7), V.bl (kitE i 8), V.bl (kitE i 9)] = L3
    have e4 := nw_of hp4 (.lst L3)
    have g4 := upd_at hp4 (.lst L3)
    generalize upd H3 p4 (.lst L3) = H4 at e4 g4 ⊢
    walk_at "el"
    refine n_cat (e4 _ _ g3) g4 (by subst hl1 hl2 hl3; show 10 ≤ sizeLine; decide) fun p5 hp5 => ?_
    have e5 := nw_of hp5 (.lst (L1 ++ L2 ++ L3))
    have g5 := upd_at hp5 (.lst (L1 ++ L2 ++ L3))
    generalize upd H4 p5 (.lst (L1 ++ L2 ++ L3)) = H5 at e5 g5 ⊢
    have s5 := (s3.trans e4).trans e5
    walk_at "el"
    refine isi 10 _ _ (by decide) s5 ?_
    walk_at "el"
    refine isi 11 _ _ (by decide) s5 ?_
    walk_at "el"
    refine isi 12 _ _ (by decide) s5 ?_
    walk_at "el"
    refine ⟨by show 3 ≤ sizeLine; decide, fun p6 hp6 => ?_⟩
    generalize hl4 : [V.bl (kitE i 10), V.bl (kitE i 11), V.bl (kitE i 12)] = L4
    have e6 := nw_of hp6 (.lst L4)
    have g6 := upd_at hp6 (.lst L4)
    generalize upd H5 p6 (.lst L4) = H6 at e6 g6 ⊢
    walk_at "el"
    refine n_cat (e6 _ _ g5) g6 (by subst hl1 hl2 hl3 hl4; show 13 ≤ sizeLine; decide) fun p7 hp7 => ?_
    refine k p7 _ _ (((s5.trans e6)).nw hp7) upd_same ?_
    subst hl1 hl2 hl3 hl4
    exact .cons (.bl _) (.cons (.bl _) (.cons (.bl _) (.cons (.bl _) (.cons (.bl _) (.cons (.bl _) (.cons (.bl _) (.cons (.bl _) (.cons (.bl _) (.cons (.bl _) (.cons (.bl _) (.cons (.bl _) (.cons (.bl _) .nil))))))))))))
theorem ok_made (F : Fun K "_law_made" "_law_made" s_made f fd) (T : Tb mg)
    (c_Wrong : ErrG P w K mg base "Wrong" (C 0) ["self", "place"] (spErr1 (C 0) "place")) (c_BadItem : ErrG P w K mg base "BadItem" (C 1) ["self", "place", "index"] (spErr2 (C 1) "place" "index"))
    (c_TooMany : ErrG P w K mg base "TooMany" (C 2) ["self", "limit"] (spErr1 (C 2) "limit")) (c_NoFit : ErrG P w K mg base "NoFit" (C 3) ["self", "reason"] (spErr1 (C 3) "reason"))
    (c_NoHelp : ErrG P w K mg base "NoHelp" (C 4) ["self", "reason"] (spErr1 (C 4) "reason")) (c_NotPlain : ErrG P w K mg base "NotPlain" (C 5) ["self", "index"] (spErr1 (C 5) "index"))
    (c_NoKinds : ErrG P w K mg base "NoKinds" (C 6) ["self", "kinds"] (spErr1 (C 6) "kinds")) (c_NoIndex : ErrG P w K mg base "NoIndex" (C 7) ["self", "index"] (spErr1 (C 7) "index"))
    (c_Unequal : ErrG P w K mg base "Unequal" (C 8) ["self", "one", "other"] (spErr2 (C 8) "one" "other")) (c_NoText : ErrG P w K mg base "NoText" (C 9) ["self", "line"] (spErr1 (C 9) "line"))
    (c_NoCommand : ErrG P w K mg base "NoCommand" (C 10) ["self", "line"] (spErr1 (C 10) "line")) (c_Nothing : ErrZ P w K mg base "Nothing" (C 11) spNil) :
    FnOk P w K mg base CX0 3 f fd ["_law_at", "_law_first", "_law_second"] (spMade C) := by
  refine F.ok sc_made (fun vs H Q E h => ?_) (fun cdv A outer s H vs Q E hr h => ?_)
  · obtain ⟨_, _, _, rfl, _⟩ := h
    rfl
  · obtain ⟨i, x, y, rfl, hi, k⟩ := h
    refine ⟨_, (pss_cons (ps_if (pt_cmpR (u_eq hr.units) (pv 0) pe_int (nomark _))
    (pss_one (ps_ret (pe_err c_Wrong (hr.mono (by decide)) (pa_cons (pv 1) pa_nil))))
    pss_nil)
  (pss_cons (ps_if (pt_cmpR (u_eq hr.units) (pv 0) pe_int (nomark _))
    (pss_one (ps_ret (pe_err c_BadItem (hr.mono (by decide)) (pa_cons (pv 1) (pa_cons (pv 2) pa_nil)))))
    pss_nil)
  (pss_cons (ps_if (pt_cmpR (u_eq hr.units) (pv 0) pe_int (nomark _))
    (pss_one (ps_ret (pe_err c_TooMany (hr.mono (by decide)) (pa_cons (pv 1) pa_nil))))
    pss_nil)
  (pss_cons (ps_if (pt_cmpR (u_eq hr.units) (pv 0) pe_int (nomark _))
    (pss_one (ps_ret (pe_err c_NoFit (hr.mono (by decide)) (pa_cons (pv 1) pa_nil))))
    pss_nil)
  (pss_cons (ps_if (pt_cmpR (u_eq hr.units) (pv 0) pe_int (nomark _))
    (pss_one (ps_ret (pe_err c_NoHelp (hr.mono (by decide)) (pa_cons (pv 1) pa_nil))))
    pss_nil)
  (pss_cons (ps_if (pt_cmpR (u_eq hr.units) (pv 0) pe_int (nomark _))
    (pss_one (ps_ret (pe_err c_NotPlain (hr.mono (by decide)) (pa_cons (pv 1) pa_nil))))
    pss_nil)
  (pss_cons (ps_if (pt_cmpR (u_eq hr.units) (pv 0) pe_int (nomark _))
    (pss_one (ps_ret (pe_err c_NoKinds (hr.mono (by decide)) (pa_cons (pv 1) pa_nil))))
    pss_nil)
  (pss_cons (ps_if (pt_cmpR (u_eq hr.units) (pv 0) pe_int (nomark _))
    (pss_one (ps_ret (pe_err c_NoIndex (hr.mono (by decide)) (pa_cons (pv 1) pa_nil))))
    pss_nil)
  (pss_cons (ps_if (pt_cmpR (u_eq hr.units) (pv 0) pe_int (nomark _))
    (pss_one (ps_ret (pe_err c_Unequal (hr.mono (by decide)) (pa_cons (pv 1) (pa_cons (pv 2) pa_nil)))))
    pss_nil)
  (pss_cons (ps_if (pt_cmpR (u_eq hr.units) (pv 0) pe_int (nomark _))
    (pss_one (ps_ret (pe_err c_NoText (hr.mono (by decide)) (pa_cons (pv 1) pa_nil))))
    pss_nil)
  (pss_one (ps_ret (pe_ifExp (pt_cmpR (u_eq hr.units) (pv 0) pe_int (nomark _)) (pe_err c_NoCommand (hr.mono (by decide)) (pa_cons (pv 1) pa_nil)) (pe_errZ0 c_Nothing (hr.mono (by decide)))))))))))))))), ?_⟩
    walk_at "el"
    refine ite2 (fun h => ?_) (fun h0 => ?_)
    · obtain rfl : i = 0 := by have := ieq h; omega
      walk_at "el"
      exact n_vl1 fun a dx H2 ha s e => k a H2 s ha (.inl ⟨by decide, dx, e⟩)
    walk_at "el"
    refine ite2 (fun h => ?_) (fun h1 => ?_)
    · obtain rfl : i = 1 := by have := ieq h; omega
      walk_at "el"
      refine a_vl ?_
      walk_at "el"
      exact n_vl2 fun a dx H2 ha s e => k a H2 s ha (.inl ⟨by decide, dx, e⟩)
    walk_at "el"
    refine ite2 (fun h => ?_) (fun h2 => ?_)
    · obtain rfl : i = 2 := by have := ieq h; omega
      walk_at "el"
      exact n_vl1 fun a dx H2 ha s e => k a H2 s ha (.inl ⟨by decide, dx, e⟩)
    walk_at "el"
    refine ite2 (fun h => ?_) (fun h3 => ?_)
    · obtain rfl : i = 3 := by have := ieq h; omega
      walk_at "el"
      exact n_vl1 fun a dx H2 ha s e => k a H2 s ha (.inl ⟨by decide, dx, e⟩)
    walk_at "el"
    refine ite2 (fun h => ?_) (fun h4 => ?_)
    · obtain rfl : i = 4 := by have := ieq h; omega
      walk_at "el"
      exact n_vl1 fun a dx H2 ha s e => k a H2 s ha (.inl ⟨by decide, dx, e⟩)
    walk_at "el"
    refine ite2 (fun h => ?_) (fun h5 => ?_)
    · obtain rfl : i = 5 := by have := ieq h; omega
      walk_at "el"
      exact n_vl1 fun a dx H2 ha s e => k a H2 s ha (.inl ⟨by decide, dx, e⟩)
    walk_at "el"
    refine ite2 (fun h => ?_) (fun h6 => ?_)
    · obtain rfl : i = 6 := by have := ieq h; omega
      walk_at "el"
      exact n_vl1 fun a dx H2 ha s e => k a H2 s ha (.inl ⟨by decide, dx, e⟩)
    walk_at "el"
    refine ite2 (fun h => ?_) (fun h7 => ?_)
    · obtain rfl : i = 7 := by have := ieq h; omega
      walk_at "el"
      exact n_vl1 fun a dx H2 ha s e => k a H2 s ha (.inl ⟨by decide, dx, e⟩)
    walk_at "el"
    refine ite2 (fun h => ?_) (fun h8 => ?_)
    · obtain rfl : i = 8 := by have := ieq h; omega
      walk_at "el"
      refine a_vl ?_
      walk_at "el"
      exact n_vl2 fun a dx H2 ha s e => k a H2 s ha (.inl ⟨by decide, dx, e⟩)
    walk_at "el"
    refine ite2 (fun h => ?_) (fun h9 => ?_)
    · obtain rfl : i = 9 := by have := ieq h; omega
      walk_at "el"
      exact n_vl1 fun a dx H2 ha s e => k a H2 s ha (.inl ⟨by decide, dx, e⟩)
    walk_at "el"
    refine ite2 (fun h => ?_) (fun h10 => ?_)
    · obtain rfl : i = 10 := by have := ieq h; omega
      walk_at "el"
      exact n_vl1 fun a dx H2 ha s e => k a H2 s ha (.inl ⟨by decide, dx, e⟩)
    · obtain rfl : i = 11 := by
        have z0 := nieq h0; have z1 := nieq h1; have z2 := nieq h2; have z3 := nieq h3; have z4 := nieq h4; have z5 := nieq h5; have z6 := nieq h6; have z7 := nieq h7; have z8 := nieq h8; have z9 := nieq h9; have z10 := nieq h10
        omega
      walk_at "el"
      exact n_vlN fun a H2 ha s e => k a H2 s ha (.inr ⟨rfl, e⟩)
theorem ok_thrown (F : Fun K "_law_thrown" "_law_thrown" s_thrown f fd) (T : Tb mg)
    (c_Wrong : ErrG P w K mg base "Wrong" (C 0) ["self", "place"] (spErr1 (C 0) "place")) (c_BadItem : ErrG P w K mg base "BadItem" (C 1) ["self", "place", "index"] (spErr2 (C 1) "place" "index"))
    (c_TooMany : ErrG P w K mg base "TooMany" (C 2) ["self", "limit"] (spErr1 (C 2) "limit")) (c_NoFit : ErrG P w K mg base "NoFit" (C 3) ["self", "reason"] (spErr1 (C 3) "reason"))
    (c_NoHelp : ErrG P w K mg base "NoHelp" (C 4) ["self", "reason"] (spErr1 (C 4) "reason")) (c_NotPlain : ErrG P w K mg base "NotPlain" (C 5) ["self", "index"] (spErr1 (C 5) "index"))
    (c_NoKinds : ErrG P w K mg base "NoKinds" (C 6) ["self", "kinds"] (spErr1 (C 6) "kinds")) (c_NoIndex : ErrG P w K mg base "NoIndex" (C 7) ["self", "index"] (spErr1 (C 7) "index"))
    (c_Unequal : ErrG P w K mg base "Unequal" (C 8) ["self", "one", "other"] (spErr2 (C 8) "one" "other")) (c_NoText : ErrG P w K mg base "NoText" (C 9) ["self", "line"] (spErr1 (C 9) "line"))
    (c_NoCommand : ErrG P w K mg base "NoCommand" (C 10) ["self", "line"] (spErr1 (C 10) "line")) (c_Nothing : ErrZ P w K mg base "Nothing" (C 11) spNil) :
    FnOk P w K mg base (L2.CX P w) 3 f fd ["_law_at", "_law_first", "_law_second"] (spThrown C) := by
  refine F.okX sc_thrown (fun vs H Q E h => ?_) (fun cdv A outer s H vs Q E hr h => ?_)
  · obtain ⟨_, _, _, rfl, _⟩ := h
    rfl
  · obtain ⟨i, x, y, rfl, hi, k⟩ := h
    refine ⟨_, (pss_cons (ps_if (pt_cmpR (u_eq hr.units) (pv 0) pe_int (nomark _))
    (pss_one (ps_rz c_Wrong (hr.mono (by decide)) rfl (takes_of rfl rfl rfl rfl) (pa_cons (pv 1) pa_nil)))
    pss_nil)
  (pss_cons (ps_if (pt_cmpR (u_eq hr.units) (pv 0) pe_int (nomark _))
    (pss_one (ps_rz c_BadItem (hr.mono (by decide)) rfl (takes_of rfl rfl rfl rfl) (pa_cons (pv 1) (pa_cons (pv 2) pa_nil))))
    pss_nil)
  (pss_cons (ps_if (pt_cmpR (u_eq hr.units) (pv 0) pe_int (nomark _))
    (pss_one (ps_rz c_TooMany (hr.mono (by decide)) rfl (takes_of rfl rfl rfl rfl) (pa_cons (pv 1) pa_nil)))
    pss_nil)
  (pss_cons (ps_if (pt_cmpR (u_eq hr.units) (pv 0) pe_int (nomark _))
    (pss_one (ps_rz c_NoFit (hr.mono (by decide)) rfl (takes_of rfl rfl rfl rfl) (pa_cons (pv 1) pa_nil)))
    pss_nil)
  (pss_cons (ps_if (pt_cmpR (u_eq hr.units) (pv 0) pe_int (nomark _))
    (pss_one (ps_rz c_NoHelp (hr.mono (by decide)) rfl (takes_of rfl rfl rfl rfl) (pa_cons (pv 1) pa_nil)))
    pss_nil)
  (pss_cons (ps_if (pt_cmpR (u_eq hr.units) (pv 0) pe_int (nomark _))
    (pss_one (ps_rz c_NotPlain (hr.mono (by decide)) rfl (takes_of rfl rfl rfl rfl) (pa_cons (pv 1) pa_nil)))
    pss_nil)
  (pss_cons (ps_if (pt_cmpR (u_eq hr.units) (pv 0) pe_int (nomark _))
    (pss_one (ps_rz c_NoKinds (hr.mono (by decide)) rfl (takes_of rfl rfl rfl rfl) (pa_cons (pv 1) pa_nil)))
    pss_nil)
  (pss_cons (ps_if (pt_cmpR (u_eq hr.units) (pv 0) pe_int (nomark _))
    (pss_one (ps_rz c_NoIndex (hr.mono (by decide)) rfl (takes_of rfl rfl rfl rfl) (pa_cons (pv 1) pa_nil)))
    pss_nil)
  (pss_cons (ps_if (pt_cmpR (u_eq hr.units) (pv 0) pe_int (nomark _))
    (pss_one (ps_rz c_Unequal (hr.mono (by decide)) rfl (takes_of rfl rfl rfl rfl) (pa_cons (pv 1) (pa_cons (pv 2) pa_nil))))
    pss_nil)
  (pss_cons (ps_if (pt_cmpR (u_eq hr.units) (pv 0) pe_int (nomark _))
    (pss_one (ps_rz c_NoText (hr.mono (by decide)) rfl (takes_of rfl rfl rfl rfl) (pa_cons (pv 1) pa_nil)))
    pss_nil)
  (pss_cons (ps_if (pt_cmpR (u_eq hr.units) (pv 0) pe_int (nomark _))
    (pss_one (ps_rz c_NoCommand (hr.mono (by decide)) rfl (takes_of rfl rfl rfl rfl) (pa_cons (pv 1) pa_nil)))
    pss_nil)
  (pss_one (ps_errZ c_Nothing (hr.mono (by decide)) rfl (takes_of rfl rfl rfl rfl)))))))))))))), ?_⟩
    walk_at "el"
    refine ite2 (fun h => ?_) (fun h0 => ?_)
    · obtain rfl : i = 0 := by have := ieq h; omega
      walk_at "el"
      exact n_err1 fun d hd => k _ _ (nw_of hd _) (.inl ⟨by decide, d, rfl, upd_same⟩)
    walk_at "el"
    refine ite2 (fun h => ?_) (fun h1 => ?_)
    · obtain rfl : i = 1 := by have := ieq h; omega
      walk_at "el"
      refine a_rz ?_
      walk_at "el"
      exact n_err2 fun d hd => k _ _ (nw_of hd _) (.inl ⟨by decide, d, rfl, upd_same⟩)
    walk_at "el"
    refine ite2 (fun h => ?_) (fun h2 => ?_)
    · obtain rfl : i = 2 := by have := ieq h; omega
      walk_at "el"
      exact n_err1 fun d hd => k _ _ (nw_of hd _) (.inl ⟨by decide, d, rfl, upd_same⟩)
    walk_at "el"
    refine ite2 (fun h => ?_) (fun h3 => ?_)
    · obtain rfl : i = 3 := by have := ieq h; omega
      walk_at "el"
      exact n_err1 fun d hd => k _ _ (nw_of hd _) (.inl ⟨by decide, d, rfl, upd_same⟩)
    walk_at "el"
    refine ite2 (fun h => ?_) (fun h4 => ?_)
    · obtain rfl : i = 4 := by have := ieq h; omega
      walk_at "el"
      exact n_err1 fun d hd => k _ _ (nw_of hd _) (.inl ⟨by decide, d, rfl, upd_same⟩)
    walk_at "el"
    refine ite2 (fun h => ?_) (fun h5 => ?_)
    · obtain rfl : i = 5 := by have := ieq h; omega
      walk_at "el"
      exact n_err1 fun d hd => k _ _ (nw_of hd _) (.inl ⟨by decide, d, rfl, upd_same⟩)
    walk_at "el"
    refine ite2 (fun h => ?_) (fun h6 => ?_)
    · obtain rfl : i = 6 := by have := ieq h; omega
      walk_at "el"
      exact n_err1 fun d hd => k _ _ (nw_of hd _) (.inl ⟨by decide, d, rfl, upd_same⟩)
    walk_at "el"
    refine ite2 (fun h => ?_) (fun h7 => ?_)
    · obtain rfl : i = 7 := by have := ieq h; omega
      walk_at "el"
      exact n_err1 fun d hd => k _ _ (nw_of hd _) (.inl ⟨by decide, d, rfl, upd_same⟩)
    walk_at "el"
    refine ite2 (fun h => ?_) (fun h8 => ?_)
    · obtain rfl : i = 8 := by have := ieq h; omega
      walk_at "el"
      refine a_rz ?_
      walk_at "el"
      exact n_err2 fun d hd => k _ _ (nw_of hd _) (.inl ⟨by decide, d, rfl, upd_same⟩)
    walk_at "el"
    refine ite2 (fun h => ?_) (fun h9 => ?_)
    · obtain rfl : i = 9 := by have := ieq h; omega
      walk_at "el"
      exact n_err1 fun d hd => k _ _ (nw_of hd _) (.inl ⟨by decide, d, rfl, upd_same⟩)
    walk_at "el"
    refine ite2 (fun h => ?_) (fun h10 => ?_)
    · obtain rfl : i = 10 := by have := ieq h; omega
      walk_at "el"
      exact n_err1 fun d hd => k _ _ (nw_of hd _) (.inl ⟨by decide, d, rfl, upd_same⟩)
    obtain rfl : i = 11 := by
      have z0 := nieq h0; have z1 := nieq h1; have z2 := nieq h2; have z3 := nieq h3; have z4 := nieq h4; have z5 := nieq h5; have z6 := nieq h6; have z7 := nieq h7; have z8 := nieq h8; have z9 := nieq h9; have z10 := nieq h10
      omega
    walk_at "el"
    intro a ha
    refine ⟨a, rfl, rfl, upd_same, ?_⟩
    have e : del (upd H a (exo a (C 11) none)) a = H := by
      funext b
      by_cases z : b = a
      · subst z; rw [del_same, ha]
      · rw [del_ne z, upd_ne z]
    rw [e]
    exact k _ _ (Same.refl _) (.inr ⟨rfl, rfl⟩)
theorem ok_raised (F : Fun K "_law_raised" "_law_raised" s_raised f fd) (T : Tb mg) (ER : Ers K mg C) (c_thrown : Cal P w K mg base (L2.CX P w) 3 "_law_thrown" ["_law_at", "_law_first", "_law_second"] (spThrown C)) :
    FnOk P w K mg base CX0 4 f fd ["_law_at", "_law_first", "_law_second"] (spMade C) := by
  refine F.ok sc_raised (fun vs H Q E h => ?_) (fun cdv A outer s H vs Q E hr h => ?_)
  · obtain ⟨_, _, _, rfl, _⟩ := h
    rfl
  · obtain ⟨i, x, y, rfl, hi, k⟩ := h
    have g_CaseError := ER.g 12 (by decide)
    refine ⟨_, (pss_cons (ps_try_ret (i := 3) rfl rfl rfl sc_raised.nd rfl rfl ⟨rfl, by decide, .inl g_CaseError⟩ takes0 (fun W pn xe tk _ => (pss_one (ps_expr (pe_calX c_thrown (show Room 3 _ from hr.mono (by decide)) tk (pa_cons (pv 0) (pa_cons (pv 1) (pa_cons (pv 2) pa_nil)))))))
    (fun a oe cls d pn hz hf => (pss_one (ps_ret (pv 3)))))
  (pss_one (ps_ret pe_non))), ?_⟩
    walk_at "el"
    refine a_callS ?_
    walk_at "el"
    refine ⟨i, x, y, rfl, hi, fun d H' s' hd => ⟨true, ER.exm i hi, fun _ a ha => ⟨C i, rfl, ?_⟩, fun z => nomatch z⟩⟩
    refine k a _ (s'.nw ha) (s'.free ha) ?_
    rcases hd with ⟨l, dx, rfl, hx⟩ | ⟨rfl, rfl⟩
    · exact .inl ⟨l, dx, .inr upd_same, .inr (by rw [upd_ne (fun z => by subst z; rw [hx] at ha; cases ha)]; exact hx)⟩
    · exact .inr ⟨rfl, .inr upd_same⟩
theorem ok_fields (F : Fun K "_law_fields" "_law_fields" s_fields f fd) (T : Tb mg) (ER : Ers K mg C) : FnOk P w K mg base CX0 1 f fd ["_law_at", "_law_error"] (spFields C) := by
  refine F.ok sc_fields (fun vs H Q E h => ?_) (fun cdv A outer s H vs Q E hr h => ?_)
  · obtain ⟨_, _, _, _, rfl, _⟩ := h
    rfl
  · obtain ⟨i, a, x, y, rfl, hi, he, k⟩ := h
    refine ⟨_, (pss_cons (ps_if (pt_cmpR (u_eq hr.units) (pv 0) pe_int (nomark _))
    (pss_one (ps_ret (pe_lst (pa_cons (pe_xo (pv 1)) pa_nil))))
    pss_nil)
  (pss_cons (ps_if (pt_cmpR (u_eq hr.units) (pv 0) pe_int (nomark _))
    (pss_one (ps_ret (pe_lst (pa_cons (pe_xo (pv 1)) (pa_cons (pe_xo (pv 1)) pa_nil)))))
    pss_nil)
  (pss_cons (ps_if (pt_cmpR (u_eq hr.units) (pv 0) pe_int (nomark _))
    (pss_one (ps_ret (pe_lst (pa_cons (pe_xo (pv 1)) pa_nil))))
    pss_nil)
  (pss_cons (ps_if (pt_cmpR u_in (pv 0) (pe_tup (pa_cons pe_int (pa_cons pe_int pa_nil))) rfl)
    (pss_one (ps_ret (pe_lst (pa_cons (pe_xo (pv 1)) pa_nil))))
    pss_nil)
  (pss_cons (ps_if (pt_cmpR u_in (pv 0) (pe_tup (pa_cons pe_int (pa_cons pe_int pa_nil))) rfl)
    (pss_one (ps_ret (pe_lst (pa_cons (pe_xo (pv 1)) pa_nil))))
    pss_nil)
  (pss_cons (ps_if (pt_cmpR (u_eq hr.units) (pv 0) pe_int (nomark _))
    (pss_one (ps_ret (pe_lst (pa_cons (pe_xo (pv 1)) pa_nil))))
    pss_nil)
  (pss_cons (ps_if (pt_cmpR (u_eq hr.units) (pv 0) pe_int (nomark _))
    (pss_one (ps_ret (pe_lst (pa_cons (pe_xo (pv 1)) (pa_cons (pe_xo (pv 1)) pa_nil)))))
    pss_nil)
  (pss_one (ps_ret (pe_ifExp (pt_cmpR op_lt (pv 0) pe_int (nomark _)) (pe_lst (pa_cons (pe_xo (pv 1)) pa_nil)) (pe_lst pa_nil))))))))))), ?_⟩
    have hx : i < 11 → ∃ dx, ErrAt H a (C i) dx (fsE x y i) := fun l => he.elim (fun q => q.2) fun q => absurd q.1 (by omega)
    walk_at "el"
    refine ite2 (fun h => ?_) (fun h0 => ?_)
    · obtain rfl : i = 0 := by have := ieq h; omega
      obtain ⟨dx, e0⟩ := hx (by decide)
      have e := errAt_same e0 (Same.refl _)
      have X1 := xf_of (ER.x 0 (by decide))
      walk_at "el"
      refine ⟨a, C 0, dx, _, x, rfl, e, X1, ER.nf 0 _ (by decide) (by decide), rfl, ?_⟩
      walk_at "el"
      exact ⟨by show 1 ≤ sizeLine; decide, fun p hp => k p _ (L2.Same.nw (Same.refl _) hp) upd_same⟩
    walk_at "el"
    refine ite2 (fun h => ?_) (fun h1 => ?_)
    · obtain rfl : i = 1 := by have := ieq h; omega
      obtain ⟨dx, e0⟩ := hx (by decide)
      have e := errAt_same e0 (Same.refl _)
      have X1 := xf_of (ER.x 1 (by decide))
      walk_at "el"
      refine ⟨a, C 1, dx, _, x, rfl, e, X1, ER.nf 1 _ (by decide) (by decide), rfl, ?_⟩
      walk_at "el"
      refine ⟨a, C 1, dx, _, y, rfl, e, X1, ER.nf 1 _ (by decide) (by decide), rfl, ?_⟩
      walk_at "el"
      exact ⟨by show 2 ≤ sizeLine; decide, fun p hp => k p _ (L2.Same.nw (Same.refl _) hp) upd_same⟩
    walk_at "el"
    refine ite2 (fun h => ?_) (fun h2 => ?_)
    · obtain rfl : i = 2 := by have := ieq h; omega
      obtain ⟨dx, e0⟩ := hx (by decide)
      have e := errAt_same e0 (Same.refl _)
      have X1 := xf_of (ER.x 2 (by decide))
      walk_at "el"
      refine ⟨a, C 2, dx, _, x, rfl, e, X1, ER.nf 2 _ (by decide) (by decide), rfl, ?_⟩
      walk_at "el"
      exact ⟨by show 1 ≤ sizeLine; decide, fun p hp => k p _ (L2.Same.nw (Same.refl _) hp) upd_same⟩
    walk_at "el"
    refine ⟨by show 2 ≤ sizeLine; decide, fun p3 hp3 => ?_⟩
    have w3 := L2.Same.nw (o := .tup [.int 3, .int 4]) (Same.refl _) hp3
    refine n_inT upd_same rfl rfl ?_
    walk_at "el"
    rw [inv2]
    refine ite2 (fun h => ?_) (fun h3 => ?_)
    · have z : i = 3 ∨ i = 4 := by
        rcases Bool.or_eq_true_iff.mp h with h | h <;> have := of_decide_eq_true h <;> omega
      rcases z with rfl | rfl
      · skip
        obtain ⟨dx, e0⟩ := hx (by decide)
        have e := errAt_same e0 (w3)
        have X1 := xf_of (ER.x 3 (by decide))
        walk_at "el"
        refine ⟨a, C 3, dx, _, x, rfl, e, X1, ER.nf 3 _ (by decide) (by decide), rfl, ?_⟩
        walk_at "el"
        exact ⟨by show 1 ≤ sizeLine; decide, fun p hp => k p _ (L2.Same.nw (w3) hp) upd_same⟩
      · skip
        obtain ⟨dx, e0⟩ := hx (by decide)
        have e := errAt_same e0 (w3)
        have X1 := xf_of (ER.x 4 (by decide))
        walk_at "el"
        refine ⟨a, C 4, dx, _, x, rfl, e, X1, ER.nf 4 _ (by decide) (by decide), rfl, ?_⟩
        walk_at "el"
        exact ⟨by show 1 ≤ sizeLine; decide, fun p hp => k p _ (L2.Same.nw (w3) hp) upd_same⟩
    walk_at "el"
    refine ⟨by show 2 ≤ sizeLine; decide, fun p5 hp5 => ?_⟩
    have w5 := L2.Same.nw (o := .tup [.int 5, .int 7]) (w3) hp5
    refine n_inT upd_same rfl rfl ?_
    walk_at "el"
    rw [inv2]
    refine ite2 (fun h => ?_) (fun h5 => ?_)
    · have z : i = 5 ∨ i = 7 := by
        rcases Bool.or_eq_true_iff.mp h with h | h <;> have := of_decide_eq_true h <;> omega
      rcases z with rfl | rfl
      · skip
        obtain ⟨dx, e0⟩ := hx (by decide)
        have e := errAt_same e0 (w5)
        have X1 := xf_of (ER.x 5 (by decide))
        walk_at "el"
        refine ⟨a, C 5, dx, _, x, rfl, e, X1, ER.nf 5 _ (by decide) (by decide), rfl, ?_⟩
        walk_at "el"
        exact ⟨by show 1 ≤ sizeLine; decide, fun p hp => k p _ (L2.Same.nw (w5) hp) upd_same⟩
      · skip
        obtain ⟨dx, e0⟩ := hx (by decide)
        have e := errAt_same e0 (w5)
        have X1 := xf_of (ER.x 7 (by decide))
        walk_at "el"
        refine ⟨a, C 7, dx, _, x, rfl, e, X1, ER.nf 7 _ (by decide) (by decide), rfl, ?_⟩
        walk_at "el"
        exact ⟨by show 1 ≤ sizeLine; decide, fun p hp => k p _ (L2.Same.nw (w5) hp) upd_same⟩
    walk_at "el"
    refine ite2 (fun h => ?_) (fun h6 => ?_)
    · obtain rfl : i = 6 := by have := ieq h; omega
      obtain ⟨dx, e0⟩ := hx (by decide)
      have e := errAt_same e0 (w5)
      have X1 := xf_of (ER.x 6 (by decide))
      walk_at "el"
      refine ⟨a, C 6, dx, _, x, rfl, e, X1, ER.nf 6 _ (by decide) (by decide), rfl, ?_⟩
      walk_at "el"
      exact ⟨by show 1 ≤ sizeLine; decide, fun p hp => k p _ (L2.Same.nw (w5) hp) upd_same⟩
    walk_at "el"
    refine ite2 (fun h => ?_) (fun h8 => ?_)
    · obtain rfl : i = 8 := by have := ieq h; omega
      obtain ⟨dx, e0⟩ := hx (by decide)
      have e := errAt_same e0 (w5)
      have X1 := xf_of (ER.x 8 (by decide))
      walk_at "el"
      refine ⟨a, C 8, dx, _, x, rfl, e, X1, ER.nf 8 _ (by decide) (by decide), rfl, ?_⟩
      walk_at "el"
      refine ⟨a, C 8, dx, _, y, rfl, e, X1, ER.nf 8 _ (by decide) (by decide), rfl, ?_⟩
      walk_at "el"
      exact ⟨by show 2 ≤ sizeLine; decide, fun p hp => k p _ (L2.Same.nw (w5) hp) upd_same⟩
    walk_at "el"
    refine ite2 (fun h => ?_) (fun h9 => ?_)
    · have z : i = 9 ∨ i = 10 := by
        have z0 := nieq h0; have z1 := nieq h1; have z2 := nieq h2; have z6 := nieq h6; have z8 := nieq h8
        rw [Bool.or_eq_true_iff, not_or] at h3 h5
        have z3 := of_decide_eq_false (Bool.eq_false_iff.mpr h3.1)
        have z4 := of_decide_eq_false (Bool.eq_false_iff.mpr h3.2)
        have z5 := of_decide_eq_false (Bool.eq_false_iff.mpr h5.1)
        have z7 := of_decide_eq_false (Bool.eq_false_iff.mpr h5.2)
        have z9 := of_decide_eq_true h
        omega
      rcases z with rfl | rfl
      · skip
        obtain ⟨dx, e0⟩ := hx (by decide)
        have e := errAt_same e0 (w5)
        have X1 := xf_of (ER.x 9 (by decide))
        walk_at "el"
        refine ⟨a, C 9, dx, _, x, rfl, e, X1, ER.nf 9 _ (by decide) (by decide), rfl, ?_⟩
        walk_at "el"
        exact ⟨by show 1 ≤ sizeLine; decide, fun p hp => k p _ (L2.Same.nw (w5) hp) upd_same⟩
      · skip
        obtain ⟨dx, e0⟩ := hx (by decide)
        have e := errAt_same e0 (w5)
        have X1 := xf_of (ER.x 10 (by decide))
        walk_at "el"
        refine ⟨a, C 10, dx, _, x, rfl, e, X1, ER.nf 10 _ (by decide) (by decide), rfl, ?_⟩
        walk_at "el"
        exact ⟨by show 1 ≤ sizeLine; decide, fun p hp => k p _ (L2.Same.nw (w5) hp) upd_same⟩
    · obtain rfl : i = 11 := by
        have z9 := of_decide_eq_false (Bool.eq_false_iff.mpr h9)
        omega
      walk_at "el"
      exact ⟨by show 0 ≤ sizeLine; decide, fun p hp => k p _ (L2.Same.nw (w5) hp) upd_same⟩
end
end EL

/- part K11L -/
namespace EL
open PySem PySem.Spec PyProof.Rows L2
open PySem.W (Frag)
abbrev s_law : Stmt := top 24
abbrev N_law : List Str := ["_law_script", "_law_bag_here", "_law_at", "_law_first", "_law_second", "_law_error", "_law_due", "_law_k", "_law_plain", "_law_other", "_law_again", "_law_late", "_law_bare"]
theorem sc_law : FnScope N_law ["_law_script"] (defScope s_law) := ⟨rfl, rfl, rfl, by decide +kernel, rfl, by decide +kernel, by decide +kernel⟩
local macro_rules | `(tactic| walk_at "el1") => `(tactic| with_reducible first
  | refine a_sasg ?_ | refine a_sdrop ?_ | refine a_saugS ?_ | refine a_spar ?_ | refine a_seq ?_ | refine a_asg ?_ | refine a_drop ?_ | refine a_ret ?_ | refine a_if ?_ | refine a_next ?_
  | refine a_op ?_ | refine a_cons ?_ | refine a_nil ?_ | refine a_cb ?_ | refine a_call ?_ | refine a_c ?_ | refine a_gn ?_ | refine a_nx ?_ | refine a_rt ?_ | refine a_un ?_
  | refine a_test ?_ | refine a_B ?_ | refine a_bl ?_ | refine a_and ?_ | refine a_or ?_ | refine a_not ?_ | refine a_andV ?_ | refine a_orV ?_ | refine a_notV ?_ | refine a_ifx ?_ | refine a_chain ?_
  | refine a_nT ?_ | refine a_nF ?_ | refine a_fld ?_ | refine a_getF ?_ | refine a_T ?_ | refine a_F ?_ | refine a_tup ?_ | refine a_lst ?_ | refine a_sub ?_ | refine a_augS ?_ | refine a_two ?_ | refine a_I0 ?_ | refine a_U ?_ | refine n_add ?_ | refine n_int ?_ | refine n_ib ?_ | refine a_ip ?_ | refine a_rng1 ?_ | refine a_rng2 ?_ | refine a_bm ?_ | refine a_abs ?_ | refine a_pairs ?_ | refine a_pairs0 ?_ | refine a_bk ?_ | refine a_prp ?_ | refine a_lc ?_ | refine a_yes ?_ | refine a_sl ?_ | refine a_nop ?_ | refine a_prt ?_ | refine a_ex1 ?_ | refine a_for ?_ | refine a_sfor ?_ | refine a_iE1 ?_ | refine a_iEs ?_ | refine a_iEz ?_ | refine a_iEnum ?_ | refine a_iTup ?_ | refine a_iList ?_ | refine a_gcons ?_ | refine a_gnil ?_ | refine a_revT ?_ | refine a_spar3 ?_ | refine a_par3 ?_ | refine a_three ?_)
local macro_rules | `(tactic| walk_at "el2") => `(tactic| first
  | (refine a_var (by rfl) ?_)
  | (refine n_ixL (SqL.of (by assumption)) (by rfl) ?_) | (refine n_ixT (SqT.of (by assumption)) (by rfl) ?_) | (refine n_eq (by rfl) ?_) | (refine n_ne (by rfl) ?_)
  | (refine n_isN ?_) | (refine n_notN ?_) | (refine n_isB ?_) | (refine n_notB ?_) | (refine n_isBI ?_) | (refine n_notBI ?_) | (refine n_len (.inl (SqL.of (by assumption))) ?_) | (refine n_len (.inr (SqT.of (by assumption))) ?_)
  | (refine a_getL (SqL.of (by assumption)) (by rfl) ?_)
  | (refine n_isInt (by assumption) ?_) | (refine n_isBool (by assumption) ?_) | (refine n_isStr (by assumption) ?_) | (refine n_isTup (by assumption) ?_) | (refine n_isLst (by assumption) ?_))
local macro_rules | `(tactic| walk_at "el") => `(tactic| repeat (first | walk_at "el1" | walk_at "el2"))

theorem walk_allM {l : PySem.W.OpenLaw} {k : Nat} {q : Program} {loose : List Str} {XP : (Str → Option Value) → Heap → Prop} {YP : World → Heap → Prop} {d : DefRec} {K : Params → Frag} (hI : importsNone q = true) (hn : l.most = some 63) (hdf : d.params.defaults = []) (hr : Room k PySem.callerA)
    (hY : ∀ (w : World) (h : Heap), YP w h → (K w.params).In h)
    (F : ∀ (w : World) (mg : Str → Option Value) (fa : Addr) (h : Heap), (K w.params).In h → h.Ns mainGlobals mg → mg d.name = some (.ref fa) →
      ∃ fd : FuncData, (∀ (s : Shared) (u : Value), BindsTo s fd ⟨[u], []⟩ [("_law_script", u)]) ∧ ∀ base : Heap, (K w.params).In base → base.Ns mainGlobals mg → (∃ mm, base.Ns sysModules mm) → FnG l.prog w (K w.params) mg base CX0 k fa fd ["_law_script"] (spLaw (K w.params))) :
    PySem.W.WalkO q loose XP YP l.row.toRowW d [] (fun f vs => PySem.call f vs) :=
  walk_lawM (n := 63) (x := "_law_script") (CX := fun _ => CX0) (sp := fun w => spLaw (K w.params)) hI hn (by decide) hdf hr hY F (fun _ _ a ns hl _ hS => ⟨a, ns, rfl, hS, fun _ => rfl⟩) fun _ _ _ _ _ z => z
theorem room1 {k : Nat} {A : Around} (r : Room k A) : A.units + 1 < cLine := by have := r.un; omega
theorem kit_self {K : Frag} (t : Value) (h : (t == t) = true := by simp) : PySem.W.kitOne K t t = some true := by unfold PySem.W.kitOne; rw [if_pos h]
theorem kit_ref {K : Frag} {C D : Addr} {r : Bool} (n : C ≠ D) (c : PySem.W.isClsIn K D = true) (ht : PySem.W.typeIn K (.ref D) = some (.type "type")) (h : PySem.W.subIn K (.ref C) (.ref D) = some r) : PySem.W.kitOne K (.ref C) (.ref D) = some r := by
  have c1 : (PySem.W.clsIn K D).isSome = true := c
  unfold PySem.W.kitOne
  rw [if_neg (by simpa using n)]
  show (if ((PySem.W.clsIn K D).isSome && PySem.W.typeIn K (.ref D) == some (.type "type")) = true then PySem.W.subIn K (.ref C) (.ref D) else none) = _
  rw [c1, ht, if_pos (by simp)]
  exact h
theorem exm_of {K : Frag} {N E : Addr} (he : PySem.W.subIn K (.ref E) (.type "BaseException") = some true) (hc : PySem.W.isClsIn K E = true) (ht : PySem.W.typeIn K (.ref E) = some (.type "type")) (hs : PySem.W.subIn K (.ref N) (.ref E) = some true) : PySem.W.exmOne K (.ref N) (.ref E) = some true := by
  have c1 : (PySem.W.clsIn K E).isSome = true := hc
  unfold PySem.W.exmOne
  rw [he, if_pos (by simp)]
  show (if ((PySem.W.clsIn K E).isSome && PySem.W.typeIn K (.ref E) == some (.type "type")) = true then PySem.W.subIn K (.ref N) (.ref E) else none) = _
  rw [c1, ht, if_pos (by simp)]
  exact hs
theorem kit_typ {K : Frag} {C : Addr} {T : String} {r : Bool} (hm : PySem.W.kitMeta T = true) (h : PySem.W.subIn K (.ref C) (.type T) = some r) : PySem.W.kitOne K (.ref C) (.type T) = some r := by
  unfold PySem.W.kitOne
  rw [if_neg (by simp)]
  show (if PySem.W.kitMeta T = true then PySem.W.subIn K (.ref C) (.type T) else none) = _
  rw [if_pos hm]
  exact h
/-! ### what is shown -/
theorem shown_fine {d : PyData} {n : Nat} (g : gdx d = true) (b : d.bulk ≤ n) (hn : n ≤ 200000) : d.shown.length ≤ sizeLine := by
  have q := PyData.shown_le_bulk 70 (by decide) d (gdx_short d g)
  have e : sizeLine = 16777216 := rfl
  omega
structure Mm (d : PyData) : Prop where
  good : gdx d = true
  bulk : d.bulk ≤ 100
  depth : d.depth ≤ 20
def flDt (d e : PyData) (i : Nat) : List PyData := if i = 1 ∨ i = 8 then [d, e] else if i < 11 then [d] else []
theorem tdall_fl {H : Hp} {x y : V} {d e : PyData} (i : Nat) (hx : Td H x d) (hy : Td H y e) : TdAll H (flE x y i) (flDt d e i) := by
  unfold flE flDt
  by_cases h : i = 1 ∨ i = 8
  · rw [if_pos h, if_pos h]
    exact .cons hx (.cons hy .nil)
  · rw [if_neg h, if_neg h]
    by_cases h2 : i < 11
    · rw [if_pos h2, if_pos h2]
      exact .cons hx .nil
    · rw [if_neg h2, if_neg h2]
      exact .nil
theorem mm_fl {d e : PyData} (i : Nat) (hd : Mm d) (he : Mm e) : gdx (.list (flDt d e i)) = true ∧ (PyData.list (flDt d e i)).bulk ≤ 300 ∧ (PyData.list (flDt d e i)).depth ≤ 40 := by
  obtain ⟨g1, b1, d1⟩ := hd
  obtain ⟨g2, b2, d2⟩ := he
  unfold flDt
  by_cases h : i = 1 ∨ i = 8
  · rw [if_pos h]
    refine ⟨by show (gdx d && (gdx e && true)) = true; rw [g1, g2]; rfl, by show d.bulk + 1 + (e.bulk + 1 + 0) ≤ 300; omega, by show max d.depth (max e.depth 0) + 1 ≤ 40; omega⟩
  · rw [if_neg h]
    by_cases h2 : i < 11
    · rw [if_pos h2]
      exact ⟨by show (gdx d && true) = true; rw [g1]; rfl, by show d.bulk + 1 + 0 ≤ 300; omega, by show max d.depth 0 + 1 ≤ 40; omega⟩
    · rw [if_neg h2]
      exact ⟨rfl, by decide, by decide⟩
theorem n_showD {x : V} {d : PyData} {n : Nat} {H : Hp} {Q : VK} (t : Td H x d) (g : gdx d = true) (b : d.bulk ≤ n) (hn : n ≤ 200000) (dp : d.depth ≤ 40) (q : Q (.str d.shown) H) : rShowD [x] H Q :=
  ⟨x, d, rfl, t, gdx_showable d g, dp, shown_fine g b hn, q⟩
/-- two objects, newly made of values -/
structure Two (b c : Addr) (H : Hp) (u v : Addr) (x : V) (dx : PyData) : Prop where
  sm : Sm dx
  h0 : ∃ N, Td N x dx ∧ Same N H ∧ N u = none ∧ N v = none ∧ N b = none
  uv : u ≠ v
  bag : Bag H b c
  ub : u ≠ b
  uc : u ≠ c
  vb : v ≠ b
  vc : v ≠ c
  h : (H u = some (.lst [x]) ∧ ∃ y, H v = some (.dK [(.inl 1, y)])) ∨ (H u = some (.dK [(.inl 0, x)]) ∧ ∃ y, H v = some (.lst [y, .int 3]))
theorem sub_mu {N H : Hp} {u : Addr} {o : HO} (s : Same N H) (h : N u = none) : Same N (upd H u o) := L2.Same.mu s h
theorem sub_kp {N H H' : Hp} {b : Addr} (s : Same N H) (h : N b = none) (k : Kp b H H') : Same N H' := fun a o e => k a o (ne_of_none e h) (s a o e)
theorem Bag.at {H : Hp} {b c : Addr} (h : Bag H b c) : H b ≠ none := by
  obtain ⟨_, _, _, _, e, _⟩ := h
  rw [e]
  exact fun z => nomatch z
theorem same_upd {N H : Hp} {u : Addr} {o : HO} (s : Same N H) (h : N u = none) : Same (upd N u o) (upd H u o) := fun z q e => by
  by_cases w : z = u
  · subst w; rw [upd_same] at e ⊢; exact e
  · rw [upd_ne w] at e ⊢; exact s _ _ e
theorem Two.same {b c u v : Addr} {x : V} {dx : PyData} {H H' : Hp} (T : Two b c H u v x dx) (s : Same H H') : Two b c H' u v x dx :=
  ⟨T.sm, (let ⟨N, t, q, n1, n2, n3⟩ := T.h0; ⟨N, t, q.trans s, n1, n2, n3⟩), T.uv, T.bag.same s, T.ub, T.uc, T.vb, T.vc, T.h.elim (fun ⟨h1, y, h2⟩ => .inl ⟨s _ _ h1, y, s _ _ h2⟩) fun ⟨h1, y, h2⟩ => .inr ⟨s _ _ h1, y, s _ _ h2⟩⟩
theorem ErrIs.mut {C : Nat → Addr} {H : Hp} {e u : Addr} {i : Nat} {x y : V} {o : HO} (h : ErrIs C H e i x y) (hu : (∃ l, H u = some (.lst l)) ∨ ∃ l, H u = some (.dK l)) : ErrIs C (upd H u o) e i x y := by
  have go : ∀ {z : Addr} {q : HO}, H z = some q → (∀ l, q ≠ .lst l) → (∀ l, q ≠ .dK l) → upd H u o z = some q := fun {z q} hz h1 h2 => by
    have n : z ≠ u := fun w => by
      subst w
      rcases hu with ⟨l, hu⟩ | ⟨l, hu⟩ <;> rw [hu] at hz
      · exact h1 l (Option.some.inj hz).symm
      · exact h2 l (Option.some.inj hz).symm
    rw [upd_ne n]
    exact hz
  rcases h with ⟨hi, dx, h1, h2⟩ | ⟨hi, h1⟩
  · refine .inl ⟨hi, dx, h1.elim (fun q => .inl (go q (fun _ z => nomatch z) fun _ z => nomatch z)) fun q => .inr (go q (fun _ z => nomatch z) fun _ z => nomatch z), h2.elim (fun q => .inl (go q (fun _ z => nomatch z) fun _ z => nomatch z)) fun q => .inr (go q (fun _ z => nomatch z) fun _ z => nomatch z)⟩
  · exact .inr ⟨hi, h1.elim (fun q => .inl (go q (fun _ z => nomatch z) fun _ z => nomatch z)) fun q => .inr (go q (fun _ z => nomatch z) fun _ z => nomatch z)⟩
theorem clr {K : Frag} {σ : L2.St} {j : Nat} {H : Hp} {v : Addr} {Q : VK} (hj : σ[j]? = some (some (.ref v))) (hv : (∃ l, H v = some (.lst l)) ∨ ∃ l, H v = some (.dK l))
    (q : ∀ o dv, (∀ H' : Hp, H' v = some o → Td H' (.ref v) dv) → Mm dv → Q .non (upd H v o)) : tBM0 K "list" rClear (tVar j) σ H Q ∨ tBM0 K "dict" rDClear (tVar j) σ H Q := by
  rcases hv with ⟨l, hv⟩ | ⟨l, hv⟩
  · exact .inl (a_var hj ⟨.inl ⟨rfl, _, SqL.of hv⟩, v, l, rfl, rfl, hv, q _ (.list []) (fun H' h => .lst h .nil) ⟨rfl, by decide, by decide⟩⟩)
  · exact .inr (a_var hj ⟨.inr (.inr (.inl ⟨rfl, .inl ⟨_, hv⟩⟩)), v, l, rfl, rfl, hv, q _ (.dict []) (fun H' h => .dct h .nil) ⟨rfl, by decide, by decide⟩⟩)
theorem due_ok {K : Frag} {σ : L2.St} {H : Hp} {i j1 j2 : Nat} {x y : V} {Q : VK} (h0 : σ[2]? = some (some (.int i))) (h1 : σ[j1]? = some (some x)) (h2 : σ[j2]? = some (some y)) (hi : i < 12) (q : ∀ l H', Same H H' → H' l = some (.lst (flE x y i)) → Q (.ref l) H') :
    [V.int 1, V.int 8].length ≤ sizeLine ∧ ∀ p, H p = none → rIn K false (.int i) (.ref p) (upd H p (.tup [.int 1, .int 8])) fun z H' => ∃ k, z = .bl k ∧ if k = true then tLst (tCons (tVar j1) (tCons (tVar j2) tNil)) σ H' Q else
      tIf (tTest (tOp (rI0 fun i j => .bl (decide (i < j))) (tVar 2) (tC (.int 11)))) (tLst (tCons (tVar j1) tNil)) (tLst tNil) σ H' Q := by
  refine ⟨by show 2 ≤ sizeLine; decide, fun p hp => ?_⟩
  have e := nw_of hp (.tup [.int 1, .int 8])
  refine n_inT upd_same rfl rfl ⟨_, rfl, ?_⟩
  rw [inv2]
  refine ite2 (fun h => ?_) (fun h => ?_)
  · have z : i = 1 ∨ i = 8 := by
      rcases Bool.or_eq_true_iff.mp h with h | h <;> have := of_decide_eq_true h <;> omega
    refine a_lst (a_cons (a_var h1 (a_cons (a_var h2 (a_nil ⟨by show 2 ≤ sizeLine; decide, fun l hl => q l _ (e.trans (nw_of hl _)) ?_⟩)))))
    rw [upd_same]
    unfold flE
    rw [if_pos z]
  · have z : ¬ (i = 1 ∨ i = 8) := fun z => h (by
      rcases z with rfl | rfl <;> rfl)
    refine a_ifx (a_test (a_op (a_var h0 (a_c (a_I0 ⟨_, rfl, ?_⟩)))))
    refine ite2 (fun g => ?_) (fun g => ?_)
    · have g := of_decide_eq_true g
      refine a_lst (a_cons (a_var h1 (a_nil ⟨by show 1 ≤ sizeLine; decide, fun l hl => q l _ (e.trans (nw_of hl _)) ?_⟩)))
      rw [upd_same]
      unfold flE
      rw [if_neg z, if_pos (by omega)]
    · have g : ¬ ((i : Int) < 11) := fun w => g (decide_eq_true w)
      refine a_lst (a_nil ⟨by show 0 ≤ sizeLine; decide, fun l hl => q l _ (e.trans (nw_of hl _)) ?_⟩)
      rw [upd_same]
      unfold flE
      rw [if_neg z, if_neg (by omega)]
theorem ErrIs.any {C : Nat → Addr} {H : Hp} {e : Addr} {i : Nat} {x y : V} (h : ErrIs C H e i x y) : (∃ dx fs, ErrAt H e (C i) dx fs) ∨ ErrN H e (C i) :=
  h.elim (fun ⟨_, dx, q⟩ => .inl ⟨dx, _, q⟩) fun ⟨l, q⟩ => .inr (l ▸ q)
theorem isv {K : Frag} {mg : Str → Option Value} {C : Nat → Addr} (ER : Ers K mg C) {H : Hp} {e : Addr} {i : Nat} {Q : VK} (hi : i < 13) (h : (∃ dx fs, ErrAt H e (C i) dx fs) ∨ ErrN H e (C i)) (q : Q (.bl true) H) : rIsON K [.ref e, .ty "ValueError"] H Q := by
  rcases h with ⟨dx, fs, he⟩ | he
  · exact .inl ⟨e, C i, dx, .ty "ValueError", .type "ValueError", true, fs, rfl, he, ER.x i hi, fun u r => r, ER.kitV i hi, q⟩
  · exact .inr ⟨e, C i, .ty "ValueError", .type "ValueError", true, rfl, he, ER.x i hi, fun u r => r, ER.kitV i hi, q⟩
theorem flD_fine (i : Nat) (hi : i < 13) : gdx (.list (flD i)) = true ∧ (PyData.list (flD i)).bulk ≤ 300 ∧ (PyData.list (flD i)).depth ≤ 40 := by
  revert i
  decide +kernel
theorem inv_kit {i k : Nat} : inV (.int k) [.int i, .int 12] = kitE i k := by
  rw [inv2]
  unfold kitE
  have e : ∀ a b : Nat, (a == b) = decide ((a : Int) = b) := fun a b => by
    by_cases z : a = b
    · subst z; rw [decide_eq_true rfl]; exact beq_self_eq_true _
    · rw [decide_eq_false (by omega)]; exact beq_eq_false_iff_ne.mpr z
  rw [e, e]
  rfl
theorem tdall_flags {H : Hp} (i n : Nat) : TdAll H ((List.range n).map fun j => V.bl (kitE i j)) ((List.range n).map fun j => PyData.bool (kitE i j)) := by
  generalize List.range n = l
  induction l with
  | nil => exact .nil
  | cons j r ih => exact .cons (.bl _) ih
theorem n_vlS2 {C : Addr} {vs : List V} {H : Hp} {R : Addr → Hp → Prop} (hl : vs.length ≤ 1000) (q : ∀ a H2, H a = none → Same H H2 → ErrN H2 a C → R a H2) :
    vs.length ≤ 1000 ∧ ∀ a : Addr, H a = none → spStar (.ref a :: (vs ++ [])) (upd H a (exo a C none)) (fun v H2 => v = .non ∧ R a H2) fun _ _ _ => False :=
  ⟨hl, fun a ha => ⟨.ref a, vs ++ [], rfl, by rw [List.append_nil]; exact hl, fun p hp => ⟨rfl, q a _ ha (L2.Same.nw (L2.Same.nw (Same.refl H) ha) hp) (.inl (by rw [upd_ne (fun z => by rw [← z, upd_same] at hp; cases hp)]; exact upd_same))⟩⟩⟩
theorem neb {H : Hp} {b c z : Addr} {o : HO} (h : Bag H b c) (q : H z = some o) (n : ∀ l, o ≠ .lst l) : z ≠ b := fun e => by
  obtain ⟨_, _, _, _, g, _⟩ := h
  rw [e, g] at q
  exact n _ (Option.some.inj q).symm
/-! ### the law -/
section
variable {P : Program} {w : World} {K : Frag} {mg : Str → Option Value} {base : Heap} {f : Addr} {C : Nat → Addr} {fd : FuncData}
theorem ok_law (F : Fun K "law" "law" s_law f fd) (T : Tb mg) (hM : ∃ mm, base.Ns sysModules mm) (hVE : mg "ValueError" = none) (ER : Ers K mg C) (c_bag : Cal P w K mg base CX0 1 "_law_bag" ["_law_script"] (spBag K)) (c_take : Cal P w K mg base CX0 1 "_law_take" ["_law_bag_here", "_law_many"] spTake)
    (c_value : Cal P w K mg base CX0 3 "_law_value" ["_law_bag_here"] spVal) (c_made : Cal P w K mg base CX0 3 "_law_made" ["_law_at", "_law_first", "_law_second"] (spMade C)) (c_fields : Cal P w K mg base CX0 1 "_law_fields" ["_law_at", "_law_error"] (spFields C))
    (c_flags : Cal P w K mg base CX0 1 "_law_flags" ["_law_error"] (spFlags C)) (c_raised : Cal P w K mg base CX0 4 "_law_raised" ["_law_at", "_law_first", "_law_second"] (spMade C)) (c_CaseError : ErrZ P w K mg base "CaseError" (C 12) spStar) :
    FnG P w K mg base CX0 5 f fd ["_law_script"] (spLaw K) := by
  refine fnG_of F sc_law (fun vs H Q E h => ?_) (fun cdv A outer s H vs Q E hr hq h => ?_)
  · obtain ⟨_, _, rfl, _⟩ := h
    rfl
  · obtain ⟨a, ns, rfl, hs, k⟩ := h
    refine ⟨_, PSs.nox (pss_cons (ps_set (i := 1) sc_law.nd rfl (Or.inl rfl) (pe_cal c_bag (hr.mono (by decide)) pass0 (pa_cons (pv 0) pa_nil)))
  (pss_cons (ps_for PassesOwn.never rfl (pi_range1 rfl T.b.range_ (pa_cons pe_int pa_nil)) (pg_name (i := 2) sc_law.nd rfl (Or.inr rfl))
    (pss_cons (ps_par (i := 3) (j := 4) rfl sc_law.nd rfl rfl (by decide) rfl rfl (pa_cons (pe_lst (pa_cons (pe_cal c_value (hr.mono (by decide)) pass0 (pa_cons (pv 1) pa_nil)) pa_nil)) (pa_cons (pe_disp (pps_cons pe_int (pe_cal c_value (hr.mono (by decide)) pass0 (pa_cons (pv 1) pa_nil)) pps_nil) (by rfl) (by rfl) (fun z => by cases z) (by decide)) pa_nil)) (by with_unfolding_all rfl))
  (Evl.pss_cut (ps_if (pt_cmpR (u_eq hr.units) (pe_cal c_take (hr.mono (by decide)) pass0 (pa_cons (pv 1) (pa_cons pe_int pa_nil))) pe_int (nomark _))
    (pss_one (ps_par (i := 3) (j := 4) rfl sc_law.nd rfl rfl (by decide) rfl rfl (pa_cons (pe_disp (pps_cons pe_int (pe_cal c_value (hr.mono (by decide)) pass0 (pa_cons (pv 1) pa_nil)) pps_nil) (by rfl) (by rfl) (fun z => by cases z) (by decide)) (pa_cons (pe_lst (pa_cons (pe_cal c_value (hr.mono (by decide)) pass0 (pa_cons (pv 1) pa_nil)) (pa_cons pe_int pa_nil))) pa_nil)) (by with_unfolding_all rfl)))
    pss_nil)
  (pss_cons (ps_set (i := 5) sc_law.nd rfl (Or.inl rfl) (pe_cal c_made (hr.mono (by decide)) pass0 (pa_cons (pv 2) (pa_cons (pv 3) (pa_cons (pv 4) pa_nil)))))
  (Evl.pss_cut (ps_if (pt_val (pe_callB u_isi rfl T.b.isinstance_ boot_isinstance (pa_cons (pv 3) (pa_cons (pe_bltn (v := V.ty "list") rfl T.b.list_ (by decide +kernel) rfl) pa_nil))))
    (pss_one (ps_expr (pe_bm PySem.F.plainAttrs_list PySem.F.slot_list_append PySem.F.type_list_append mt_append (pv 3) (pa_cons pe_int pa_nil))))
    (pss_one (ps_asg pe_int (pg_sub (pv 3) pe_int (set_dict (room1 hr))))))
  (pss_cons (ps_expr (PE.alt (pe_bm0 PySem.F.plainAttrs_list PySem.F.slot_list_clear PySem.F.type_list_clear mt_clear (pv 4)) (pe_dclear (pv 4))))
  (pss_cons (ps_set (i := 6) sc_law.nd rfl (Or.inl rfl) (pe_ifExp (pt_cmpR u_in (pv 2) (pe_tup (pa_cons pe_int (pa_cons pe_int pa_nil))) rfl) (pe_lst (pa_cons (pv 3) (pa_cons (pv 4) pa_nil))) (pe_ifExp (pt_cmpR op_lt (pv 2) pe_int (nomark _)) (pe_lst (pa_cons (pv 3) pa_nil)) (pe_lst pa_nil))))
  (pss_cons (ps_if (pt_cmpR (u_ne hr.units) (pe_callB (show CallR _ (.builtin "repr") rShowD from u_showD hM hq hr.units) rfl T.b.repr_ (by decide +kernel) (pa_cons (pe_cal c_fields (hr.mono (by decide)) pass0 (pa_cons (pv 2) (pa_cons (pv 5) pa_nil))) pa_nil)) (pe_callB (show CallR _ (.builtin "repr") rShowD from u_showD hM hq hr.units) rfl T.b.repr_ (by decide +kernel) (pa_cons (pv 6) pa_nil)) (nomark _))
    (pss_one (ps_ret pe_bl))
    pss_nil)
  (pss_cons (ps_if (pt_cmpR (u_ne hr.units) (pe_callB (show CallR _ (.builtin "repr") rShowD from u_showD hM hq hr.units) rfl T.b.repr_ (by decide +kernel) (pa_cons (pe_cal c_flags (hr.mono (by decide)) pass0 (pa_cons (pv 5) pa_nil)) pa_nil)) (pe_callB (show CallR _ (.builtin "repr") rShowD from u_showD hM hq hr.units) rfl T.b.repr_ (by decide +kernel) (pa_cons (pe_lc (own := [("_law_k", 7)]) rfl sc_law.nd (pi_range1 rfl T.b.range_ (pa_cons pe_int pa_nil)) (blkOk_by (own := [("_law_k", 7)]) (N := N_law) (sc := defScope s_law) (by decide +kernel)) (fun _ _ _ _ _ => (pg_name (i := 7) sc_law.nd rfl (Or.inl rfl))) (fun _ _ _ _ _ => pts_nil) (fun _ _ _ _ _ => (pe_cmpR (show OpR _ (compareOp .In) (rIn K false) from u_in) (pv 7) (pe_tup (pa_cons (pv 2) (pa_cons pe_int pa_nil))) rfl))) pa_nil)) (nomark _))
    (pss_one (ps_ret pe_bl))
    pss_nil)
  (pss_cons (ps_if (pt_not (pt_val (pe_callB (show CallR _ (.builtin "isinstance") (rIsON K) from call_isON) rfl T.b.isinstance_ boot_isinstance (pa_cons (pv 5) (pa_cons (pe_bltn (v := V.ty "ValueError") rfl hVE (by decide +kernel) rfl) pa_nil)))))
    (pss_one (ps_ret pe_bl))
    pss_nil)
  (pss_cons (ps_par (i := 8) (j := 9) rfl sc_law.nd rfl rfl (by decide) rfl rfl (pa_cons (pe_cal c_value (hr.mono (by decide)) pass0 (pa_cons (pv 1) pa_nil)) (pa_cons (pe_cal c_value (hr.mono (by decide)) pass0 (pa_cons (pv 1) pa_nil)) pa_nil)) (by with_unfolding_all rfl))
  (pss_cons (ps_set (i := 10) sc_law.nd rfl (Or.inl rfl) (pe_cal c_raised (hr.mono (by decide)) pass0 (pa_cons (pv 2) (pa_cons (pv 8) (pa_cons (pv 9) pa_nil)))))
  (pss_cons (ps_set (i := 11) sc_law.nd rfl (Or.inl rfl) (pe_ifExp (pt_cmpR u_in (pv 2) (pe_tup (pa_cons pe_int (pa_cons pe_int pa_nil))) rfl) (pe_lst (pa_cons (pv 8) (pa_cons (pv 9) pa_nil))) (pe_ifExp (pt_cmpR op_lt (pv 2) pe_int (nomark _)) (pe_lst (pa_cons (pv 8) pa_nil)) (pe_lst pa_nil))))
  (pss_one (ps_if (PW.pt (pw_or (pt_cmpR u_is (pv 10) pe_non (nomark _)) (pw_or1 (pt_cmpR (u_ne hr.units) (pe_callB (show CallR _ (.builtin "repr") rShowD from u_showD hM hq hr.units) rfl T.b.repr_ (by decide +kernel) (pa_cons (pe_cal c_fields (hr.mono (by decide)) pass0 (pa_cons (pv 2) (pa_cons (pv 10) pa_nil))) pa_nil)) (pe_callB (show CallR _ (.builtin "repr") rShowD from u_showD hM hq hr.units) rfl T.b.repr_ (by decide +kernel) (pa_cons (pv 11) pa_nil)) (nomark _)))))
    (pss_one (ps_ret pe_bl))
    pss_nil)))))))))))))))
  (pss_cons (ps_for PassesOwn.never rfl (pi_tup (pe_tup (pa_cons (pe_errZ0 c_CaseError (hr.mono (by decide))) (pa_cons (pe_errZ c_CaseError (hr.mono (by decide)) (pa_cons (pe_cal c_value (hr.mono (by decide)) pass0 (pa_cons (pv 1) pa_nil)) pa_nil)) (pa_cons (pe_errZ c_CaseError (hr.mono (by decide)) (pa_cons pe_int (pa_cons pe_str (pa_cons pe_non (pa_cons (pe_tup pa_nil) (pa_cons (pe_lst (pa_cons pe_int pa_nil)) (pa_cons pe_dnewK pa_nil))))))) pa_nil))))) (pg_name (i := 12) sc_law.nd rfl (Or.inl rfl))
    (pss_cons (ps_if (pt_cmpR (u_ne hr.units) (pe_callB (show CallR _ (.builtin "repr") rShowD from u_showD hM hq hr.units) rfl T.b.repr_ (by decide +kernel) (pa_cons (pe_cal c_flags (hr.mono (by decide)) pass0 (pa_cons (pv 12) pa_nil)) pa_nil)) (pe_callB (show CallR _ (.builtin "repr") rShowD from u_showD hM hq hr.units) rfl T.b.repr_ (by decide +kernel) (pa_cons (pe_op u_add (pe_op u_mul (pe_lst (pa_cons pe_bl pa_nil)) pe_int) (pe_lst (pa_cons pe_bl pa_nil))) pa_nil)) (nomark _))
    (pss_one (ps_ret pe_bl))
    pss_nil)
  (pss_one (ps_if (pt_not (pt_val (pe_callB (show CallR _ (.builtin "isinstance") (rIsON K) from call_isON) rfl T.b.isinstance_ boot_isinstance (pa_cons (pv 12) (pa_cons (pe_bltn (v := V.ty "ValueError") rfl hVE (by decide +kernel) rfl) pa_nil)))))
    (pss_one (ps_ret pe_bl))
    pss_nil))))
  (pss_one (ps_ret pe_bl))))), ?_⟩
    walk_at "el"
    refine ⟨a, ns, rfl, hs, fun b c H1 b0 c0 hb1 s1 => ?_⟩
    walk_at "el"
    refine ⟨by decide, by decide, ?_⟩
    refine lp_range (lo := 0) (n := 12) (fun i σ H2 => Bag H2 b c ∧ ∃ v2 v3 v4 v5 v6 v7 v8 v9 v10 v11 v12, σ = [some (.ref a), some (.ref b), v2, v3, v4, v5, v6, v7, v8, v9, v10, v11, v12]) ⟨hb1, _, _, _, _, _, _, _, _, _, _, _, rfl⟩ ?_ ?_
    · rintro i σ H2 hi ⟨hb2, v2, v3, v4, v5, v6, v7, v8, v9, v10, v11, v12, rfl⟩
      rw [Int.zero_add]
      walk_at "el"
      refine ⟨b, c, rfl, hb2, fun x dx N H3 hb3 k3 sx tx sN nN => ?_⟩
      walk_at "el"
      refine ⟨by show 1 ≤ sizeLine; decide, fun u hu => ?_⟩
      have g4 := upd_at hu (.lst [x])
      have e4' := nw_of hu (.lst [x])
      have nu := hb3.ne hu
      have nuc := bagNc hb3 hu
      have hb4 := hb3.same e4'
      generalize upd H3 u (.lst [x]) = H4 at g4 e4' hb4 ⊢
      walk_at "el"
      intro v hv
      have e5 := nw_of hv (.dK [])
      have g5 := upd_at hv (.dK [])
      have nv := hb4.ne hv
      have nvc := bagNc hb4 hv
      have nuv : u ≠ v := fun z => by subst z; rw [g4] at hv; cases hv
      have hv3 : H3 v = none := e4'.free hv
      have hb5 := hb4.same e5
      generalize upd H4 v (.dK []) = H5 at e5 g5 hb5 ⊢
      walk_at "el"
      refine ⟨b, c, rfl, hb5, fun y dy N' H6 hb6 k6 sy ty sN' nN' => ?_⟩
      have g6 := k6 _ _ nv g5
      have k36 : Kp b H3 H6 := Kp.into k6 (e4'.trans e5)
      walk_at "el"
      refine ⟨g6, [(.inl 1, y)], rfl, by show 1 ≤ 15; decide, ?_⟩
      have T7 : Two b c (upd H6 v (.dK (mergeK [] [(.inl 1, y)]))) u v x dx := ⟨sx, ⟨N, tx, sub_mu (sub_kp sN (nN _ hb2.at) k36) (sN.free hv3), sN.free hu, sN.free hv3, nN _ hb2.at⟩, nuv, bagMu hb6 nv nvc, nu, nuc, nv, nvc, .inl ⟨by rw [upd_ne nuv]; exact k6 _ _ nu (e5 _ _ g4), y, upd_same⟩⟩
      generalize upd H6 v (.dK (mergeK [] [(.inl 1, y)])) = H7 at T7 ⊢
      clear hb2 k3 sx tx sN nN hb3 g4 e4' hb4 nu nuc hu hv e5 g5 nv nvc nuv hv3 hb5 k6 sy ty sN' nN' g6 k36 hb6
      walk_at "el"
      refine a_cut (fun σ' H8 => ∃ u v x dx, Two b c H8 u v x dx ∧ σ' = [some (.ref a), some (.ref b), some (.int i), some (.ref u), some (.ref v), v5, v6, v7, v8, v9, v10, v11, v12]) ?_ ?_
      · walk_at "el"
        refine ⟨b, c, 2, rfl, T7.bag, by decide, by decide, fun r H8 r0 r1 hb8 k8 => ?_⟩
        walk_at "el"
        refine ite2 (fun g0 => ?_) (fun g0 => ?_)
        · walk_at "el"
          clear T7 k8 g0
          intro u hu
          have e9 := nw_of hu (.dK [])
          have g9 := upd_at hu (.dK [])
          have nu := hb8.ne hu
          have nuc := bagNc hb8 hu
          have hb9 := hb8.same e9
          generalize upd H8 u (.dK []) = H9 at e9 g9 hb9 ⊢
          walk_at "el"
          refine ⟨b, c, rfl, hb9, fun x dx N H10 hb10 k10 sx tx sN nN => ?_⟩
          have g10 := k10 _ _ nu g9
          walk_at "el"
          refine ⟨g10, [(.inl 0, x)], rfl, by show 1 ≤ 15; decide, ?_⟩
          have nNu : N u = none := nN _ (by rw [g9]; exact fun z => nomatch z)
          have nNb : N b = none := nN _ hb9.at
          have sN1 := sub_mu (o := .dK (mergeK [] [(.inl 0, x)])) sN nNu
          have g11 : upd H10 u (.dK (mergeK [] [(.inl 0, x)])) u = some (.dK [(.inl 0, x)]) := upd_same
          have hb11 := bagMu (o := .dK (mergeK [] [(.inl 0, x)])) hb10 nu nuc
          generalize upd H10 u (.dK (mergeK [] [(.inl 0, x)])) = H11 at sN1 g11 hb11 ⊢
          walk_at "el"
          refine ⟨b, c, rfl, hb11, fun y dy N' H12 hb12 k12 sy ty sN' nN' => ?_⟩
          walk_at "el"
          refine ⟨by show 2 ≤ sizeLine; decide, fun v hv => ?_⟩
          have g12 := k12 _ _ nu g11
          walk_at "el"
          refine ⟨u, v, x, dx, ⟨sx, ⟨N, tx, (sub_kp sN1 nNb k12).nw hv, nNu, (sub_kp sN1 nNb k12).free hv, nNb⟩, (fun z => by subst z; rw [g12] at hv; cases hv), hb12.same (nw_of hv _), nu, nuc, hb12.ne hv, bagNc hb12 hv, .inr ⟨nw_of hv _ _ _ g12, y, upd_same⟩⟩, rfl⟩
        · walk_at "el"
          exact ⟨u, v, x, dx, ⟨T7.sm, (let ⟨N, t, s, n1, n2, n3⟩ := T7.h0; ⟨N, t, sub_kp s n3 k8, n1, n2, n3⟩), T7.uv, hb8, T7.ub, T7.uc, T7.vb, T7.vc, T7.h.elim (fun ⟨h1, y, h2⟩ => .inl ⟨k8 _ _ T7.ub h1, y, k8 _ _ T7.vb h2⟩) fun ⟨h1, y, h2⟩ => .inr ⟨k8 _ _ T7.ub h1, y, k8 _ _ T7.vb h2⟩⟩, rfl⟩
      · clear T7
        rintro σ' H8 ⟨u, v, x, dx, T8, rfl⟩
        walk_at "el"
        refine ⟨i, .ref u, .ref v, rfl, hi, fun e H9 s9 he9 eis => ?_⟩
        have T9 := T8.same s9
        clear T8 s9 he9
        walk_at "el"
        refine a_cut (fun σ' H' => ∃ du N2, Mm du ∧ Td N2 (.ref u) du ∧ Same N2 H' ∧ N2 v = none ∧ N2 b = none ∧ Bag H' b c ∧ ((∃ l, H' v = some (.lst l)) ∨ ∃ l, H' v = some (.dK l)) ∧ ErrIs C H' e i (.ref u) (.ref v) ∧
          σ' = [some (.ref a), some (.ref b), some (.int i), some (.ref u), some (.ref v), some (.ref e), v6, v7, v8, v9, v10, v11, v12]) ?_ ?_
        · obtain ⟨sm, ⟨N, tx, sN, nNu, nNv, nNb⟩, nuv, hb9, nu, nuc, nv, nvc, h⟩ := T9
          rcases h with ⟨hu, y, hv⟩ | ⟨hu, y, hv⟩
          · obtain ⟨tk, kit⟩ := (Th.lst (K := K) hu).kit
            walk_at "el"
            rw [show isL H9 (.ref u) = true by show obL (H9 u) = _; rw [hu]; rfl]
            walk_at "el"
            refine ⟨.inl ⟨rfl, _, SqL.of hu⟩, ?_⟩
            walk_at "el"
            refine ⟨u, _, _, rfl, rfl, hu, by show 1 < sizeLine; decide, ?_⟩
            walk_at "el"
            exact ⟨.list [dx, .int 7], upd N u (.lst [x, .int 7]), ⟨by show (gdx dx && (gdx (.int 7) && true)) = true; rw [sm.good]; rfl, by show dx.bulk + 1 + (0 + 1 + 0) ≤ 100; have := sm.bulk; omega, by show max dx.depth (max 0 0) + 1 ≤ 20; have := sm.depth; omega⟩,
              .lst upd_same (.cons (tx.same (nw_of nNu _)) (.cons (.int 7) .nil)), same_upd sN nNu, by rw [upd_ne nuv.symm]; exact nNv, by rw [upd_ne nu.symm]; exact nNb, bagMu hb9 nu nuc, .inr ⟨_, by rw [upd_ne nuv.symm]; exact hv⟩, eis.mut (.inl ⟨_, hu⟩), rfl⟩
          · obtain ⟨tk, kit⟩ := (Th.dct (K := K) hu).kit
            walk_at "el"
            rw [show isL H9 (.ref u) = false by show obL (H9 u) = _; rw [hu]; rfl]
            walk_at "el"
            refine ⟨u, _, rfl, DPut.k (k := .inl 7) hu (by show 1 < sizeLine; decide), ?_⟩
            exact ⟨.dict [(.int 0, dx), (.int 7, .int 7)], upd N u (.dK (putK [(.inl 0, x)] (.inl 7) (.int 7))), ⟨by show (gdx (.int 0) && gdx dx && (gdx (.int 7) && gdx (.int 7) && true)) = true; rw [sm.good]; rfl, by show 0 + dx.bulk + 2 + (0 + 0 + 2 + 0) ≤ 100; have := sm.bulk; omega, by show max (max 0 dx.depth) (max (max 0 0) 0) + 1 ≤ 20; have := sm.depth; omega⟩,
              .dct upd_same (.cons (k := .inl 0) (tx.same (nw_of nNu _)) (.cons (k := .inl 7) (.int 7) .nil)), same_upd sN nNu, by rw [upd_ne nuv.symm]; exact nNv, by rw [upd_ne nu.symm]; exact nNb, bagMu hb9 nu nuc, .inl ⟨_, by rw [upd_ne nuv.symm]; exact hv⟩, eis.mut (.inr ⟨_, hu⟩), rfl⟩
        · have nvb := T9.vb
          have nvc := T9.vc
          clear T9 eis
          rintro σ' H10 ⟨du, N2, md, tu, sN, nNv, nNb, hb10, hv, eis, rfl⟩
          walk_at "el"
          refine clr rfl hv fun o dv tv mv => ?_
          have tu11 : Td (upd H10 v o) (.ref u) du := tu.same (sub_mu sN nNv)
          have tv11 := tv (upd H10 v o) upd_same
          have hb11 := bagMu (o := o) hb10 nvb nvc
          have eis11 := eis.mut (o := o) hv
          generalize upd H10 v o = H11 at tu11 tv11 hb11 eis11 ⊢
          clear hv eis tu sN nNv nNb hb10 tv nvb nvc
          walk_at "el"
          refine due_ok rfl rfl rfl hi fun l H12 s12 hl => ?_
          have tu12 := tu11.same s12
          have tv12 := tv11.same s12
          have hb12 := hb11.same s12
          have eis12 := eis11.same s12
          clear tu11 tv11 hb11 eis11 s12
          walk_at "el"
          refine ⟨i, e, .ref u, .ref v, rfl, hi, eis12, fun l2 H13 s13 hl2 => ?_⟩
          have tl2 := tdall_fl i (tu12.same s13) (tv12.same s13)
          have tl := tdall_fl i (tu12.same s13) (tv12.same s13)
          obtain ⟨m1, m2, m3⟩ := mm_fl i md mv
          walk_at "el"
          refine n_showD (.lst hl2 tl2) m1 m2 (by decide) m3 ?_
          walk_at "el"
          refine n_showD (.lst (s13 _ _ hl) tl) m1 m2 (by decide) m3 ?_
          walk_at "el"
          rw [decide_eq_true rfl]
          walk_at "el"
          have hb13 := hb12.same s13
          have eis13 := eis12.same s13
          clear tu12 tv12 hb12 eis12 s13 tl tl2 hl hl2 m1 m2 m3 md mv
          obtain ⟨m1, m2, m3⟩ := flD_fine i (by omega)
          refine ⟨e, i, rfl, by omega, eis13.any, fun l3 xs H14 s14 hl3 tl3 => ?_⟩
          have hb14 := hb13.same s14
          have eis14 := eis13.same s14
          clear eis13 hb13 s14
          walk_at "el"
          refine n_showD (.lst hl3 tl3) m1 m2 (by decide) m3 ?_
          clear hl3 tl3
          walk_at "el"
          refine ⟨by decide, by decide, fun D hD => ?_⟩
          refine lc_of (walk_range (lo := 0) (n := 13)) (fun j H15 => Same H14 H15 ∧ H15 D = some (.lst ((List.range j).map fun j => V.bl (kitE i j)))) ⟨nw_of hD _, upd_same⟩ (fun _ _ _ _ => trivial) ?_ ?_
          · rintro j x H15 H16 hj ⟨s15, gD⟩ ⟨rfl, rfl⟩
            walk_at "el"
            refine ⟨rfl, ?_⟩
            walk_at "el"
            refine ⟨by show 2 ≤ sizeLine; decide, fun q1 hq1 => ?_⟩
            have e16 := nw_of hq1 (.tup [.int i, .int 12])
            refine n_inT upd_same rfl rfl ?_
            dsimp only
            rw [Int.zero_add, inv_kit]
            walk_at "el"
            refine ⟨_, e16 _ _ gD, by rw [List.length_map, List.length_range]; exact Nat.lt_of_lt_of_le (m := 14) (by omega) (by decide), ?_⟩
            refine ⟨L2.Same.mu (s15.trans e16) hD, ?_⟩
            rw [upd_same, List.range_succ, List.map_append]
            rfl
          · rintro H15 ⟨s15, gD⟩
            walk_at "el"
            refine n_showD (.lst gD (tdall_flags i 13)) m1 m2 (by decide) m3 ?_
            walk_at "el"
            rw [show (PyData.list ((List.range 13).map fun j => PyData.bool (kitE i j))).shown = (PyData.list (flD i)).shown from rfl, decide_eq_true rfl]
            walk_at "el"
            have hb15 := hb14.same s15
            have eis15 := eis14.same s15
            clear eis14 hb14 s15 gD hD m1 m2 m3
            refine isv ER (by omega) eis15.any ?_
            clear eis15
            walk_at "el"
            refine ⟨b, c, rfl, hb15, fun x2 d2 N2 H16 hb16 k16 sm2 t2 sN2 nN2 => ?_⟩
            walk_at "el"
            refine ⟨b, c, rfl, hb16, fun y2 d3 N3 H17 hb17 k17 sm3 t3 sN3 nN3 => ?_⟩
            have t2 : Td H17 x2 d2 := t2.same (sub_kp sN2 (nN2 _ hb15.at) k17)
            have t3 : Td H17 y2 d3 := t3.same sN3
            have md2 : Mm d2 := ⟨sm2.good, by have := sm2.bulk; omega, by have := sm2.depth; omega⟩
            have md3 : Mm d3 := ⟨sm3.good, by have := sm3.bulk; omega, by have := sm3.depth; omega⟩
            clear k16 sN2 nN2 hb16 k17 sm3 sm2 sN3 nN3 hb15
            walk_at "el"
            refine ⟨i, x2, y2, rfl, hi, fun e2 H18 s18 he2 eis18 => ?_⟩
            have t2 := t2.same s18
            have t3 := t3.same s18
            have hb18 := hb17.same s18
            clear hb17 s18 he2
            walk_at "el"
            refine due_ok rfl rfl rfl hi fun l4 H19 s19 hl4 => ?_
            have t2 := t2.same s19
            have t3 := t3.same s19
            have hb19 := hb18.same s19
            have eis19 := eis18.same s19
            clear hb18 s19 eis18
            walk_at "el"
            rw [decide_eq_false (fun z => nomatch z)]
            walk_at "el"
            refine ⟨i, e2, x2, y2, rfl, hi, eis19, fun l5 H20 s20 hl5 => ?_⟩
            have tl := tdall_fl i (t2.same s20) (t3.same s20)
            obtain ⟨m1, m2, m3⟩ := mm_fl i md2 md3
            walk_at "el"
            refine n_showD (.lst hl5 tl) m1 m2 (by decide) m3 ?_
            walk_at "el"
            refine n_showD (.lst (s20 _ _ hl4) tl) m1 m2 (by decide) m3 ?_
            walk_at "el"
            rw [decide_eq_true rfl]
            walk_at "el"
            exact ⟨hb19.same s20, _, _, _, _, _, _, _, _, _, _, _, rfl⟩
    · rintro σ H2 ⟨hb2, v2, v3, v4, v5, v6, v7, v8, v9, v10, v11, v12, rfl⟩
      clear hb1 s1
      walk_at "el"
      refine a_vl (a_nil (n_vlS (by show 0 ≤ 1000; decide) fun e1 H3 he1 s3 x1 => ?_))
      have hb3 := hb2.same s3
      clear hb2 s3 he1
      walk_at "el"
      refine ⟨b, c, rfl, hb3, fun x dx N H4 hb4 k4 sx tx sN nN => ?_⟩
      have x1 : ErrN H4 e1 (C 12) := x1.elim (fun q => .inl (k4 _ _ (neb hb3 q fun _ z => nomatch z) q)) fun q => .inr (k4 _ _ (neb hb3 q fun _ z => nomatch z) q)
      clear sx tx sN nN k4 hb3
      walk_at "el"
      refine n_vlS2 (vs := [x]) (by show 1 ≤ 1000; decide) fun e2 H5 he2 s5 x2 => ?_
      have hb5 := hb4.same s5
      have x1 := errN_same x1 s5
      clear hb4 s5 he2
      walk_at "el"
      refine a_vl ?_
      walk_at "el"
      refine ⟨by show 0 ≤ sizeLine; decide, fun p1 hp1 => ?_⟩
      have s6 := nw_of hp1 (.tup [])
      generalize upd H5 p1 (.tup []) = H6 at s6 ⊢
      walk_at "el"
      refine ⟨by show 1 ≤ sizeLine; decide, fun p2 hp2 => ?_⟩
      have s7 := s6.trans (nw_of hp2 (.lst [.int 2]))
      generalize upd H6 p2 (.lst [.int 2]) = H7 at s7 ⊢
      walk_at "el"
      intro p3 hp3
      have s8 := s7.trans (nw_of hp3 (.dK []))
      generalize upd H7 p3 (.dK []) = H8 at s8 ⊢
      walk_at "el"
      refine n_vlS2 (vs := [.int 1, .str "a", .non, .ref p1, .ref p2, .ref p3]) (by show 6 ≤ 1000; decide) fun e3 H9 he3 s9 x3 => ?_
      have s59 := s8.trans s9
      have hb9 := hb5.same s59
      have x1 := errN_same x1 s59
      have x2 := errN_same x2 s59
      clear hb5 s59 s9 he3 s6 s7 s8 hp1 hp2 hp3
      walk_at "el"
      refine ⟨by show 3 ≤ sizeLine; decide, fun t ht => ?_⟩
      have s10 := nw_of ht (.tup [.ref e1, .ref e2, .ref e3])
      have g10 := upd_at ht (.tup [.ref e1, .ref e2, .ref e3])
      generalize upd H9 t (.tup [.ref e1, .ref e2, .ref e3]) = H10 at s10 g10 ⊢
      have all : ∀ z ∈ [V.ref e1, .ref e2, .ref e3], ∃ e, z = .ref e ∧ ErrN H10 e (C 12) := all_cons ⟨e1, rfl, errN_same x1 s10⟩ (all_cons ⟨e2, rfl, errN_same x2 s10⟩ (all_cons ⟨e3, rfl, errN_same x3 s10⟩ all_nil))
      clear x1 x2 x3 s10 hb9 ht
      refine ⟨t, rfl, ⟨_, SqT.of g10⟩, ?_⟩
      refine lp_it (walk_tup (xs := [.ref e1, .ref e2, .ref e3])) (fun j σ H11 => Same H10 H11 ∧ ∃ v12, σ = [some (.ref a), some (.ref b), v2, v3, v4, v5, v6, v7, v8, v9, v10, v11, v12]) ⟨Same.refl _, _, rfl⟩ (fun j σ H11 hj h => SqT.of (h.1 _ _ g10)) ?_ ?_
      · rintro j z σ Ha H11 hj ⟨s11, w12, rfl⟩ ⟨rfl, hz⟩
        obtain ⟨e, rfl, he⟩ := all z (List.mem_of_getElem? hz)
        have he := errN_same he s11
        obtain ⟨m1, m2, m3⟩ := flD_fine 12 (by decide)
        walk_at "el"
        refine ⟨e, 12, rfl, by decide, .inr he, fun l3 xs H12 s12 hl3 tl3 => ?_⟩
        have he := errN_same he s12
        walk_at "el"
        refine n_showD (.lst hl3 tl3) m1 m2 (by decide) m3 ?_
        have s13 := s11.trans s12
        clear s11 s12 hl3 tl3
        walk_at "el"
        refine ⟨by show 1 ≤ sizeLine; decide, fun q1 hq1 => ?_⟩
        have f1 := nw_of hq1 (.lst [.bl false])
        have g1 := upd_at hq1 (.lst [.bl false])
        generalize upd H12 q1 (.lst [.bl false]) = H13 at f1 g1 ⊢
        walk_at "el"
        refine .inr ⟨q1, 12, _, rfl, rfl, g1, by decide, by decide, by show 1 * 12 ≤ sizeLine; decide, fun q2 hq2 => ?_⟩
        have f2 := nw_of hq2 (.lst (List.replicate (12 : Int).toNat [V.bl false]).flatten)
        have g2 := upd_at hq2 (.lst (List.replicate (12 : Int).toNat [V.bl false]).flatten)
        generalize upd H13 q2 (.lst (List.replicate (12 : Int).toNat [V.bl false]).flatten) = H14 at f2 g2 ⊢
        walk_at "el"
        refine ⟨by show 1 ≤ sizeLine; decide, fun q3 hq3 => ?_⟩
        have f3 := nw_of hq3 (.lst [.bl true])
        have g3 := upd_at hq3 (.lst [.bl true])
        generalize upd H14 q3 (.lst [.bl true]) = H15 at f3 g3 ⊢
        walk_at "el"
        refine n_cat (f3 _ _ g2) g3 (by show 13 ≤ sizeLine; decide) fun q4 hq4 => ?_
        have f4 := nw_of hq4 (.lst ((List.replicate (12 : Int).toNat [V.bl false]).flatten ++ [.bl true]))
        have g4 : upd H15 q4 (.lst ((List.replicate (12 : Int).toNat [V.bl false]).flatten ++ [.bl true])) q4 = some (.lst ((List.range 13).map fun j => V.bl (kitE 12 j))) := upd_same
        generalize upd H15 q4 (.lst ((List.replicate (12 : Int).toNat [V.bl false]).flatten ++ [.bl true])) = H16 at f4 g4 ⊢
        have s16 := ((f1.trans f2).trans f3).trans f4
        walk_at "el"
        refine n_showD (.lst g4 (tdall_flags 12 13)) m1 m2 (by decide) m3 ?_
        walk_at "el"
        refine isv ER (by decide) (.inr (errN_same he s16)) ?_
        walk_at "el"
        exact ⟨s13.trans s16, _, rfl⟩
      · rintro σ H11 ⟨s11, w12, rfl⟩
        walk_at "el"
        exact k _
end
end EL

/- part M11 -/
namespace EL
open PySem PySem.Spec PyProof.Rows L2
open PySem.W (Frag)
set_option maxHeartbeats 0 in
theorem all_mk {P : Program} {w : World} {K : Frag} {h : Heap} {mg : Str → Option Value} {fa : Addr} (X : K.In h) (G : h.Ns mainGlobals mg) (hfa : mg "law" = some (.ref fa))
    {f_bag : Addr} {od_bag an_bag : Option Addr} {sl_bag : Array (Option Value)} {oc_bag kV_bag dc_bag pm_bag cd_bag ct_bag : Value}
    {f_take : Addr} {od_take an_take : Option Addr} {sl_take : Array (Option Value)} {oc_take kV_take dc_take pm_take cd_take ct_take : Value}
    {f_one : Addr} {od_one an_one : Option Addr} {sl_one : Array (Option Value)} {oc_one kV_one dc_one pm_one cd_one ct_one : Value}
    {f_value : Addr} {od_value an_value : Option Addr} {sl_value : Array (Option Value)} {oc_value kV_value dc_value pm_value cd_value ct_value : Value}
    {f_flags : Addr} {od_flags an_flags : Option Addr} {sl_flags : Array (Option Value)} {oc_flags kV_flags dc_flags pm_flags cd_flags ct_flags : Value}
    {f_made : Addr} {od_made an_made : Option Addr} {sl_made : Array (Option Value)} {oc_made kV_made dc_made pm_made cd_made ct_made : Value}
    {f_fields : Addr} {od_fields an_fields : Option Addr} {sl_fields : Array (Option Value)} {oc_fields kV_fields dc_fields pm_fields cd_fields ct_fields : Value}
    {f_thrown : Addr} {od_thrown an_thrown : Option Addr} {sl_thrown : Array (Option Value)} {oc_thrown kV_thrown dc_thrown pm_thrown cd_thrown ct_thrown : Value}
    {f_raised : Addr} {od_raised an_raised : Option Addr} {sl_raised : Array (Option Value)} {oc_raised kV_raised dc_raised pm_raised cd_raised ct_raised : Value}
    {f_law : Addr} {od_law an_law : Option Addr} {sl_law : Array (Option Value)} {oc_law kV_law dc_law pm_law cd_law ct_law : Value}
    {C0 f0 : Addr} {od0 an0 : Option Addr} {sl0 : Array (Option Value)} {oc0 kV0 dc0 pm0 cd0 ct0 : Value} {nm0 q0 : Str} {N0 : Addr} {bs0 bm0 : List Value} {sn0 : List Str} {sub0 : List Value} {ab0 : Bool} {col0 : Option Bool} {dd0 : Option Addr} {k00 k10 k20 k30 k50 : Option Value}
    {C1 f1 : Addr} {od1 an1 : Option Addr} {sl1 : Array (Option Value)} {oc1 kV1 dc1 pm1 cd1 ct1 : Value} {nm1 q1 : Str} {N1 : Addr} {bs1 bm1 : List Value} {sn1 : List Str} {sub1 : List Value} {ab1 : Bool} {col1 : Option Bool} {dd1 : Option Addr} {k01 k11 k21 k31 k51 : Option Value}
    {C2 f2 : Addr} {od2 an2 : Option Addr} {sl2 : Array (Option Value)} {oc2 kV2 dc2 pm2 cd2 ct2 : Value} {nm2 q2 : Str} {N2 : Addr} {bs2 bm2 : List Value} {sn2 : List Str} {sub2 : List Value} {ab2 : Bool} {col2 : Option Bool} {dd2 : Option Addr} {k02 k12 k22 k32 k52 : Option Value}
    {C3 f3 : Addr} {od3 an3 : Option Addr} {sl3 : Array (Option Value)} {oc3 kV3 dc3 pm3 cd3 ct3 : Value} {nm3 q3 : Str} {N3 : Addr} {bs3 bm3 : List Value} {sn3 : List Str} {sub3 : List Value} {ab3 : Bool} {col3 : Option Bool} {dd3 : Option Addr} {k03 k13 k23 k33 k53 : Option Value}
    {C4 f4 : Addr} {od4 an4 : Option Addr} {sl4 : Array (Option Value)} {oc4 kV4 dc4 pm4 cd4 ct4 : Value} {nm4 q4 : Str} {N4 : Addr} {bs4 bm4 : List Value} {sn4 : List Str} {sub4 : List Value} {ab4 : Bool} {col4 : Option Bool} {dd4 : Option Addr} {k04 k14 k24 k34 k54 : Option Value}
    {C5 f5 : Addr} {od5 an5 : Option Addr} {sl5 : Array (Option Value)} {oc5 kV5 dc5 pm5 cd5 ct5 : Value} {nm5 q5 : Str} {N5 : Addr} {bs5 bm5 : List Value} {sn5 : List Str} {sub5 : List Value} {ab5 : Bool} {col5 : Option Bool} {dd5 : Option Addr} {k05 k15 k25 k35 k55 : Option Value}
    {C6 f6 : Addr} {od6 an6 : Option Addr} {sl6 : Array (Option Value)} {oc6 kV6 dc6 pm6 cd6 ct6 : Value} {nm6 q6 : Str} {N6 : Addr} {bs6 bm6 : List Value} {sn6 : List Str} {sub6 : List Value} {ab6 : Bool} {col6 : Option Bool} {dd6 : Option Addr} {k06 k16 k26 k36 k56 : Option Value}
    {C7 f7 : Addr} {od7 an7 : Option Addr} {sl7 : Array (Option Value)} {oc7 kV7 dc7 pm7 cd7 ct7 : Value} {nm7 q7 : Str} {N7 : Addr} {bs7 bm7 : List Value} {sn7 : List Str} {sub7 : List Value} {ab7 : Bool} {col7 : Option Bool} {dd7 : Option Addr} {k07 k17 k27 k37 k57 : Option Value}
    {C8 f8 : Addr} {od8 an8 : Option Addr} {sl8 : Array (Option Value)} {oc8 kV8 dc8 pm8 cd8 ct8 : Value} {nm8 q8 : Str} {N8 : Addr} {bs8 bm8 : List Value} {sn8 : List Str} {sub8 : List Value} {ab8 : Bool} {col8 : Option Bool} {dd8 : Option Addr} {k08 k18 k28 k38 k58 : Option Value}
    {C9 f9 : Addr} {od9 an9 : Option Addr} {sl9 : Array (Option Value)} {oc9 kV9 dc9 pm9 cd9 ct9 : Value} {nm9 q9 : Str} {N9 : Addr} {bs9 bm9 : List Value} {sn9 : List Str} {sub9 : List Value} {ab9 : Bool} {col9 : Option Bool} {dd9 : Option Addr} {k09 k19 k29 k39 k59 : Option Value}
    {C10 f10 : Addr} {od10 an10 : Option Addr} {sl10 : Array (Option Value)} {oc10 kV10 dc10 pm10 cd10 ct10 : Value} {nm10 q10 : Str} {N10 : Addr} {bs10 bm10 : List Value} {sn10 : List Str} {sub10 : List Value} {ab10 : Bool} {col10 : Option Bool} {dd10 : Option Addr} {k010 k110 k210 k310 k510 : Option Value}
    {C11 f11 : Addr} {od11 an11 : Option Addr} {sl11 : Array (Option Value)} {oc11 kV11 dc11 pm11 cd11 ct11 : Value} {nm11 q11 : Str} {N11 : Addr} {bs11 bm11 : List Value} {sn11 : List Str} {sub11 : List Value} {ab11 : Bool} {col11 : Option Bool} {dd11 : Option Addr} {k011 k111 k211 k311 k511 : Option Value}
    {C12 f12 : Addr} {od12 an12 : Option Addr} {sl12 : Array (Option Value)} {oc12 kV12 dc12 pm12 cd12 ct12 : Value} {nm12 q12 : Str} {N12 : Addr} {bs12 bm12 : List Value} {sn12 : List Str} {sub12 : List Value} {ab12 : Bool} {col12 : Option Bool} {dd12 : Option Addr} {k012 k112 k212 k312 k512 : Option Value}
    (a_bag : PySem.W.nsIn K mainGlobals "_law_bag" = some (some (.ref f_bag)))
    (l_bag : K.lookup f_bag = some ⟨oc_bag, od_bag, .func (PySem.W.fnOf "_law_bag" "_law_bag" (defArgs s_bag) (defBody s_bag) (defScope s_bag) .none kV_bag dc_bag pm_bag an_bag cd_bag ct_bag), sl_bag⟩)
    (c_bag : PySem.W.codeIn K cd_bag "_law_bag" = true)
    (k_bag : PySem.W.keepIn K (.ref f_bag) = true)
    (a_take : PySem.W.nsIn K mainGlobals "_law_take" = some (some (.ref f_take)))
    (l_take : K.lookup f_take = some ⟨oc_take, od_take, .func (PySem.W.fnOf "_law_take" "_law_take" (defArgs s_take) (defBody s_take) (defScope s_take) .none kV_take dc_take pm_take an_take cd_take ct_take), sl_take⟩)
    (c_take : PySem.W.codeIn K cd_take "_law_take" = true)
    (k_take : PySem.W.keepIn K (.ref f_take) = true)
    (a_one : PySem.W.nsIn K mainGlobals "_law_one" = some (some (.ref f_one)))
    (l_one : K.lookup f_one = some ⟨oc_one, od_one, .func (PySem.W.fnOf "_law_one" "_law_one" (defArgs s_one) (defBody s_one) (defScope s_one) .none kV_one dc_one pm_one an_one cd_one ct_one), sl_one⟩)
    (c_one : PySem.W.codeIn K cd_one "_law_one" = true)
    (k_one : PySem.W.keepIn K (.ref f_one) = true)
    (a_value : PySem.W.nsIn K mainGlobals "_law_value" = some (some (.ref f_value)))
    (l_value : K.lookup f_value = some ⟨oc_value, od_value, .func (PySem.W.fnOf "_law_value" "_law_value" (defArgs s_value) (defBody s_value) (defScope s_value) .none kV_value dc_value pm_value an_value cd_value ct_value), sl_value⟩)
    (c_value : PySem.W.codeIn K cd_value "_law_value" = true)
    (k_value : PySem.W.keepIn K (.ref f_value) = true)
    (a_flags : PySem.W.nsIn K mainGlobals "_law_flags" = some (some (.ref f_flags)))
    (l_flags : K.lookup f_flags = some ⟨oc_flags, od_flags, .func (PySem.W.fnOf "_law_flags" "_law_flags" (defArgs s_flags) (defBody s_flags) (defScope s_flags) .none kV_flags dc_flags pm_flags an_flags cd_flags ct_flags), sl_flags⟩)
    (c_flags : PySem.W.codeIn K cd_flags "_law_flags" = true)
    (k_flags : PySem.W.keepIn K (.ref f_flags) = true)
    (a_made : PySem.W.nsIn K mainGlobals "_law_made" = some (some (.ref f_made)))
    (l_made : K.lookup f_made = some ⟨oc_made, od_made, .func (PySem.W.fnOf "_law_made" "_law_made" (defArgs s_made) (defBody s_made) (defScope s_made) .none kV_made dc_made pm_made an_made cd_made ct_made), sl_made⟩)
    (c_made : PySem.W.codeIn K cd_made "_law_made" = true)
    (k_made : PySem.W.keepIn K (.ref f_made) = true)
    (a_fields : PySem.W.nsIn K mainGlobals "_law_fields" = some (some (.ref f_fields)))
    (l_fields : K.lookup f_fields = some ⟨oc_fields, od_fields, .func (PySem.W.fnOf "_law_fields" "_law_fields" (defArgs s_fields) (defBody s_fields) (defScope s_fields) .none kV_fields dc_fields pm_fields an_fields cd_fields ct_fields), sl_fields⟩)
    (c_fields : PySem.W.codeIn K cd_fields "_law_fields" = true)
    (k_fields : PySem.W.keepIn K (.ref f_fields) = true)
    (a_thrown : PySem.W.nsIn K mainGlobals "_law_thrown" = some (some (.ref f_thrown)))
    (l_thrown : K.lookup f_thrown = some ⟨oc_thrown, od_thrown, .func (PySem.W.fnOf "_law_thrown" "_law_thrown" (defArgs s_thrown) (defBody s_thrown) (defScope s_thrown) .none kV_thrown dc_thrown pm_thrown an_thrown cd_thrown ct_thrown), sl_thrown⟩)
    (c_thrown : PySem.W.codeIn K cd_thrown "_law_thrown" = true)
    (k_thrown : PySem.W.keepIn K (.ref f_thrown) = true)
    (a_raised : PySem.W.nsIn K mainGlobals "_law_raised" = some (some (.ref f_raised)))
    (l_raised : K.lookup f_raised = some ⟨oc_raised, od_raised, .func (PySem.W.fnOf "_law_raised" "_law_raised" (defArgs s_raised) (defBody s_raised) (defScope s_raised) .none kV_raised dc_raised pm_raised an_raised cd_raised ct_raised), sl_raised⟩)
    (c_raised : PySem.W.codeIn K cd_raised "_law_raised" = true)
    (k_raised : PySem.W.keepIn K (.ref f_raised) = true)
    (a_law : PySem.W.nsIn K mainGlobals "law" = some (some (.ref f_law)))
    (l_law : K.lookup f_law = some ⟨oc_law, od_law, .func (PySem.W.fnOf "law" "law" (defArgs s_law) (defBody s_law) (defScope s_law) .none kV_law dc_law pm_law an_law cd_law ct_law), sl_law⟩)
    (c_law : PySem.W.codeIn K cd_law "law" = true)
    (k_law : PySem.W.keepIn K (.ref f_law) = true)
    (z_len : PySem.W.nsIn K mainGlobals "len" = some none)
    (z_isinstance : PySem.W.nsIn K mainGlobals "isinstance" = some none)
    (z_int : PySem.W.nsIn K mainGlobals "int" = some none)
    (z_bool : PySem.W.nsIn K mainGlobals "bool" = some none)
    (z_str : PySem.W.nsIn K mainGlobals "str" = some none)
    (z_list : PySem.W.nsIn K mainGlobals "list" = some none)
    (z_tuple : PySem.W.nsIn K mainGlobals "tuple" = some none)
    (z_range : PySem.W.nsIn K mainGlobals "range" = some none)
    (z_enumerate : PySem.W.nsIn K mainGlobals "enumerate" = some none)
    (z_zip : PySem.W.nsIn K mainGlobals "zip" = some none)
    (z_abs : PySem.W.nsIn K mainGlobals "abs" = some none)
    (z_repr : PySem.W.nsIn K mainGlobals "repr" = some none)
    (z_min : PySem.W.nsIn K mainGlobals "min" = some none)
    (z_max : PySem.W.nsIn K mainGlobals "max" = some none)
    (z_sum : PySem.W.nsIn K mainGlobals "sum" = some none)
    (z_all : PySem.W.nsIn K mainGlobals "all" = some none)
    (obj2 : PySem.W.specialIn K (.builtin "object.__class__") "__get__" = some (some (.builtin "getset_descriptor.__get__")))
    (obj3 : PySem.W.takesIn K (.builtin "object.__class__") = some true)
    (zVE : PySem.W.nsIn K mainGlobals "ValueError" = some none)
    (a_0 : PySem.W.nsIn K mainGlobals "Wrong" = some (some (.ref C0)))
    (i_0 : PySem.W.findIn K (.ref C0) "__init__" = some (some (.ref f0)))
    (t_0 : PySem.W.typeIn K (.ref f0) = some (.type "function"))
    (l_0 : K.lookup f0 = some ⟨oc0, od0, .func (PySem.W.fnOf "__init__" "Wrong.__init__" (defArgs s_Wrong_init) (defBody s_Wrong_init) (defScope s_Wrong_init) .none kV0 dc0 pm0 an0 cd0 ct0), sl0⟩)
    (c_0 : PySem.W.codeIn K cd0 "Wrong.__init__" = true)
    (k_0 : PySem.W.keepIn K (.ref f0) = true)
    (xl0 : K.lookup C0 = some (excClassObj nm0 q0 C0 N0 bs0 bm0 true sn0 sub0 ab0 col0 dd0 k00 k10 k20 k30 k50 "ValueError.__new__"))
    (xv0 : PySem.HandSPX.refsVE bm0 = true)
    (xs0 : PySem.W.findIn K (.ref C0) "__setattr__" = some (some (.builtin "object.__setattr__")))
    (xe0 : PySem.W.subIn K (.ref C0) (.type "BaseException") = some true)
    (xt0 : PySem.W.typeIn K (.ref C0) = some (.type "type"))
    (xk0 : PySem.W.keepIn K (.ref C0) = true)
    (xg0 : PySem.W.findIn K (.ref C0) "__getattribute__" = some (some (.builtin "BaseException.__getattribute__")))
    (xa0 : PySem.W.findIn K (.ref C0) "__getattr__" = some none)
    (xh0 : PySem.W.hasDictIn K C0 = true)
    (xc0 : PySem.W.findIn K (.ref C0) "__class__" = some (some (.builtin "object.__class__")))
    (xo0 : PySem.W.mroIn K C0 (.type "object") = some true)
    (xi0 : PySem.W.isClsIn K C0 = true)
    (xV0 : PySem.W.subIn K (.ref C0) (.type "ValueError") = some true)
    (x0_0 : PySem.W.findIn K (.ref C0) "place" = some none)
    (a_1 : PySem.W.nsIn K mainGlobals "BadItem" = some (some (.ref C1)))
    (i_1 : PySem.W.findIn K (.ref C1) "__init__" = some (some (.ref f1)))
    (t_1 : PySem.W.typeIn K (.ref f1) = some (.type "function"))
    (l_1 : K.lookup f1 = some ⟨oc1, od1, .func (PySem.W.fnOf "__init__" "BadItem.__init__" (defArgs s_BadItem_init) (defBody s_BadItem_init) (defScope s_BadItem_init) .none kV1 dc1 pm1 an1 cd1 ct1), sl1⟩)
    (c_1 : PySem.W.codeIn K cd1 "BadItem.__init__" = true)
    (k_1 : PySem.W.keepIn K (.ref f1) = true)
    (xl1 : K.lookup C1 = some (excClassObj nm1 q1 C1 N1 bs1 bm1 true sn1 sub1 ab1 col1 dd1 k01 k11 k21 k31 k51 "ValueError.__new__"))
    (xv1 : PySem.HandSPX.refsVE bm1 = true)
    (xs1 : PySem.W.findIn K (.ref C1) "__setattr__" = some (some (.builtin "object.__setattr__")))
    (xe1 : PySem.W.subIn K (.ref C1) (.type "BaseException") = some true)
    (xt1 : PySem.W.typeIn K (.ref C1) = some (.type "type"))
    (xk1 : PySem.W.keepIn K (.ref C1) = true)
    (xg1 : PySem.W.findIn K (.ref C1) "__getattribute__" = some (some (.builtin "BaseException.__getattribute__")))
    (xa1 : PySem.W.findIn K (.ref C1) "__getattr__" = some none)
    (xh1 : PySem.W.hasDictIn K C1 = true)
    (xc1 : PySem.W.findIn K (.ref C1) "__class__" = some (some (.builtin "object.__class__")))
    (xo1 : PySem.W.mroIn K C1 (.type "object") = some true)
    (xi1 : PySem.W.isClsIn K C1 = true)
    (xV1 : PySem.W.subIn K (.ref C1) (.type "ValueError") = some true)
    (x0_1 : PySem.W.findIn K (.ref C1) "place" = some none)
    (x1_1 : PySem.W.findIn K (.ref C1) "index" = some none)
    (a_2 : PySem.W.nsIn K mainGlobals "TooMany" = some (some (.ref C2)))
    (i_2 : PySem.W.findIn K (.ref C2) "__init__" = some (some (.ref f2)))
    (t_2 : PySem.W.typeIn K (.ref f2) = some (.type "function"))
    (l_2 : K.lookup f2 = some ⟨oc2, od2, .func (PySem.W.fnOf "__init__" "TooMany.__init__" (defArgs s_TooMany_init) (defBody s_TooMany_init) (defScope s_TooMany_init) .none kV2 dc2 pm2 an2 cd2 ct2), sl2⟩)
    (c_2 : PySem.W.codeIn K cd2 "TooMany.__init__" = true)
    (k_2 : PySem.W.keepIn K (.ref f2) = true)
    (xl2 : K.lookup C2 = some (excClassObj nm2 q2 C2 N2 bs2 bm2 true sn2 sub2 ab2 col2 dd2 k02 k12 k22 k32 k52 "ValueError.__new__"))
    (xv2 : PySem.HandSPX.refsVE bm2 = true)
    (xs2 : PySem.W.findIn K (.ref C2) "__setattr__" = some (some (.builtin "object.__setattr__")))
    (xe2 : PySem.W.subIn K (.ref C2) (.type "BaseException") = some true)
    (xt2 : PySem.W.typeIn K (.ref C2) = some (.type "type"))
    (xk2 : PySem.W.keepIn K (.ref C2) = true)
    (xg2 : PySem.W.findIn K (.ref C2) "__getattribute__" = some (some (.builtin "BaseException.__getattribute__")))
    (xa2 : PySem.W.findIn K (.ref C2) "__getattr__" = some none)
    (xh2 : PySem.W.hasDictIn K C2 = true)
    (xc2 : PySem.W.findIn K (.ref C2) "__class__" = some (some (.builtin "object.__class__")))
    (xo2 : PySem.W.mroIn K C2 (.type "object") = some true)
    (xi2 : PySem.W.isClsIn K C2 = true)
    (xV2 : PySem.W.subIn K (.ref C2) (.type "ValueError") = some true)
    (x0_2 : PySem.W.findIn K (.ref C2) "limit" = some none)
    (a_3 : PySem.W.nsIn K mainGlobals "NoFit" = some (some (.ref C3)))
    (i_3 : PySem.W.findIn K (.ref C3) "__init__" = some (some (.ref f3)))
    (t_3 : PySem.W.typeIn K (.ref f3) = some (.type "function"))
    (l_3 : K.lookup f3 = some ⟨oc3, od3, .func (PySem.W.fnOf "__init__" "NoFit.__init__" (defArgs s_NoFit_init) (defBody s_NoFit_init) (defScope s_NoFit_init) .none kV3 dc3 pm3 an3 cd3 ct3), sl3⟩)
    (c_3 : PySem.W.codeIn K cd3 "NoFit.__init__" = true)
    (k_3 : PySem.W.keepIn K (.ref f3) = true)
    (xl3 : K.lookup C3 = some (excClassObj nm3 q3 C3 N3 bs3 bm3 true sn3 sub3 ab3 col3 dd3 k03 k13 k23 k33 k53 "ValueError.__new__"))
    (xv3 : PySem.HandSPX.refsVE bm3 = true)
    (xs3 : PySem.W.findIn K (.ref C3) "__setattr__" = some (some (.builtin "object.__setattr__")))
    (xe3 : PySem.W.subIn K (.ref C3) (.type "BaseException") = some true)
    (xt3 : PySem.W.typeIn K (.ref C3) = some (.type "type"))
    (xk3 : PySem.W.keepIn K (.ref C3) = true)
    (xg3 : PySem.W.findIn K (.ref C3) "__getattribute__" = some (some (.builtin "BaseException.__getattribute__")))
    (xa3 : PySem.W.findIn K (.ref C3) "__getattr__" = some none)
    (xh3 : PySem.W.hasDictIn K C3 = true)
    (xc3 : PySem.W.findIn K (.ref C3) "__class__" = some (some (.builtin "object.__class__")))
    (xo3 : PySem.W.mroIn K C3 (.type "object") = some true)
    (xi3 : PySem.W.isClsIn K C3 = true)
    (xV3 : PySem.W.subIn K (.ref C3) (.type "ValueError") = some true)
    (x0_3 : PySem.W.findIn K (.ref C3) "reason" = some none)
    (a_4 : PySem.W.nsIn K mainGlobals "NoHelp" = some (some (.ref C4)))
    (i_4 : PySem.W.findIn K (.ref C4) "__init__" = some (some (.ref f4)))
    (t_4 : PySem.W.typeIn K (.ref f4) = some (.type "function"))
    (l_4 : K.lookup f4 = some ⟨oc4, od4, .func (PySem.W.fnOf "__init__" "NoHelp.__init__" (defArgs s_NoHelp_init) (defBody s_NoHelp_init) (defScope s_NoHelp_init) .none kV4 dc4 pm4 an4 cd4 ct4), sl4⟩)
    (c_4 : PySem.W.codeIn K cd4 "NoHelp.__init__" = true)
    (k_4 : PySem.W.keepIn K (.ref f4) = true)
    (xl4 : K.lookup C4 = some (excClassObj nm4 q4 C4 N4 bs4 bm4 true sn4 sub4 ab4 col4 dd4 k04 k14 k24 k34 k54 "ValueError.__new__"))
    (xv4 : PySem.HandSPX.refsVE bm4 = true)
    (xs4 : PySem.W.findIn K (.ref C4) "__setattr__" = some (some (.builtin "object.__setattr__")))
    (xe4 : PySem.W.subIn K (.ref C4) (.type "BaseException") = some true)
    (xt4 : PySem.W.typeIn K (.ref C4) = some (.type "type"))
    (xk4 : PySem.W.keepIn K (.ref C4) = true)
    (xg4 : PySem.W.findIn K (.ref C4) "__getattribute__" = some (some (.builtin "BaseException.__getattribute__")))
    (xa4 : PySem.W.findIn K (.ref C4) "__getattr__" = some none)
    (xh4 : PySem.W.hasDictIn K C4 = true)
    (xc4 : PySem.W.findIn K (.ref C4) "__class__" = some (some (.builtin "object.__class__")))
    (xo4 : PySem.W.mroIn K C4 (.type "object") = some true)
    (xi4 : PySem.W.isClsIn K C4 = true)
    (xV4 : PySem.W.subIn K (.ref C4) (.type "ValueError") = some true)
    (x0_4 : PySem.W.findIn K (.ref C4) "reason" = some none)
    (a_5 : PySem.W.nsIn K mainGlobals "NotPlain" = some (some (.ref C5)))
    (i_5 : PySem.W.findIn K (.ref C5) "__init__" = some (some (.ref f5)))
    (t_5 : PySem.W.typeIn K (.ref f5) = some (.type "function"))
    (l_5 : K.lookup f5 = some ⟨oc5, od5, .func (PySem.W.fnOf "__init__" "NotPlain.__init__" (defArgs s_NotPlain_init) (defBody s_NotPlain_init) (defScope s_NotPlain_init) .none kV5 dc5 pm5 an5 cd5 ct5), sl5⟩)
    (c_5 : PySem.W.codeIn K cd5 "NotPlain.__init__" = true)
    (k_5 : PySem.W.keepIn K (.ref f5) = true)
    (xl5 : K.lookup C5 = some (excClassObj nm5 q5 C5 N5 bs5 bm5 true sn5 sub5 ab5 col5 dd5 k05 k15 k25 k35 k55 "ValueError.__new__"))
    (xv5 : PySem.HandSPX.refsVE bm5 = true)
    (xs5 : PySem.W.findIn K (.ref C5) "__setattr__" = some (some (.builtin "object.__setattr__")))
    (xe5 : PySem.W.subIn K (.ref C5) (.type "BaseException") = some true)
    (xt5 : PySem.W.typeIn K (.ref C5) = some (.type "type"))
    (xk5 : PySem.W.keepIn K (.ref C5) = true)
    (xg5 : PySem.W.findIn K (.ref C5) "__getattribute__" = some (some (.builtin "BaseException.__getattribute__")))
    (xa5 : PySem.W.findIn K (.ref C5) "__getattr__" = some none)
    (xh5 : PySem.W.hasDictIn K C5 = true)
    (xc5 : PySem.W.findIn K (.ref C5) "__class__" = some (some (.builtin "object.__class__")))
    (xo5 : PySem.W.mroIn K C5 (.type "object") = some true)
    (xi5 : PySem.W.isClsIn K C5 = true)
    (xV5 : PySem.W.subIn K (.ref C5) (.type "ValueError") = some true)
    (x0_5 : PySem.W.findIn K (.ref C5) "index" = some none)
    (a_6 : PySem.W.nsIn K mainGlobals "NoKinds" = some (some (.ref C6)))
    (i_6 : PySem.W.findIn K (.ref C6) "__init__" = some (some (.ref f6)))
    (t_6 : PySem.W.typeIn K (.ref f6) = some (.type "function"))
    (l_6 : K.lookup f6 = some ⟨oc6, od6, .func (PySem.W.fnOf "__init__" "NoKinds.__init__" (defArgs s_NoKinds_init) (defBody s_NoKinds_init) (defScope s_NoKinds_init) .none kV6 dc6 pm6 an6 cd6 ct6), sl6⟩)
    (c_6 : PySem.W.codeIn K cd6 "NoKinds.__init__" = true)
    (k_6 : PySem.W.keepIn K (.ref f6) = true)
    (xl6 : K.lookup C6 = some (excClassObj nm6 q6 C6 N6 bs6 bm6 true sn6 sub6 ab6 col6 dd6 k06 k16 k26 k36 k56 "ValueError.__new__"))
    (xv6 : PySem.HandSPX.refsVE bm6 = true)
    (xs6 : PySem.W.findIn K (.ref C6) "__setattr__" = some (some (.builtin "object.__setattr__")))
    (xe6 : PySem.W.subIn K (.ref C6) (.type "BaseException") = some true)
    (xt6 : PySem.W.typeIn K (.ref C6) = some (.type "type"))
    (xk6 : PySem.W.keepIn K (.ref C6) = true)
    (xg6 : PySem.W.findIn K (.ref C6) "__getattribute__" = some (some (.builtin "BaseException.__getattribute__")))
    (xa6 : PySem.W.findIn K (.ref C6) "__getattr__" = some none)
    (xh6 : PySem.W.hasDictIn K C6 = true)
    (xc6 : PySem.W.findIn K (.ref C6) "__class__" = some (some (.builtin "object.__class__")))
    (xo6 : PySem.W.mroIn K C6 (.type "object") = some true)
    (xi6 : PySem.W.isClsIn K C6 = true)
    (xV6 : PySem.W.subIn K (.ref C6) (.type "ValueError") = some true)
    (x0_6 : PySem.W.findIn K (.ref C6) "kinds" = some none)
    (a_7 : PySem.W.nsIn K mainGlobals "NoIndex" = some (some (.ref C7)))
    (i_7 : PySem.W.findIn K (.ref C7) "__init__" = some (some (.ref f7)))
    (t_7 : PySem.W.typeIn K (.ref f7) = some (.type "function"))
    (l_7 : K.lookup f7 = some ⟨oc7, od7, .func (PySem.W.fnOf "__init__" "NoIndex.__init__" (defArgs s_NoIndex_init) (defBody s_NoIndex_init) (defScope s_NoIndex_init) .none kV7 dc7 pm7 an7 cd7 ct7), sl7⟩)
    (c_7 : PySem.W.codeIn K cd7 "NoIndex.__init__" = true)
    (k_7 : PySem.W.keepIn K (.ref f7) = true)
    (xl7 : K.lookup C7 = some (excClassObj nm7 q7 C7 N7 bs7 bm7 true sn7 sub7 ab7 col7 dd7 k07 k17 k27 k37 k57 "ValueError.__new__"))
    (xv7 : PySem.HandSPX.refsVE bm7 = true)
    (xs7 : PySem.W.findIn K (.ref C7) "__setattr__" = some (some (.builtin "object.__setattr__")))
    (xe7 : PySem.W.subIn K (.ref C7) (.type "BaseException") = some true)
    (xt7 : PySem.W.typeIn K (.ref C7) = some (.type "type"))
    (xk7 : PySem.W.keepIn K (.ref C7) = true)
    (xg7 : PySem.W.findIn K (.ref C7) "__getattribute__" = some (some (.builtin "BaseException.__getattribute__")))
    (xa7 : PySem.W.findIn K (.ref C7) "__getattr__" = some none)
    (xh7 : PySem.W.hasDictIn K C7 = true)
    (xc7 : PySem.W.findIn K (.ref C7) "__class__" = some (some (.builtin "object.__class__")))
    (xo7 : PySem.W.mroIn K C7 (.type "object") = some true)
    (xi7 : PySem.W.isClsIn K C7 = true)
    (xV7 : PySem.W.subIn K (.ref C7) (.type "ValueError") = some true)
    (x0_7 : PySem.W.findIn K (.ref C7) "index" = some none)
    (a_8 : PySem.W.nsIn K mainGlobals "Unequal" = some (some (.ref C8)))
    (i_8 : PySem.W.findIn K (.ref C8) "__init__" = some (some (.ref f8)))
    (t_8 : PySem.W.typeIn K (.ref f8) = some (.type "function"))
    (l_8 : K.lookup f8 = some ⟨oc8, od8, .func (PySem.W.fnOf "__init__" "Unequal.__init__" (defArgs s_Unequal_init) (defBody s_Unequal_init) (defScope s_Unequal_init) .none kV8 dc8 pm8 an8 cd8 ct8), sl8⟩)
    (c_8 : PySem.W.codeIn K cd8 "Unequal.__init__" = true)
    (k_8 : PySem.W.keepIn K (.ref f8) = true)
    (xl8 : K.lookup C8 = some (excClassObj nm8 q8 C8 N8 bs8 bm8 true sn8 sub8 ab8 col8 dd8 k08 k18 k28 k38 k58 "ValueError.__new__"))
    (xv8 : PySem.HandSPX.refsVE bm8 = true)
    (xs8 : PySem.W.findIn K (.ref C8) "__setattr__" = some (some (.builtin "object.__setattr__")))
    (xe8 : PySem.W.subIn K (.ref C8) (.type "BaseException") = some true)
    (xt8 : PySem.W.typeIn K (.ref C8) = some (.type "type"))
    (xk8 : PySem.W.keepIn K (.ref C8) = true)
    (xg8 : PySem.W.findIn K (.ref C8) "__getattribute__" = some (some (.builtin "BaseException.__getattribute__")))
    (xa8 : PySem.W.findIn K (.ref C8) "__getattr__" = some none)
    (xh8 : PySem.W.hasDictIn K C8 = true)
    (xc8 : PySem.W.findIn K (.ref C8) "__class__" = some (some (.builtin "object.__class__")))
    (xo8 : PySem.W.mroIn K C8 (.type "object") = some true)
    (xi8 : PySem.W.isClsIn K C8 = true)
    (xV8 : PySem.W.subIn K (.ref C8) (.type "ValueError") = some true)
    (x0_8 : PySem.W.findIn K (.ref C8) "one" = some none)
    (x1_8 : PySem.W.findIn K (.ref C8) "other" = some none)
    (a_9 : PySem.W.nsIn K mainGlobals "NoText" = some (some (.ref C9)))
    (i_9 : PySem.W.findIn K (.ref C9) "__init__" = some (some (.ref f9)))
    (t_9 : PySem.W.typeIn K (.ref f9) = some (.type "function"))
    (l_9 : K.lookup f9 = some ⟨oc9, od9, .func (PySem.W.fnOf "__init__" "NoText.__init__" (defArgs s_NoText_init) (defBody s_NoText_init) (defScope s_NoText_init) .none kV9 dc9 pm9 an9 cd9 ct9), sl9⟩)
    (c_9 : PySem.W.codeIn K cd9 "NoText.__init__" = true)
    (k_9 : PySem.W.keepIn K (.ref f9) = true)
    (xl9 : K.lookup C9 = some (excClassObj nm9 q9 C9 N9 bs9 bm9 true sn9 sub9 ab9 col9 dd9 k09 k19 k29 k39 k59 "ValueError.__new__"))
    (xv9 : PySem.HandSPX.refsVE bm9 = true)
    (xs9 : PySem.W.findIn K (.ref C9) "__setattr__" = some (some (.builtin "object.__setattr__")))
    (xe9 : PySem.W.subIn K (.ref C9) (.type "BaseException") = some true)
    (xt9 : PySem.W.typeIn K (.ref C9) = some (.type "type"))
    (xk9 : PySem.W.keepIn K (.ref C9) = true)
    (xg9 : PySem.W.findIn K (.ref C9) "__getattribute__" = some (some (.builtin "BaseException.__getattribute__")))
    (xa9 : PySem.W.findIn K (.ref C9) "__getattr__" = some none)
    (xh9 : PySem.W.hasDictIn K C9 = true)
    (xc9 : PySem.W.findIn K (.ref C9) "__class__" = some (some (.builtin "object.__class__")))
    (xo9 : PySem.W.mroIn K C9 (.type "object") = some true)
    (xi9 : PySem.W.isClsIn K C9 = true)
    (xV9 : PySem.W.subIn K (.ref C9) (.type "ValueError") = some true)
    (x0_9 : PySem.W.findIn K (.ref C9) "line" = some none)
    (a_10 : PySem.W.nsIn K mainGlobals "NoCommand" = some (some (.ref C10)))
    (i_10 : PySem.W.findIn K (.ref C10) "__init__" = some (some (.ref f10)))
    (t_10 : PySem.W.typeIn K (.ref f10) = some (.type "function"))
    (l_10 : K.lookup f10 = some ⟨oc10, od10, .func (PySem.W.fnOf "__init__" "NoCommand.__init__" (defArgs s_NoCommand_init) (defBody s_NoCommand_init) (defScope s_NoCommand_init) .none kV10 dc10 pm10 an10 cd10 ct10), sl10⟩)
    (c_10 : PySem.W.codeIn K cd10 "NoCommand.__init__" = true)
    (k_10 : PySem.W.keepIn K (.ref f10) = true)
    (xl10 : K.lookup C10 = some (excClassObj nm10 q10 C10 N10 bs10 bm10 true sn10 sub10 ab10 col10 dd10 k010 k110 k210 k310 k510 "ValueError.__new__"))
    (xv10 : PySem.HandSPX.refsVE bm10 = true)
    (xs10 : PySem.W.findIn K (.ref C10) "__setattr__" = some (some (.builtin "object.__setattr__")))
    (xe10 : PySem.W.subIn K (.ref C10) (.type "BaseException") = some true)
    (xt10 : PySem.W.typeIn K (.ref C10) = some (.type "type"))
    (xk10 : PySem.W.keepIn K (.ref C10) = true)
    (xg10 : PySem.W.findIn K (.ref C10) "__getattribute__" = some (some (.builtin "BaseException.__getattribute__")))
    (xa10 : PySem.W.findIn K (.ref C10) "__getattr__" = some none)
    (xh10 : PySem.W.hasDictIn K C10 = true)
    (xc10 : PySem.W.findIn K (.ref C10) "__class__" = some (some (.builtin "object.__class__")))
    (xo10 : PySem.W.mroIn K C10 (.type "object") = some true)
    (xi10 : PySem.W.isClsIn K C10 = true)
    (xV10 : PySem.W.subIn K (.ref C10) (.type "ValueError") = some true)
    (x0_10 : PySem.W.findIn K (.ref C10) "line" = some none)
    (a_11 : PySem.W.nsIn K mainGlobals "Nothing" = some (some (.ref C11)))
    (i_11 : PySem.W.findIn K (.ref C11) "__init__" = some (some (.ref f11)))
    (t_11 : PySem.W.typeIn K (.ref f11) = some (.type "function"))
    (l_11 : K.lookup f11 = some ⟨oc11, od11, .func (PySem.W.fnOf "__init__" "Nothing.__init__" (defArgs s_Nothing_init) (defBody s_Nothing_init) (defScope s_Nothing_init) .none kV11 dc11 pm11 an11 cd11 ct11), sl11⟩)
    (c_11 : PySem.W.codeIn K cd11 "Nothing.__init__" = true)
    (k_11 : PySem.W.keepIn K (.ref f11) = true)
    (xl11 : K.lookup C11 = some (excClassObj nm11 q11 C11 N11 bs11 bm11 true sn11 sub11 ab11 col11 dd11 k011 k111 k211 k311 k511 "ValueError.__new__"))
    (xv11 : PySem.HandSPX.refsVE bm11 = true)
    (xs11 : PySem.W.findIn K (.ref C11) "__setattr__" = some (some (.builtin "object.__setattr__")))
    (xe11 : PySem.W.subIn K (.ref C11) (.type "BaseException") = some true)
    (xt11 : PySem.W.typeIn K (.ref C11) = some (.type "type"))
    (xk11 : PySem.W.keepIn K (.ref C11) = true)
    (xg11 : PySem.W.findIn K (.ref C11) "__getattribute__" = some (some (.builtin "BaseException.__getattribute__")))
    (xa11 : PySem.W.findIn K (.ref C11) "__getattr__" = some none)
    (xh11 : PySem.W.hasDictIn K C11 = true)
    (xc11 : PySem.W.findIn K (.ref C11) "__class__" = some (some (.builtin "object.__class__")))
    (xo11 : PySem.W.mroIn K C11 (.type "object") = some true)
    (xi11 : PySem.W.isClsIn K C11 = true)
    (xV11 : PySem.W.subIn K (.ref C11) (.type "ValueError") = some true)
    (a_12 : PySem.W.nsIn K mainGlobals "CaseError" = some (some (.ref C12)))
    (i_12 : PySem.W.findIn K (.ref C12) "__init__" = some (some (.ref f12)))
    (t_12 : PySem.W.typeIn K (.ref f12) = some (.type "function"))
    (l_12 : K.lookup f12 = some ⟨oc12, od12, .func (PySem.W.fnOf "__init__" "CaseError.__init__" (defArgs s_CaseError_init) (defBody s_CaseError_init) (defScope s_CaseError_init) .none kV12 dc12 pm12 an12 cd12 ct12), sl12⟩)
    (c_12 : PySem.W.codeIn K cd12 "CaseError.__init__" = true)
    (k_12 : PySem.W.keepIn K (.ref f12) = true)
    (xl12 : K.lookup C12 = some (excClassObj nm12 q12 C12 N12 bs12 bm12 true sn12 sub12 ab12 col12 dd12 k012 k112 k212 k312 k512 "ValueError.__new__"))
    (xv12 : PySem.HandSPX.refsVE bm12 = true)
    (xs12 : PySem.W.findIn K (.ref C12) "__setattr__" = some (some (.builtin "object.__setattr__")))
    (xe12 : PySem.W.subIn K (.ref C12) (.type "BaseException") = some true)
    (xt12 : PySem.W.typeIn K (.ref C12) = some (.type "type"))
    (xk12 : PySem.W.keepIn K (.ref C12) = true)
    (xg12 : PySem.W.findIn K (.ref C12) "__getattribute__" = some (some (.builtin "BaseException.__getattribute__")))
    (xa12 : PySem.W.findIn K (.ref C12) "__getattr__" = some none)
    (xh12 : PySem.W.hasDictIn K C12 = true)
    (xc12 : PySem.W.findIn K (.ref C12) "__class__" = some (some (.builtin "object.__class__")))
    (xo12 : PySem.W.mroIn K C12 (.type "object") = some true)
    (xi12 : PySem.W.isClsIn K C12 = true)
    (xV12 : PySem.W.subIn K (.ref C12) (.type "ValueError") = some true)
    (n0_1 : C0 ≠ C1)
    (s0_1 : PySem.W.subIn K (.ref C0) (.ref C1) = some false)
    (n0_2 : C0 ≠ C2)
    (s0_2 : PySem.W.subIn K (.ref C0) (.ref C2) = some false)
    (n0_3 : C0 ≠ C3)
    (s0_3 : PySem.W.subIn K (.ref C0) (.ref C3) = some false)
    (n0_4 : C0 ≠ C4)
    (s0_4 : PySem.W.subIn K (.ref C0) (.ref C4) = some false)
    (n0_5 : C0 ≠ C5)
    (s0_5 : PySem.W.subIn K (.ref C0) (.ref C5) = some false)
    (n0_6 : C0 ≠ C6)
    (s0_6 : PySem.W.subIn K (.ref C0) (.ref C6) = some false)
    (n0_7 : C0 ≠ C7)
    (s0_7 : PySem.W.subIn K (.ref C0) (.ref C7) = some false)
    (n0_8 : C0 ≠ C8)
    (s0_8 : PySem.W.subIn K (.ref C0) (.ref C8) = some false)
    (n0_9 : C0 ≠ C9)
    (s0_9 : PySem.W.subIn K (.ref C0) (.ref C9) = some false)
    (n0_10 : C0 ≠ C10)
    (s0_10 : PySem.W.subIn K (.ref C0) (.ref C10) = some false)
    (n0_11 : C0 ≠ C11)
    (s0_11 : PySem.W.subIn K (.ref C0) (.ref C11) = some false)
    (n0_12 : C0 ≠ C12)
    (s0_12 : PySem.W.subIn K (.ref C0) (.ref C12) = some true)
    (n1_0 : C1 ≠ C0)
    (s1_0 : PySem.W.subIn K (.ref C1) (.ref C0) = some false)
    (n1_2 : C1 ≠ C2)
    (s1_2 : PySem.W.subIn K (.ref C1) (.ref C2) = some false)
    (n1_3 : C1 ≠ C3)
    (s1_3 : PySem.W.subIn K (.ref C1) (.ref C3) = some false)
    (n1_4 : C1 ≠ C4)
    (s1_4 : PySem.W.subIn K (.ref C1) (.ref C4) = some false)
    (n1_5 : C1 ≠ C5)
    (s1_5 : PySem.W.subIn K (.ref C1) (.ref C5) = some false)
    (n1_6 : C1 ≠ C6)
    (s1_6 : PySem.W.subIn K (.ref C1) (.ref C6) = some false)
    (n1_7 : C1 ≠ C7)
    (s1_7 : PySem.W.subIn K (.ref C1) (.ref C7) = some false)
    (n1_8 : C1 ≠ C8)
    (s1_8 : PySem.W.subIn K (.ref C1) (.ref C8) = some false)
    (n1_9 : C1 ≠ C9)
    (s1_9 : PySem.W.subIn K (.ref C1) (.ref C9) = some false)
    (n1_10 : C1 ≠ C10)
    (s1_10 : PySem.W.subIn K (.ref C1) (.ref C10) = some false)
    (n1_11 : C1 ≠ C11)
    (s1_11 : PySem.W.subIn K (.ref C1) (.ref C11) = some false)
    (n1_12 : C1 ≠ C12)
    (s1_12 : PySem.W.subIn K (.ref C1) (.ref C12) = some true)
    (n2_0 : C2 ≠ C0)
    (s2_0 : PySem.W.subIn K (.ref C2) (.ref C0) = some false)
    (n2_1 : C2 ≠ C1)
    (s2_1 : PySem.W.subIn K (.ref C2) (.ref C1) = some false)
    (n2_3 : C2 ≠ C3)
    (s2_3 : PySem.W.subIn K (.ref C2) (.ref C3) = some false)
    (n2_4 : C2 ≠ C4)
    (s2_4 : PySem.W.subIn K (.ref C2) (.ref C4) = some false)
    (n2_5 : C2 ≠ C5)
    (s2_5 : PySem.W.subIn K (.ref C2) (.ref C5) = some false)
    (n2_6 : C2 ≠ C6)
    (s2_6 : PySem.W.subIn K (.ref C2) (.ref C6) = some false)
    (n2_7 : C2 ≠ C7)
    (s2_7 : PySem.W.subIn K (.ref C2) (.ref C7) = some false)
    (n2_8 : C2 ≠ C8)
    (s2_8 : PySem.W.subIn K (.ref C2) (.ref C8) = some false)
    (n2_9 : C2 ≠ C9)
    (s2_9 : PySem.W.subIn K (.ref C2) (.ref C9) = some false)
    (n2_10 : C2 ≠ C10)
    (s2_10 : PySem.W.subIn K (.ref C2) (.ref C10) = some false)
    (n2_11 : C2 ≠ C11)
    (s2_11 : PySem.W.subIn K (.ref C2) (.ref C11) = some false)
    (n2_12 : C2 ≠ C12)
    (s2_12 : PySem.W.subIn K (.ref C2) (.ref C12) = some true)
    (n3_0 : C3 ≠ C0)
    (s3_0 : PySem.W.subIn K (.ref C3) (.ref C0) = some false)
    (n3_1 : C3 ≠ C1)
    (s3_1 : PySem.W.subIn K (.ref C3) (.ref C1) = some false)
    (n3_2 : C3 ≠ C2)
    (s3_2 : PySem.W.subIn K (.ref C3) (.ref C2) = some false)
    (n3_4 : C3 ≠ C4)
    (s3_4 : PySem.W.subIn K (.ref C3) (.ref C4) = some false)
    (n3_5 : C3 ≠ C5)
    (s3_5 : PySem.W.subIn K (.ref C3) (.ref C5) = some false)
    (n3_6 : C3 ≠ C6)
    (s3_6 : PySem.W.subIn K (.ref C3) (.ref C6) = some false)
    (n3_7 : C3 ≠ C7)
    (s3_7 : PySem.W.subIn K (.ref C3) (.ref C7) = some false)
    (n3_8 : C3 ≠ C8)
    (s3_8 : PySem.W.subIn K (.ref C3) (.ref C8) = some false)
    (n3_9 : C3 ≠ C9)
    (s3_9 : PySem.W.subIn K (.ref C3) (.ref C9) = some false)
    (n3_10 : C3 ≠ C10)
    (s3_10 : PySem.W.subIn K (.ref C3) (.ref C10) = some false)
    (n3_11 : C3 ≠ C11)
    (s3_11 : PySem.W.subIn K (.ref C3) (.ref C11) = some false)
    (n3_12 : C3 ≠ C12)
    (s3_12 : PySem.W.subIn K (.ref C3) (.ref C12) = some true)
    (n4_0 : C4 ≠ C0)
    (s4_0 : PySem.W.subIn K (.ref C4) (.ref C0) = some false)
    (n4_1 : C4 ≠ C1)
    (s4_1 : PySem.W.subIn K (.ref C4) (.ref C1) = some false)
    (n4_2 : C4 ≠ C2)
    (s4_2 : PySem.W.subIn K (.ref C4) (.ref C2) = some false)
    (n4_3 : C4 ≠ C3)
    (s4_3 : PySem.W.subIn K (.ref C4) (.ref C3) = some false)
    (n4_5 : C4 ≠ C5)
    (s4_5 : PySem.W.subIn K (.ref C4) (.ref C5) = some false)
    (n4_6 : C4 ≠ C6)
    (s4_6 : PySem.W.subIn K (.ref C4) (.ref C6) = some false)
    (n4_7 : C4 ≠ C7)
    (s4_7 : PySem.W.subIn K (.ref C4) (.ref C7) = some false)
    (n4_8 : C4 ≠ C8)
    (s4_8 : PySem.W.subIn K (.ref C4) (.ref C8) = some false)
    (n4_9 : C4 ≠ C9)
    (s4_9 : PySem.W.subIn K (.ref C4) (.ref C9) = some false)
    (n4_10 : C4 ≠ C10)
    (s4_10 : PySem.W.subIn K (.ref C4) (.ref C10) = some false)
    (n4_11 : C4 ≠ C11)
    (s4_11 : PySem.W.subIn K (.ref C4) (.ref C11) = some false)
    (n4_12 : C4 ≠ C12)
    (s4_12 : PySem.W.subIn K (.ref C4) (.ref C12) = some true)
    (n5_0 : C5 ≠ C0)
    (s5_0 : PySem.W.subIn K (.ref C5) (.ref C0) = some false)
    (n5_1 : C5 ≠ C1)
    (s5_1 : PySem.W.subIn K (.ref C5) (.ref C1) = some false)
    (n5_2 : C5 ≠ C2)
    (s5_2 : PySem.W.subIn K (.ref C5) (.ref C2) = some false)
    (n5_3 : C5 ≠ C3)
    (s5_3 : PySem.W.subIn K (.ref C5) (.ref C3) = some false)
    (n5_4 : C5 ≠ C4)
    (s5_4 : PySem.W.subIn K (.ref C5) (.ref C4) = some false)
    (n5_6 : C5 ≠ C6)
    (s5_6 : PySem.W.subIn K (.ref C5) (.ref C6) = some false)
    (n5_7 : C5 ≠ C7)
    (s5_7 : PySem.W.subIn K (.ref C5) (.ref C7) = some false)
    (n5_8 : C5 ≠ C8)
    (s5_8 : PySem.W.subIn K (.ref C5) (.ref C8) = some false)
    (n5_9 : C5 ≠ C9)
    (s5_9 : PySem.W.subIn K (.ref C5) (.ref C9) = some false)
    (n5_10 : C5 ≠ C10)
    (s5_10 : PySem.W.subIn K (.ref C5) (.ref C10) = some false)
    (n5_11 : C5 ≠ C11)
    (s5_11 : PySem.W.subIn K (.ref C5) (.ref C11) = some false)
    (n5_12 : C5 ≠ C12)
    (s5_12 : PySem.W.subIn K (.ref C5) (.ref C12) = some true)
    (n6_0 : C6 ≠ C0)
    (s6_0 : PySem.W.subIn K (.ref C6) (.ref C0) = some false)
    (n6_1 : C6 ≠ C1)
    (s6_1 : PySem.W.subIn K (.ref C6) (.ref C1) = some false)
    (n6_2 : C6 ≠ C2)
    (s6_2 : PySem.W.subIn K (.ref C6) (.ref C2) = some false)
    (n6_3 : C6 ≠ C3)
    (s6_3 : PySem.W.subIn K (.ref C6) (.ref C3) = some false)
    (n6_4 : C6 ≠ C4)
    (s6_4 : PySem.W.subIn K (.ref C6) (.ref C4) = some false)
    (n6_5 : C6 ≠ C5)
    (s6_5 : PySem.W.subIn K (.ref C6) (.ref C5) = some false)
    (n6_7 : C6 ≠ C7)
    (s6_7 : PySem.W.subIn K (.ref C6) (.ref C7) = some false)
    (n6_8 : C6 ≠ C8)
    (s6_8 : PySem.W.subIn K (.ref C6) (.ref C8) = some false)
    (n6_9 : C6 ≠ C9)
    (s6_9 : PySem.W.subIn K (.ref C6) (.ref C9) = some false)
    (n6_10 : C6 ≠ C10)
    (s6_10 : PySem.W.subIn K (.ref C6) (.ref C10) = some false)
    (n6_11 : C6 ≠ C11)
    (s6_11 : PySem.W.subIn K (.ref C6) (.ref C11) = some false)
    (n6_12 : C6 ≠ C12)
    (s6_12 : PySem.W.subIn K (.ref C6) (.ref C12) = some true)
    (n7_0 : C7 ≠ C0)
    (s7_0 : PySem.W.subIn K (.ref C7) (.ref C0) = some false)
    (n7_1 : C7 ≠ C1)
    (s7_1 : PySem.W.subIn K (.ref C7) (.ref C1) = some false)
    (n7_2 : C7 ≠ C2)
    (s7_2 : PySem.W.subIn K (.ref C7) (.ref C2) = some false)
    (n7_3 : C7 ≠ C3)
    (s7_3 : PySem.W.subIn K (.ref C7) (.ref C3) = some false)
    (n7_4 : C7 ≠ C4)
    (s7_4 : PySem.W.subIn K (.ref C7) (.ref C4) = some false)
    (n7_5 : C7 ≠ C5)
    (s7_5 : PySem.W.subIn K (.ref C7) (.ref C5) = some false)
    (n7_6 : C7 ≠ C6)
    (s7_6 : PySem.W.subIn K (.ref C7) (.ref C6) = some false)
    (n7_8 : C7 ≠ C8)
    (s7_8 : PySem.W.subIn K (.ref C7) (.ref C8) = some false)
    (n7_9 : C7 ≠ C9)
    (s7_9 : PySem.W.subIn K (.ref C7) (.ref C9) = some false)
    (n7_10 : C7 ≠ C10)
    (s7_10 : PySem.W.subIn K (.ref C7) (.ref C10) = some false)
    (n7_11 : C7 ≠ C11)
    (s7_11 : PySem.W.subIn K (.ref C7) (.ref C11) = some false)
    (n7_12 : C7 ≠ C12)
    (s7_12 : PySem.W.subIn K (.ref C7) (.ref C12) = some true)
    (n8_0 : C8 ≠ C0)
    (s8_0 : PySem.W.subIn K (.ref C8) (.ref C0) = some false)
    (n8_1 : C8 ≠ C1)
    (s8_1 : PySem.W.subIn K (.ref C8) (.ref C1) = some false)
    (n8_2 : C8 ≠ C2)
    (s8_2 : PySem.W.subIn K (.ref C8) (.ref C2) = some false)
    (n8_3 : C8 ≠ C3)
    (s8_3 : PySem.W.subIn K (.ref C8) (.ref C3) = some false)
    (n8_4 : C8 ≠ C4)
    (s8_4 : PySem.W.subIn K (.ref C8) (.ref C4) = some false)
    (n8_5 : C8 ≠ C5)
    (s8_5 : PySem.W.subIn K (.ref C8) (.ref C5) = some false)
    (n8_6 : C8 ≠ C6)
    (s8_6 : PySem.W.subIn K (.ref C8) (.ref C6) = some false)
    (n8_7 : C8 ≠ C7)
    (s8_7 : PySem.W.subIn K (.ref C8) (.ref C7) = some false)
    (n8_9 : C8 ≠ C9)
    (s8_9 : PySem.W.subIn K (.ref C8) (.ref C9) = some false)
    (n8_10 : C8 ≠ C10)
    (s8_10 : PySem.W.subIn K (.ref C8) (.ref C10) = some false)
    (n8_11 : C8 ≠ C11)
    (s8_11 : PySem.W.subIn K (.ref C8) (.ref C11) = some false)
    (n8_12 : C8 ≠ C12)
    (s8_12 : PySem.W.subIn K (.ref C8) (.ref C12) = some true)
    (n9_0 : C9 ≠ C0)
    (s9_0 : PySem.W.subIn K (.ref C9) (.ref C0) = some false)
    (n9_1 : C9 ≠ C1)
    (s9_1 : PySem.W.subIn K (.ref C9) (.ref C1) = some false)
    (n9_2 : C9 ≠ C2)
    (s9_2 : PySem.W.subIn K (.ref C9) (.ref C2) = some false)
    (n9_3 : C9 ≠ C3)
    (s9_3 : PySem.W.subIn K (.ref C9) (.ref C3) = some false)
    (n9_4 : C9 ≠ C4)
    (s9_4 : PySem.W.subIn K (.ref C9) (.ref C4) = some false)
    (n9_5 : C9 ≠ C5)
    (s9_5 : PySem.W.subIn K (.ref C9) (.ref C5) = some false)
    (n9_6 : C9 ≠ C6)
    (s9_6 : PySem.W.subIn K (.ref C9) (.ref C6) = some false)
    (n9_7 : C9 ≠ C7)
    (s9_7 : PySem.W.subIn K (.ref C9) (.ref C7) = some false)
    (n9_8 : C9 ≠ C8)
    (s9_8 : PySem.W.subIn K (.ref C9) (.ref C8) = some false)
    (n9_10 : C9 ≠ C10)
    (s9_10 : PySem.W.subIn K (.ref C9) (.ref C10) = some false)
    (n9_11 : C9 ≠ C11)
    (s9_11 : PySem.W.subIn K (.ref C9) (.ref C11) = some false)
    (n9_12 : C9 ≠ C12)
    (s9_12 : PySem.W.subIn K (.ref C9) (.ref C12) = some true)
    (n10_0 : C10 ≠ C0)
    (s10_0 : PySem.W.subIn K (.ref C10) (.ref C0) = some false)
    (n10_1 : C10 ≠ C1)
    (s10_1 : PySem.W.subIn K (.ref C10) (.ref C1) = some false)
    (n10_2 : C10 ≠ C2)
    (s10_2 : PySem.W.subIn K (.ref C10) (.ref C2) = some false)
    (n10_3 : C10 ≠ C3)
    (s10_3 : PySem.W.subIn K (.ref C10) (.ref C3) = some false)
    (n10_4 : C10 ≠ C4)
    (s10_4 : PySem.W.subIn K (.ref C10) (.ref C4) = some false)
    (n10_5 : C10 ≠ C5)
    (s10_5 : PySem.W.subIn K (.ref C10) (.ref C5) = some false)
    (n10_6 : C10 ≠ C6)
    (s10_6 : PySem.W.subIn K (.ref C10) (.ref C6) = some false)
    (n10_7 : C10 ≠ C7)
    (s10_7 : PySem.W.subIn K (.ref C10) (.ref C7) = some false)
    (n10_8 : C10 ≠ C8)
    (s10_8 : PySem.W.subIn K (.ref C10) (.ref C8) = some false)
    (n10_9 : C10 ≠ C9)
    (s10_9 : PySem.W.subIn K (.ref C10) (.ref C9) = some false)
    (n10_11 : C10 ≠ C11)
    (s10_11 : PySem.W.subIn K (.ref C10) (.ref C11) = some false)
    (n10_12 : C10 ≠ C12)
    (s10_12 : PySem.W.subIn K (.ref C10) (.ref C12) = some true)
    (n11_0 : C11 ≠ C0)
    (s11_0 : PySem.W.subIn K (.ref C11) (.ref C0) = some false)
    (n11_1 : C11 ≠ C1)
    (s11_1 : PySem.W.subIn K (.ref C11) (.ref C1) = some false)
    (n11_2 : C11 ≠ C2)
    (s11_2 : PySem.W.subIn K (.ref C11) (.ref C2) = some false)
    (n11_3 : C11 ≠ C3)
    (s11_3 : PySem.W.subIn K (.ref C11) (.ref C3) = some false)
    (n11_4 : C11 ≠ C4)
    (s11_4 : PySem.W.subIn K (.ref C11) (.ref C4) = some false)
    (n11_5 : C11 ≠ C5)
    (s11_5 : PySem.W.subIn K (.ref C11) (.ref C5) = some false)
    (n11_6 : C11 ≠ C6)
    (s11_6 : PySem.W.subIn K (.ref C11) (.ref C6) = some false)
    (n11_7 : C11 ≠ C7)
    (s11_7 : PySem.W.subIn K (.ref C11) (.ref C7) = some false)
    (n11_8 : C11 ≠ C8)
    (s11_8 : PySem.W.subIn K (.ref C11) (.ref C8) = some false)
    (n11_9 : C11 ≠ C9)
    (s11_9 : PySem.W.subIn K (.ref C11) (.ref C9) = some false)
    (n11_10 : C11 ≠ C10)
    (s11_10 : PySem.W.subIn K (.ref C11) (.ref C10) = some false)
    (n11_12 : C11 ≠ C12)
    (s11_12 : PySem.W.subIn K (.ref C11) (.ref C12) = some true)
    (n12_0 : C12 ≠ C0)
    (s12_0 : PySem.W.subIn K (.ref C12) (.ref C0) = some false)
    (n12_1 : C12 ≠ C1)
    (s12_1 : PySem.W.subIn K (.ref C12) (.ref C1) = some false)
    (n12_2 : C12 ≠ C2)
    (s12_2 : PySem.W.subIn K (.ref C12) (.ref C2) = some false)
    (n12_3 : C12 ≠ C3)
    (s12_3 : PySem.W.subIn K (.ref C12) (.ref C3) = some false)
    (n12_4 : C12 ≠ C4)
    (s12_4 : PySem.W.subIn K (.ref C12) (.ref C4) = some false)
    (n12_5 : C12 ≠ C5)
    (s12_5 : PySem.W.subIn K (.ref C12) (.ref C5) = some false)
    (n12_6 : C12 ≠ C6)
    (s12_6 : PySem.W.subIn K (.ref C12) (.ref C6) = some false)
    (n12_7 : C12 ≠ C7)
    (s12_7 : PySem.W.subIn K (.ref C12) (.ref C7) = some false)
    (n12_8 : C12 ≠ C8)
    (s12_8 : PySem.W.subIn K (.ref C12) (.ref C8) = some false)
    (n12_9 : C12 ≠ C9)
    (s12_9 : PySem.W.subIn K (.ref C12) (.ref C9) = some false)
    (n12_10 : C12 ≠ C10)
    (s12_10 : PySem.W.subIn K (.ref C12) (.ref C10) = some false)
    (n12_11 : C12 ≠ C11)
    (s12_11 : PySem.W.subIn K (.ref C12) (.ref C11) = some false) :
    ∃ fd : FuncData, (∀ (s : Shared) (v : Value), BindsTo s fd ⟨[v], []⟩ [("_law_script", v)]) ∧ ∀ base : Heap, K.In base → base.Ns mainGlobals mg → (∃ mm, base.Ns sysModules mm) → FnG P w K mg base CX0 5 fa fd ["_law_script"] (spLaw K) := by
  have e := hfa.symm.trans (PySem.W.mg_of X G a_law)
  cases e
  have F_bag := fun_mk (st := s_bag) l_bag c_bag k_bag
  have b_bag := F_bag.binds (ps := ["_law_script"]) fun _ _ _ _ _ _ us hl => match us, hl with | [_], _ => rfl
  have F_take := fun_mk (st := s_take) l_take c_take k_take
  have b_take := F_take.binds (ps := ["_law_bag_here", "_law_many"]) fun _ _ _ _ _ _ us hl => match us, hl with | [_, _], _ => rfl
  have F_one := fun_mk (st := s_one) l_one c_one k_one
  have b_one := F_one.binds (ps := ["_law_bag_here", "_law_menu"]) fun _ _ _ _ _ _ us hl => match us, hl with | [_, _], _ => rfl
  have F_value := fun_mk (st := s_value) l_value c_value k_value
  have b_value := F_value.binds (ps := ["_law_bag_here"]) fun _ _ _ _ _ _ us hl => match us, hl with | [_], _ => rfl
  have F_flags := fun_mk (st := s_flags) l_flags c_flags k_flags
  have b_flags := F_flags.binds (ps := ["_law_error"]) fun _ _ _ _ _ _ us hl => match us, hl with | [_], _ => rfl
  have F_made := fun_mk (st := s_made) l_made c_made k_made
  have b_made := F_made.binds (ps := ["_law_at", "_law_first", "_law_second"]) fun _ _ _ _ _ _ us hl => match us, hl with | [_, _, _], _ => rfl
  have F_fields := fun_mk (st := s_fields) l_fields c_fields k_fields
  have b_fields := F_fields.binds (ps := ["_law_at", "_law_error"]) fun _ _ _ _ _ _ us hl => match us, hl with | [_, _], _ => rfl
  have F_thrown := fun_mk (st := s_thrown) l_thrown c_thrown k_thrown
  have b_thrown := F_thrown.binds (ps := ["_law_at", "_law_first", "_law_second"]) fun _ _ _ _ _ _ us hl => match us, hl with | [_, _, _], _ => rfl
  have F_raised := fun_mk (st := s_raised) l_raised c_raised k_raised
  have b_raised := F_raised.binds (ps := ["_law_at", "_law_first", "_law_second"]) fun _ _ _ _ _ _ us hl => match us, hl with | [_, _, _], _ => rfl
  have F_law := fun_mk (st := s_law) l_law c_law k_law
  have b_law := F_law.binds (ps := ["_law_script"]) fun _ _ _ _ _ _ us hl => match us, hl with | [_], _ => rfl
  have B : Bi mg := ⟨PySem.W.mg_none_of X G z_len, PySem.W.mg_none_of X G z_isinstance, PySem.W.mg_none_of X G z_int, PySem.W.mg_none_of X G z_bool, PySem.W.mg_none_of X G z_str, PySem.W.mg_none_of X G z_list, PySem.W.mg_none_of X G z_tuple, PySem.W.mg_none_of X G z_range, PySem.W.mg_none_of X G z_enumerate, PySem.W.mg_none_of X G z_zip, PySem.W.mg_none_of X G z_abs, PySem.W.mg_none_of X G z_repr, PySem.W.mg_none_of X G z_min, PySem.W.mg_none_of X G z_max, PySem.W.mg_none_of X G z_sum, PySem.W.mg_none_of X G z_all⟩
  have Tl : Tb mg := ⟨B⟩
  have O0 : OexC K C0 := ⟨⟨_, _, _, _, _, _, _, _, _, _, _, _, _, _, _, xl0, xv0⟩, xs0, xe0, xt0, xk0⟩
  have XC0 : ExcC K C0 := ⟨xg0, xa0, xe0, xh0, xc0, obj2, obj3, xo0⟩
  have F_0 := fun_mk (st := s_Wrong_init) l_0 c_0 k_0
  have b_0 := F_0.binds (ps := ["self", "place"]) fun _ _ _ _ _ _ us hl => match us, hl with | [_, _], _ => rfl
  have O1 : OexC K C1 := ⟨⟨_, _, _, _, _, _, _, _, _, _, _, _, _, _, _, xl1, xv1⟩, xs1, xe1, xt1, xk1⟩
  have XC1 : ExcC K C1 := ⟨xg1, xa1, xe1, xh1, xc1, obj2, obj3, xo1⟩
  have F_1 := fun_mk (st := s_BadItem_init) l_1 c_1 k_1
  have b_1 := F_1.binds (ps := ["self", "place", "index"]) fun _ _ _ _ _ _ us hl => match us, hl with | [_, _, _], _ => rfl
  have O2 : OexC K C2 := ⟨⟨_, _, _, _, _, _, _, _, _, _, _, _, _, _, _, xl2, xv2⟩, xs2, xe2, xt2, xk2⟩
  have XC2 : ExcC K C2 := ⟨xg2, xa2, xe2, xh2, xc2, obj2, obj3, xo2⟩
  have F_2 := fun_mk (st := s_TooMany_init) l_2 c_2 k_2
  have b_2 := F_2.binds (ps := ["self", "limit"]) fun _ _ _ _ _ _ us hl => match us, hl with | [_, _], _ => rfl
  have O3 : OexC K C3 := ⟨⟨_, _, _, _, _, _, _, _, _, _, _, _, _, _, _, xl3, xv3⟩, xs3, xe3, xt3, xk3⟩
  have XC3 : ExcC K C3 := ⟨xg3, xa3, xe3, xh3, xc3, obj2, obj3, xo3⟩
  have F_3 := fun_mk (st := s_NoFit_init) l_3 c_3 k_3
  have b_3 := F_3.binds (ps := ["self", "reason"]) fun _ _ _ _ _ _ us hl => match us, hl with | [_, _], _ => rfl
  have O4 : OexC K C4 := ⟨⟨_, _, _, _, _, _, _, _, _, _, _, _, _, _, _, xl4, xv4⟩, xs4, xe4, xt4, xk4⟩
  have XC4 : ExcC K C4 := ⟨xg4, xa4, xe4, xh4, xc4, obj2, obj3, xo4⟩
  have F_4 := fun_mk (st := s_NoHelp_init) l_4 c_4 k_4
  have b_4 := F_4.binds (ps := ["self", "reason"]) fun _ _ _ _ _ _ us hl => match us, hl with | [_, _], _ => rfl
  have O5 : OexC K C5 := ⟨⟨_, _, _, _, _, _, _, _, _, _, _, _, _, _, _, xl5, xv5⟩, xs5, xe5, xt5, xk5⟩
  have XC5 : ExcC K C5 := ⟨xg5, xa5, xe5, xh5, xc5, obj2, obj3, xo5⟩
  have F_5 := fun_mk (st := s_NotPlain_init) l_5 c_5 k_5
  have b_5 := F_5.binds (ps := ["self", "index"]) fun _ _ _ _ _ _ us hl => match us, hl with | [_, _], _ => rfl
  have O6 : OexC K C6 := ⟨⟨_, _, _, _, _, _, _, _, _, _, _, _, _, _, _, xl6, xv6⟩, xs6, xe6, xt6, xk6⟩
  have XC6 : ExcC K C6 := ⟨xg6, xa6, xe6, xh6, xc6, obj2, obj3, xo6⟩
  have F_6 := fun_mk (st := s_NoKinds_init) l_6 c_6 k_6
  have b_6 := F_6.binds (ps := ["self", "kinds"]) fun _ _ _ _ _ _ us hl => match us, hl with | [_, _], _ => rfl
  have O7 : OexC K C7 := ⟨⟨_, _, _, _, _, _, _, _, _, _, _, _, _, _, _, xl7, xv7⟩, xs7, xe7, xt7, xk7⟩
  have XC7 : ExcC K C7 := ⟨xg7, xa7, xe7, xh7, xc7, obj2, obj3, xo7⟩
  have F_7 := fun_mk (st := s_NoIndex_init) l_7 c_7 k_7
  have b_7 := F_7.binds (ps := ["self", "index"]) fun _ _ _ _ _ _ us hl => match us, hl with | [_, _], _ => rfl
  have O8 : OexC K C8 := ⟨⟨_, _, _, _, _, _, _, _, _, _, _, _, _, _, _, xl8, xv8⟩, xs8, xe8, xt8, xk8⟩
  have XC8 : ExcC K C8 := ⟨xg8, xa8, xe8, xh8, xc8, obj2, obj3, xo8⟩
  have F_8 := fun_mk (st := s_Unequal_init) l_8 c_8 k_8
  have b_8 := F_8.binds (ps := ["self", "one", "other"]) fun _ _ _ _ _ _ us hl => match us, hl with | [_, _, _], _ => rfl
  have O9 : OexC K C9 := ⟨⟨_, _, _, _, _, _, _, _, _, _, _, _, _, _, _, xl9, xv9⟩, xs9, xe9, xt9, xk9⟩
  have XC9 : ExcC K C9 := ⟨xg9, xa9, xe9, xh9, xc9, obj2, obj3, xo9⟩
  have F_9 := fun_mk (st := s_NoText_init) l_9 c_9 k_9
  have b_9 := F_9.binds (ps := ["self", "line"]) fun _ _ _ _ _ _ us hl => match us, hl with | [_, _], _ => rfl
  have O10 : OexC K C10 := ⟨⟨_, _, _, _, _, _, _, _, _, _, _, _, _, _, _, xl10, xv10⟩, xs10, xe10, xt10, xk10⟩
  have XC10 : ExcC K C10 := ⟨xg10, xa10, xe10, xh10, xc10, obj2, obj3, xo10⟩
  have F_10 := fun_mk (st := s_NoCommand_init) l_10 c_10 k_10
  have b_10 := F_10.binds (ps := ["self", "line"]) fun _ _ _ _ _ _ us hl => match us, hl with | [_, _], _ => rfl
  have O11 : OexC K C11 := ⟨⟨_, _, _, _, _, _, _, _, _, _, _, _, _, _, _, xl11, xv11⟩, xs11, xe11, xt11, xk11⟩
  have XC11 : ExcC K C11 := ⟨xg11, xa11, xe11, xh11, xc11, obj2, obj3, xo11⟩
  have F_11 := fun_mk (st := s_Nothing_init) l_11 c_11 k_11
  have b_11 := F_11.binds (ps := ["self"]) fun _ _ _ _ _ _ us hl => match us, hl with | [_], _ => rfl
  have O12 : OexC K C12 := ⟨⟨_, _, _, _, _, _, _, _, _, _, _, _, _, _, _, xl12, xv12⟩, xs12, xe12, xt12, xk12⟩
  have XC12 : ExcC K C12 := ⟨xg12, xa12, xe12, xh12, xc12, obj2, obj3, xo12⟩
  let CC : Nat → Addr := fun i => match i with | 0 => C0 | 1 => C1 | 2 => C2 | 3 => C3 | 4 => C4 | 5 => C5 | 6 => C6 | 7 => C7 | 8 => C8 | 9 => C9 | 10 => C10 | 11 => C11 | _ => C12
  have Eg : ∀ i, i < 13 → mg (nmE i) = some (.ref (CC i)) := fun i h => match i, h with | 0, _ => PySem.W.mg_of X G a_0 | 1, _ => PySem.W.mg_of X G a_1 | 2, _ => PySem.W.mg_of X G a_2 | 3, _ => PySem.W.mg_of X G a_3 | 4, _ => PySem.W.mg_of X G a_4 | 5, _ => PySem.W.mg_of X G a_5 | 6, _ => PySem.W.mg_of X G a_6 | 7, _ => PySem.W.mg_of X G a_7 | 8, _ => PySem.W.mg_of X G a_8 | 9, _ => PySem.W.mg_of X G a_9 | 10, _ => PySem.W.mg_of X G a_10 | 11, _ => PySem.W.mg_of X G a_11 | 12, _ => PySem.W.mg_of X G a_12 | n + 13, h => absurd h (by omega)
  have Ex : ∀ i, i < 13 → ExcC K (CC i) := fun i h => match i, h with | 0, _ => XC0 | 1, _ => XC1 | 2, _ => XC2 | 3, _ => XC3 | 4, _ => XC4 | 5, _ => XC5 | 6, _ => XC6 | 7, _ => XC7 | 8, _ => XC8 | 9, _ => XC9 | 10, _ => XC10 | 11, _ => XC11 | 12, _ => XC12 | n + 13, h => absurd h (by omega)
  have Ev : ∀ i, i < 13 → PySem.W.kitOne K (.ref (CC i)) (.type "ValueError") = some true := fun i h => match i, h with | 0, _ => kit_typ (by decide +kernel) xV0 | 1, _ => kit_typ (by decide +kernel) xV1 | 2, _ => kit_typ (by decide +kernel) xV2 | 3, _ => kit_typ (by decide +kernel) xV3 | 4, _ => kit_typ (by decide +kernel) xV4 | 5, _ => kit_typ (by decide +kernel) xV5 | 6, _ => kit_typ (by decide +kernel) xV6 | 7, _ => kit_typ (by decide +kernel) xV7 | 8, _ => kit_typ (by decide +kernel) xV8 | 9, _ => kit_typ (by decide +kernel) xV9 | 10, _ => kit_typ (by decide +kernel) xV10 | 11, _ => kit_typ (by decide +kernel) xV11 | 12, _ => kit_typ (by decide +kernel) xV12 | n + 13, h => absurd h (by omega)
  have Em : ∀ i, i < 12 → PySem.W.exmOne K (.ref (CC i)) (.ref (CC 12)) = some true := fun i h => match i, h with | 0, _ => exm_of xe12 xi12 xt12 s0_12 | 1, _ => exm_of xe12 xi12 xt12 s1_12 | 2, _ => exm_of xe12 xi12 xt12 s2_12 | 3, _ => exm_of xe12 xi12 xt12 s3_12 | 4, _ => exm_of xe12 xi12 xt12 s4_12 | 5, _ => exm_of xe12 xi12 xt12 s5_12 | 6, _ => exm_of xe12 xi12 xt12 s6_12 | 7, _ => exm_of xe12 xi12 xt12 s7_12 | 8, _ => exm_of xe12 xi12 xt12 s8_12 | 9, _ => exm_of xe12 xi12 xt12 s9_12 | 10, _ => exm_of xe12 xi12 xt12 s10_12 | 11, _ => exm_of xe12 xi12 xt12 s11_12 | n + 12, h => absurd h (by omega)
  have Ek0 : ∀ j, j < 13 → PySem.W.kitOne K (.ref C0) (.ref (CC j)) = some (kitE 0 j) := fun i h => match i, h with | 0, _ => kit_self _ | 1, _ => kit_ref n0_1 xi1 xt1 s0_1 | 2, _ => kit_ref n0_2 xi2 xt2 s0_2 | 3, _ => kit_ref n0_3 xi3 xt3 s0_3 | 4, _ => kit_ref n0_4 xi4 xt4 s0_4 | 5, _ => kit_ref n0_5 xi5 xt5 s0_5 | 6, _ => kit_ref n0_6 xi6 xt6 s0_6 | 7, _ => kit_ref n0_7 xi7 xt7 s0_7 | 8, _ => kit_ref n0_8 xi8 xt8 s0_8 | 9, _ => kit_ref n0_9 xi9 xt9 s0_9 | 10, _ => kit_ref n0_10 xi10 xt10 s0_10 | 11, _ => kit_ref n0_11 xi11 xt11 s0_11 | 12, _ => kit_ref n0_12 xi12 xt12 s0_12 | n + 13, h => absurd h (by omega)
  have Ek1 : ∀ j, j < 13 → PySem.W.kitOne K (.ref C1) (.ref (CC j)) = some (kitE 1 j) := fun i h => match i, h with | 0, _ => kit_ref n1_0 xi0 xt0 s1_0 | 1, _ => kit_self _ | 2, _ => kit_ref n1_2 xi2 xt2 s1_2 | 3, _ => kit_ref n1_3 xi3 xt3 s1_3 | 4, _ => kit_ref n1_4 xi4 xt4 s1_4 | 5, _ => kit_ref n1_5 xi5 xt5 s1_5 | 6, _ => kit_ref n1_6 xi6 xt6 s1_6 | 7, _ => kit_ref n1_7 xi7 xt7 s1_7 | 8, _ => kit_ref n1_8 xi8 xt8 s1_8 | 9, _ => kit_ref n1_9 xi9 xt9 s1_9 | 10, _ => kit_ref n1_10 xi10 xt10 s1_10 | 11, _ => kit_ref n1_11 xi11 xt11 s1_11 | 12, _ => kit_ref n1_12 xi12 xt12 s1_12 | n + 13, h => absurd h (by omega)
  have Ek2 : ∀ j, j < 13 → PySem.W.kitOne K (.ref C2) (.ref (CC j)) = some (kitE 2 j) := fun i h => match i, h with | 0, _ => kit_ref n2_0 xi0 xt0 s2_0 | 1, _ => kit_ref n2_1 xi1 xt1 s2_1 | 2, _ => kit_self _ | 3, _ => kit_ref n2_3 xi3 xt3 s2_3 | 4, _ => kit_ref n2_4 xi4 xt4 s2_4 | 5, _ => kit_ref n2_5 xi5 xt5 s2_5 | 6, _ => kit_ref n2_6 xi6 xt6 s2_6 | 7, _ => kit_ref n2_7 xi7 xt7 s2_7 | 8, _ => kit_ref n2_8 xi8 xt8 s2_8 | 9, _ => kit_ref n2_9 xi9 xt9 s2_9 | 10, _ => kit_ref n2_10 xi10 xt10 s2_10 | 11, _ => kit_ref n2_11 xi11 xt11 s2_11 | 12, _ => kit_ref n2_12 xi12 xt12 s2_12 | n + 13, h => absurd h (by omega)
  have Ek3 : ∀ j, j < 13 → PySem.W.kitOne K (.ref C3) (.ref (CC j)) = some (kitE 3 j) := fun i h => match i, h with | 0, _ => kit_ref n3_0 xi0 xt0 s3_0 | 1, _ => kit_ref n3_1 xi1 xt1 s3_1 | 2, _ => kit_ref n3_2 xi2 xt2 s3_2 | 3, _ => kit_self _ | 4, _ => kit_ref n3_4 xi4 xt4 s3_4 | 5, _ => kit_ref n3_5 xi5 xt5 s3_5 | 6, _ => kit_ref n3_6 xi6 xt6 s3_6 | 7, _ => kit_ref n3_7 xi7 xt7 s3_7 | 8, _ => kit_ref n3_8 xi8 xt8 s3_8 | 9, _ => kit_ref n3_9 xi9 xt9 s3_9 | 10, _ => kit_ref n3_10 xi10 xt10 s3_10 | 11, _ => kit_ref n3_11 xi11 xt11 s3_11 | 12, _ => kit_ref n3_12 xi12 xt12 s3_12 | n + 13, h => absurd h (by omega)
  have Ek4 : ∀ j, j < 13 → PySem.W.kitOne K (.ref C4) (.ref (CC j)) = some (kitE 4 j) := fun i h => match i, h with | 0, _ => kit_ref n4_0 xi0 xt0 s4_0 | 1, _ => kit_ref n4_1 xi1 xt1 s4_1 | 2, _ => kit_ref n4_2 xi2 xt2 s4_2 | 3, _ => kit_ref n4_3 xi3 xt3 s4_3 | 4, _ => kit_self _ | 5, _ => kit_ref n4_5 xi5 xt5 s4_5 | 6, _ => kit_ref n4_6 xi6 xt6 s4_6 | 7, _ => kit_ref n4_7 xi7 xt7 s4_7 | 8, _ => kit_ref n4_8 xi8 xt8 s4_8 | 9, _ => kit_ref n4_9 xi9 xt9 s4_9 | 10, _ => kit_ref n4_10 xi10 xt10 s4_10 | 11, _ => kit_ref n4_11 xi11 xt11 s4_11 | 12, _ => kit_ref n4_12 xi12 xt12 s4_12 | n + 13, h => absurd h (by omega)
  have Ek5 : ∀ j, j < 13 → PySem.W.kitOne K (.ref C5) (.ref (CC j)) = some (kitE 5 j) := fun i h => match i, h with | 0, _ => kit_ref n5_0 xi0 xt0 s5_0 | 1, _ => kit_ref n5_1 xi1 xt1 s5_1 | 2, _ => kit_ref n5_2 xi2 xt2 s5_2 | 3, _ => kit_ref n5_3 xi3 xt3 s5_3 | 4, _ => kit_ref n5_4 xi4 xt4 s5_4 | 5, _ => kit_self _ | 6, _ => kit_ref n5_6 xi6 xt6 s5_6 | 7, _ => kit_ref n5_7 xi7 xt7 s5_7 | 8, _ => kit_ref n5_8 xi8 xt8 s5_8 | 9, _ => kit_ref n5_9 xi9 xt9 s5_9 | 10, _ => kit_ref n5_10 xi10 xt10 s5_10 | 11, _ => kit_ref n5_11 xi11 xt11 s5_11 | 12, _ => kit_ref n5_12 xi12 xt12 s5_12 | n + 13, h => absurd h (by omega)
  have Ek6 : ∀ j, j < 13 → PySem.W.kitOne K (.ref C6) (.ref (CC j)) = some (kitE 6 j) := fun i h => match i, h with | 0, _ => kit_ref n6_0 xi0 xt0 s6_0 | 1, _ => kit_ref n6_1 xi1 xt1 s6_1 | 2, _ => kit_ref n6_2 xi2 xt2 s6_2 | 3, _ => kit_ref n6_3 xi3 xt3 s6_3 | 4, _ => kit_ref n6_4 xi4 xt4 s6_4 | 5, _ => kit_ref n6_5 xi5 xt5 s6_5 | 6, _ => kit_self _ | 7, _ => kit_ref n6_7 xi7 xt7 s6_7 | 8, _ => kit_ref n6_8 xi8 xt8 s6_8 | 9, _ => kit_ref n6_9 xi9 xt9 s6_9 | 10, _ => kit_ref n6_10 xi10 xt10 s6_10 | 11, _ => kit_ref n6_11 xi11 xt11 s6_11 | 12, _ => kit_ref n6_12 xi12 xt12 s6_12 | n + 13, h => absurd h (by omega)
  have Ek7 : ∀ j, j < 13 → PySem.W.kitOne K (.ref C7) (.ref (CC j)) = some (kitE 7 j) := fun i h => match i, h with | 0, _ => kit_ref n7_0 xi0 xt0 s7_0 | 1, _ => kit_ref n7_1 xi1 xt1 s7_1 | 2, _ => kit_ref n7_2 xi2 xt2 s7_2 | 3, _ => kit_ref n7_3 xi3 xt3 s7_3 | 4, _ => kit_ref n7_4 xi4 xt4 s7_4 | 5, _ => kit_ref n7_5 xi5 xt5 s7_5 | 6, _ => kit_ref n7_6 xi6 xt6 s7_6 | 7, _ => kit_self _ | 8, _ => kit_ref n7_8 xi8 xt8 s7_8 | 9, _ => kit_ref n7_9 xi9 xt9 s7_9 | 10, _ => kit_ref n7_10 xi10 xt10 s7_10 | 11, _ => kit_ref n7_11 xi11 xt11 s7_11 | 12, _ => kit_ref n7_12 xi12 xt12 s7_12 | n + 13, h => absurd h (by omega)
  have Ek8 : ∀ j, j < 13 → PySem.W.kitOne K (.ref C8) (.ref (CC j)) = some (kitE 8 j) := fun i h => match i, h with | 0, _ => kit_ref n8_0 xi0 xt0 s8_0 | 1, _ => kit_ref n8_1 xi1 xt1 s8_1 | 2, _ => kit_ref n8_2 xi2 xt2 s8_2 | 3, _ => kit_ref n8_3 xi3 xt3 s8_3 | 4, _ => kit_ref n8_4 xi4 xt4 s8_4 | 5, _ => kit_ref n8_5 xi5 xt5 s8_5 | 6, _ => kit_ref n8_6 xi6 xt6 s8_6 | 7, _ => kit_ref n8_7 xi7 xt7 s8_7 | 8, _ => kit_self _ | 9, _ => kit_ref n8_9 xi9 xt9 s8_9 | 10, _ => kit_ref n8_10 xi10 xt10 s8_10 | 11, _ => kit_ref n8_11 xi11 xt11 s8_11 | 12, _ => kit_ref n8_12 xi12 xt12 s8_12 | n + 13, h => absurd h (by omega)
  have Ek9 : ∀ j, j < 13 → PySem.W.kitOne K (.ref C9) (.ref (CC j)) = some (kitE 9 j) := fun i h => match i, h with | 0, _ => kit_ref n9_0 xi0 xt0 s9_0 | 1, _ => kit_ref n9_1 xi1 xt1 s9_1 | 2, _ => kit_ref n9_2 xi2 xt2 s9_2 | 3, _ => kit_ref n9_3 xi3 xt3 s9_3 | 4, _ => kit_ref n9_4 xi4 xt4 s9_4 | 5, _ => kit_ref n9_5 xi5 xt5 s9_5 | 6, _ => kit_ref n9_6 xi6 xt6 s9_6 | 7, _ => kit_ref n9_7 xi7 xt7 s9_7 | 8, _ => kit_ref n9_8 xi8 xt8 s9_8 | 9, _ => kit_self _ | 10, _ => kit_ref n9_10 xi10 xt10 s9_10 | 11, _ => kit_ref n9_11 xi11 xt11 s9_11 | 12, _ => kit_ref n9_12 xi12 xt12 s9_12 | n + 13, h => absurd h (by omega)
  have Ek10 : ∀ j, j < 13 → PySem.W.kitOne K (.ref C10) (.ref (CC j)) = some (kitE 10 j) := fun i h => match i, h with | 0, _ => kit_ref n10_0 xi0 xt0 s10_0 | 1, _ => kit_ref n10_1 xi1 xt1 s10_1 | 2, _ => kit_ref n10_2 xi2 xt2 s10_2 | 3, _ => kit_ref n10_3 xi3 xt3 s10_3 | 4, _ => kit_ref n10_4 xi4 xt4 s10_4 | 5, _ => kit_ref n10_5 xi5 xt5 s10_5 | 6, _ => kit_ref n10_6 xi6 xt6 s10_6 | 7, _ => kit_ref n10_7 xi7 xt7 s10_7 | 8, _ => kit_ref n10_8 xi8 xt8 s10_8 | 9, _ => kit_ref n10_9 xi9 xt9 s10_9 | 10, _ => kit_self _ | 11, _ => kit_ref n10_11 xi11 xt11 s10_11 | 12, _ => kit_ref n10_12 xi12 xt12 s10_12 | n + 13, h => absurd h (by omega)
  have Ek11 : ∀ j, j < 13 → PySem.W.kitOne K (.ref C11) (.ref (CC j)) = some (kitE 11 j) := fun i h => match i, h with | 0, _ => kit_ref n11_0 xi0 xt0 s11_0 | 1, _ => kit_ref n11_1 xi1 xt1 s11_1 | 2, _ => kit_ref n11_2 xi2 xt2 s11_2 | 3, _ => kit_ref n11_3 xi3 xt3 s11_3 | 4, _ => kit_ref n11_4 xi4 xt4 s11_4 | 5, _ => kit_ref n11_5 xi5 xt5 s11_5 | 6, _ => kit_ref n11_6 xi6 xt6 s11_6 | 7, _ => kit_ref n11_7 xi7 xt7 s11_7 | 8, _ => kit_ref n11_8 xi8 xt8 s11_8 | 9, _ => kit_ref n11_9 xi9 xt9 s11_9 | 10, _ => kit_ref n11_10 xi10 xt10 s11_10 | 11, _ => kit_self _ | 12, _ => kit_ref n11_12 xi12 xt12 s11_12 | n + 13, h => absurd h (by omega)
  have Ek12 : ∀ j, j < 13 → PySem.W.kitOne K (.ref C12) (.ref (CC j)) = some (kitE 12 j) := fun i h => match i, h with | 0, _ => kit_ref n12_0 xi0 xt0 s12_0 | 1, _ => kit_ref n12_1 xi1 xt1 s12_1 | 2, _ => kit_ref n12_2 xi2 xt2 s12_2 | 3, _ => kit_ref n12_3 xi3 xt3 s12_3 | 4, _ => kit_ref n12_4 xi4 xt4 s12_4 | 5, _ => kit_ref n12_5 xi5 xt5 s12_5 | 6, _ => kit_ref n12_6 xi6 xt6 s12_6 | 7, _ => kit_ref n12_7 xi7 xt7 s12_7 | 8, _ => kit_ref n12_8 xi8 xt8 s12_8 | 9, _ => kit_ref n12_9 xi9 xt9 s12_9 | 10, _ => kit_ref n12_10 xi10 xt10 s12_10 | 11, _ => kit_ref n12_11 xi11 xt11 s12_11 | 12, _ => kit_self _ | n + 13, h => absurd h (by omega)
  have Ek : ∀ i j, i < 13 → j < 13 → PySem.W.kitOne K (.ref (CC i)) (.ref (CC j)) = some (kitE i j) := fun i j h hj => match i, h with | 0, _ => Ek0 j hj | 1, _ => Ek1 j hj | 2, _ => Ek2 j hj | 3, _ => Ek3 j hj | 4, _ => Ek4 j hj | 5, _ => Ek5 j hj | 6, _ => Ek6 j hj | 7, _ => Ek7 j hj | 8, _ => Ek8 j hj | 9, _ => Ek9 j hj | 10, _ => Ek10 j hj | 11, _ => Ek11 j hj | 12, _ => Ek12 j hj | n + 13, h => absurd h (by omega)
  have En0 : ∀ f ∈ fdE 0, PySem.W.findIn K (.ref C0) f = some none := fun _ z => by cases List.mem_singleton.mp z; exact x0_0
  have En1 : ∀ f ∈ fdE 1, PySem.W.findIn K (.ref C1) f = some none := fun _ z => by rcases List.mem_cons.mp z with rfl | z; exact x0_1; cases List.mem_singleton.mp z; exact x1_1
  have En2 : ∀ f ∈ fdE 2, PySem.W.findIn K (.ref C2) f = some none := fun _ z => by cases List.mem_singleton.mp z; exact x0_2
  have En3 : ∀ f ∈ fdE 3, PySem.W.findIn K (.ref C3) f = some none := fun _ z => by cases List.mem_singleton.mp z; exact x0_3
  have En4 : ∀ f ∈ fdE 4, PySem.W.findIn K (.ref C4) f = some none := fun _ z => by cases List.mem_singleton.mp z; exact x0_4
  have En5 : ∀ f ∈ fdE 5, PySem.W.findIn K (.ref C5) f = some none := fun _ z => by cases List.mem_singleton.mp z; exact x0_5
  have En6 : ∀ f ∈ fdE 6, PySem.W.findIn K (.ref C6) f = some none := fun _ z => by cases List.mem_singleton.mp z; exact x0_6
  have En7 : ∀ f ∈ fdE 7, PySem.W.findIn K (.ref C7) f = some none := fun _ z => by cases List.mem_singleton.mp z; exact x0_7
  have En8 : ∀ f ∈ fdE 8, PySem.W.findIn K (.ref C8) f = some none := fun _ z => by rcases List.mem_cons.mp z with rfl | z; exact x0_8; cases List.mem_singleton.mp z; exact x1_8
  have En9 : ∀ f ∈ fdE 9, PySem.W.findIn K (.ref C9) f = some none := fun _ z => by cases List.mem_singleton.mp z; exact x0_9
  have En10 : ∀ f ∈ fdE 10, PySem.W.findIn K (.ref C10) f = some none := fun _ z => by cases List.mem_singleton.mp z; exact x0_10
  have En11 : ∀ f ∈ fdE 11, PySem.W.findIn K (.ref C11) f = some none := fun _ z => nomatch z
  have En12 : ∀ f ∈ fdE 12, PySem.W.findIn K (.ref C12) f = some none := fun _ z => nomatch z
  have En : ∀ i f, i < 13 → f ∈ fdE i → PySem.W.findIn K (.ref (CC i)) f = some none := fun i f h hf => match i, h with | 0, _ => En0 f hf | 1, _ => En1 f hf | 2, _ => En2 f hf | 3, _ => En3 f hf | 4, _ => En4 f hf | 5, _ => En5 f hf | 6, _ => En6 f hf | 7, _ => En7 f hf | 8, _ => En8 f hf | 9, _ => En9 f hf | 10, _ => En10 f hf | 11, _ => En11 f hf | 12, _ => En12 f hf | n + 13, h => absurd h (by omega)
  have ER : Ers K mg CC := ⟨Eg, Ex, Ek, Ev, Em, En⟩
  have hVE : mg "ValueError" = none := PySem.W.mg_none_of X G zVE
  refine ⟨PySem.W.fnOf "law" "law" (defArgs s_law) (defBody s_law) (defScope s_law) .none kV_law dc_law pm_law an_law cd_law ct_law, fun s v => .of_eq rfl, fun base _ _ hM => ?_⟩
  have q_Wrong : ErrG P w K mg base "Wrong" (CC 0) ["self", "place"] (spErr1 (CC 0) "place") := ⟨⟨_, _, i_0, t_0, ok_Wrong F_0 O0 x0_0, b_0⟩, O0, PySem.W.mg_of X G a_0⟩
  have q_BadItem : ErrG P w K mg base "BadItem" (CC 1) ["self", "place", "index"] (spErr2 (CC 1) "place" "index") := ⟨⟨_, _, i_1, t_1, ok_BadItem F_1 O1 x0_1 x1_1, b_1⟩, O1, PySem.W.mg_of X G a_1⟩
  have q_TooMany : ErrG P w K mg base "TooMany" (CC 2) ["self", "limit"] (spErr1 (CC 2) "limit") := ⟨⟨_, _, i_2, t_2, ok_TooMany F_2 O2 x0_2, b_2⟩, O2, PySem.W.mg_of X G a_2⟩
  have q_NoFit : ErrG P w K mg base "NoFit" (CC 3) ["self", "reason"] (spErr1 (CC 3) "reason") := ⟨⟨_, _, i_3, t_3, ok_NoFit F_3 O3 x0_3, b_3⟩, O3, PySem.W.mg_of X G a_3⟩
  have q_NoHelp : ErrG P w K mg base "NoHelp" (CC 4) ["self", "reason"] (spErr1 (CC 4) "reason") := ⟨⟨_, _, i_4, t_4, ok_NoHelp F_4 O4 x0_4, b_4⟩, O4, PySem.W.mg_of X G a_4⟩
  have q_NotPlain : ErrG P w K mg base "NotPlain" (CC 5) ["self", "index"] (spErr1 (CC 5) "index") := ⟨⟨_, _, i_5, t_5, ok_NotPlain F_5 O5 x0_5, b_5⟩, O5, PySem.W.mg_of X G a_5⟩
  have q_NoKinds : ErrG P w K mg base "NoKinds" (CC 6) ["self", "kinds"] (spErr1 (CC 6) "kinds") := ⟨⟨_, _, i_6, t_6, ok_NoKinds F_6 O6 x0_6, b_6⟩, O6, PySem.W.mg_of X G a_6⟩
  have q_NoIndex : ErrG P w K mg base "NoIndex" (CC 7) ["self", "index"] (spErr1 (CC 7) "index") := ⟨⟨_, _, i_7, t_7, ok_NoIndex F_7 O7 x0_7, b_7⟩, O7, PySem.W.mg_of X G a_7⟩
  have q_Unequal : ErrG P w K mg base "Unequal" (CC 8) ["self", "one", "other"] (spErr2 (CC 8) "one" "other") := ⟨⟨_, _, i_8, t_8, ok_Unequal F_8 O8 x0_8 x1_8, b_8⟩, O8, PySem.W.mg_of X G a_8⟩
  have q_NoText : ErrG P w K mg base "NoText" (CC 9) ["self", "line"] (spErr1 (CC 9) "line") := ⟨⟨_, _, i_9, t_9, ok_NoText F_9 O9 x0_9, b_9⟩, O9, PySem.W.mg_of X G a_9⟩
  have q_NoCommand : ErrG P w K mg base "NoCommand" (CC 10) ["self", "line"] (spErr1 (CC 10) "line") := ⟨⟨_, _, i_10, t_10, ok_NoCommand F_10 O10 x0_10, b_10⟩, O10, PySem.W.mg_of X G a_10⟩
  have q_Nothing : ErrZ P w K mg base "Nothing" (CC 11) spNil := ⟨⟨_, i_11, t_11, FnR.imp (FnOk.raw (ok_Nothing F_11) b_11 .nil) (fun vs H Q E h => by rw [List.append_nil]; exact h)⟩, O11, PySem.W.mg_of X G a_11⟩
  have q_CaseError : ErrZ P w K mg base "CaseError" (CC 12) spStar := ⟨⟨_, i_12, t_12, ok_CaseError l_12 c_12⟩, O12, PySem.W.mg_of X G a_12⟩
  have h_bag : Cal P w K mg base CX0 1 "_law_bag" ["_law_script"] (spBag K) := ⟨_, _, PySem.W.mg_of X G a_bag, k_bag, b_bag, ok_bag F_bag Tl⟩
  have h_take : Cal P w K mg base CX0 1 "_law_take" ["_law_bag_here", "_law_many"] spTake := ⟨_, _, PySem.W.mg_of X G a_take, k_take, b_take, ok_take F_take Tl⟩
  have h_one : Cal P w K mg base CX0 2 "_law_one" ["_law_bag_here", "_law_menu"] (spOne K) := ⟨_, _, PySem.W.mg_of X G a_one, k_one, b_one, ok_one F_one Tl h_take⟩
  have h_value : Cal P w K mg base CX0 3 "_law_value" ["_law_bag_here"] spVal := ⟨_, _, PySem.W.mg_of X G a_value, k_value, b_value, ok_value F_value Tl h_one⟩
  have h_flags : Cal P w K mg base CX0 1 "_law_flags" ["_law_error"] (spFlags CC) := ⟨_, _, PySem.W.mg_of X G a_flags, k_flags, b_flags, ok_flags F_flags Tl ER⟩
  have h_made : Cal P w K mg base CX0 3 "_law_made" ["_law_at", "_law_first", "_law_second"] (spMade CC) := ⟨_, _, PySem.W.mg_of X G a_made, k_made, b_made, ok_made F_made Tl q_Wrong q_BadItem q_TooMany q_NoFit q_NoHelp q_NotPlain q_NoKinds q_NoIndex q_Unequal q_NoText q_NoCommand q_Nothing⟩
  have h_fields : Cal P w K mg base CX0 1 "_law_fields" ["_law_at", "_law_error"] (spFields CC) := ⟨_, _, PySem.W.mg_of X G a_fields, k_fields, b_fields, ok_fields F_fields Tl ER⟩
  have h_thrown : Cal P w K mg base (L2.CX P w) 3 "_law_thrown" ["_law_at", "_law_first", "_law_second"] (spThrown CC) := ⟨_, _, PySem.W.mg_of X G a_thrown, k_thrown, b_thrown, ok_thrown F_thrown Tl q_Wrong q_BadItem q_TooMany q_NoFit q_NoHelp q_NotPlain q_NoKinds q_NoIndex q_Unequal q_NoText q_NoCommand q_Nothing⟩
  have h_raised : Cal P w K mg base CX0 4 "_law_raised" ["_law_at", "_law_first", "_law_second"] (spMade CC) := ⟨_, _, PySem.W.mg_of X G a_raised, k_raised, b_raised, ok_raised F_raised Tl ER h_thrown⟩
  exact ok_law F_law Tl hM hVE ER h_bag h_take h_value h_made h_fields h_flags h_raised q_CaseError
end EL

open PySem PySem.W PyProof.Rows
set_option maxRecDepth 100000 in
set_option maxHeartbeats 0 in
theorem PySem.Challenge.cw_earlyorlate_k11_errors_apart_holds : PySem.Challenge.rw_earlyorlate_k11_errors_apart.Holds := by
  w_on; o_law; k_head; (case hw => w_witness2)
  k_fill
  refine EL.walk_allM (l := PySem.Challenge.rw_earlyorlate_k11_errors_apart) (k := 5) (by decide +kernel) rfl rfl ⟨rfl, by decide, by decide⟩ (fun w h Y => PySem.W.kIn_of Y) ?F
  case F =>
    intro w mg fa h KX G hmg
    refine' EL.all_mk KX G hmg ?a_bag ?l_bag ?c_bag ?k_bag ?a_take ?l_take ?c_take ?k_take ?a_one ?l_one ?c_one ?k_one ?a_value ?l_value ?c_value ?k_value ?a_flags ?l_flags ?c_flags ?k_flags ?a_made ?l_made ?c_made ?k_made ?a_fields ?l_fields ?c_fields ?k_fields ?a_thrown ?l_thrown ?c_thrown ?k_thrown ?a_raised ?l_raised ?c_raised ?k_raised ?a_law ?l_law ?c_law ?k_law ?z_len ?z_isinstance ?z_int ?z_bool ?z_str ?z_list ?z_tuple ?z_range ?z_enumerate ?z_zip ?z_abs ?z_repr ?z_min ?z_max ?z_sum ?z_all ?obj2 ?obj3 ?zVE ?a_0 ?i_0 ?t_0 ?l_0 ?c_0 ?k_0 ?xl0 ?xv0 ?xs0 ?xe0 ?xt0 ?xk0 ?xg0 ?xa0 ?xh0 ?xc0 ?xo0 ?xi0 ?xV0 ?x0_0 ?a_1 ?i_1 ?t_1 ?l_1 ?c_1 ?k_1 ?xl1 ?xv1 ?xs1 ?xe1 ?xt1 ?xk1 ?xg1 ?xa1 ?xh1 ?xc1 ?xo1 ?xi1 ?xV1 ?x0_1 ?x1_1 ?a_2 ?i_2 ?t_2 ?l_2 ?c_2 ?k_2 ?xl2 ?xv2 ?xs2 ?xe2 ?xt2 ?xk2 ?xg2 ?xa2 ?xh2 ?xc2 ?xo2 ?xi2 ?xV2 ?x0_2 ?a_3 ?i_3 ?t_3 ?l_3 ?c_3 ?k_3 ?xl3 ?xv3 ?xs3 ?xe3 ?xt3 ?xk3 ?xg3 ?xa3 ?xh3 ?xc3 ?xo3 ?xi3 ?xV3 ?x0_3 ?a_4 ?i_4 ?t_4 ?l_4 ?c_4 ?k_4 ?xl4 ?xv4 ?xs4 ?xe4 ?xt4 ?xk4 ?xg4 ?xa4 ?xh4 ?xc4 ?xo4 ?xi4 ?xV4 ?x0_4 ?a_5 ?i_5 ?t_5 ?l_5 ?c_5 ?k_5 ?xl5 ?xv5 ?xs5 ?xe5 ?xt5 ?xk5 ?xg5 ?xa5 ?xh5 ?xc5 ?xo5 ?xi5 ?xV5 ?x0_5 ?a_6 ?i_6 ?t_6 ?l_6 ?c_6 ?k_6 ?xl6 ?xv6 ?xs6 ?xe6 ?xt6 ?xk6 ?xg6 ?xa6 ?xh6 ?xc6 ?xo6 ?xi6 ?xV6 ?x0_6 ?a_7 ?i_7 ?t_7 ?l_7 ?c_7 ?k_7 ?xl7 ?xv7 ?xs7 ?xe7 ?xt7 ?xk7 ?xg7 ?xa7 ?xh7 ?xc7 ?xo7 ?xi7 ?xV7 ?x0_7 ?a_8 ?i_8 ?t_8 ?l_8 ?c_8 ?k_8 ?xl8 ?xv8 ?xs8 ?xe8 ?xt8 ?xk8 ?xg8 ?xa8 ?xh8 ?xc8 ?xo8 ?xi8 ?xV8 ?x0_8 ?x1_8 ?a_9 ?i_9 ?t_9 ?l_9 ?c_9 ?k_9 ?xl9 ?xv9 ?xs9 ?xe9 ?xt9 ?xk9 ?xg9 ?xa9 ?xh9 ?xc9 ?xo9 ?xi9 ?xV9 ?x0_9 ?a_10 ?i_10 ?t_10 ?l_10 ?c_10 ?k_10 ?xl10 ?xv10 ?xs10 ?xe10 ?xt10 ?xk10 ?xg10 ?xa10 ?xh10 ?xc10 ?xo10 ?xi10 ?xV10 ?x0_10 ?a_11 ?i_11 ?t_11 ?l_11 ?c_11 ?k_11 ?xl11 ?xv11 ?xs11 ?xe11 ?xt11 ?xk11 ?xg11 ?xa11 ?xh11 ?xc11 ?xo11 ?xi11 ?xV11 ?a_12 ?i_12 ?t_12 ?l_12 ?c_12 ?k_12 ?xl12 ?xv12 ?xs12 ?xe12 ?xt12 ?xk12 ?xg12 ?xa12 ?xh12 ?xc12 ?xo12 ?xi12 ?xV12 ?n0_1 ?s0_1 ?n0_2 ?s0_2 ?n0_3 ?s0_3 ?n0_4 ?s0_4 ?n0_5 ?s0_5 ?n0_6 ?s0_6 ?n0_7 ?s0_7 ?n0_8 ?s0_8 ?n0_9 ?s0_9 ?n0_10 ?s0_10 ?n0_11 ?s0_11 ?n0_12 ?s0_12 ?n1_0 ?s1_0 ?n1_2 ?s1_2 ?n1_3 ?s1_3 ?n1_4 ?s1_4 ?n1_5 ?s1_5 ?n1_6 ?s1_6 ?n1_7 ?s1_7 ?n1_8 ?s1_8 ?n1_9 ?s1_9 ?n1_10 ?s1_10 ?n1_11 ?s1_11 ?n1_12 ?s1_12 ?n2_0 ?s2_0 ?n2_1 ?s2_1 ?n2_3 ?s2_3 ?n2_4 ?s2_4 ?n2_5 ?s2_5 ?n2_6 ?s2_6 ?n2_7 ?s2_7 ?n2_8 ?s2_8 ?n2_9 ?s2_9 ?n2_10 ?s2_10 ?n2_11 ?s2_11 ?n2_12 ?s2_12 ?n3_0 ?s3_0 ?n3_1 ?s3_1 ?n3_2 ?s3_2 ?n3_4 ?s3_4 ?n3_5 ?s3_5 ?n3_6 ?s3_6 ?n3_7 ?s3_7 ?n3_8 ?s3_8 ?n3_9 ?s3_9 ?n3_10 ?s3_10 ?n3_11 ?s3_11 ?n3_12 ?s3_12 ?n4_0 ?s4_0 ?n4_1 ?s4_1 ?n4_2 ?s4_2 ?n4_3 ?s4_3 ?n4_5 ?s4_5 ?n4_6 ?s4_6 ?n4_7 ?s4_7 ?n4_8 ?s4_8 ?n4_9 ?s4_9 ?n4_10 ?s4_10 ?n4_11 ?s4_11 ?n4_12 ?s4_12 ?n5_0 ?s5_0 ?n5_1 ?s5_1 ?n5_2 ?s5_2 ?n5_3 ?s5_3 ?n5_4 ?s5_4 ?n5_6 ?s5_6 ?n5_7 ?s5_7 ?n5_8 ?s5_8 ?n5_9 ?s5_9 ?n5_10 ?s5_10 ?n5_11 ?s5_11 ?n5_12 ?s5_12 ?n6_0 ?s6_0 ?n6_1 ?s6_1 ?n6_2 ?s6_2 ?n6_3 ?s6_3 ?n6_4 ?s6_4 ?n6_5 ?s6_5 ?n6_7 ?s6_7 ?n6_8 ?s6_8 ?n6_9 ?s6_9 ?n6_10 ?s6_10 ?n6_11 ?s6_11 ?n6_12 ?s6_12 ?n7_0 ?s7_0 ?n7_1 ?s7_1 ?n7_2 ?s7_2 ?n7_3 ?s7_3 ?n7_4 ?s7_4 ?n7_5 ?s7_5 ?n7_6 ?s7_6 ?n7_8 ?s7_8 ?n7_9 ?s7_9 ?n7_10 ?s7_10 ?n7_11 ?s7_11 ?n7_12 ?s7_12 ?n8_0 ?s8_0 ?n8_1 ?s8_1 ?n8_2 ?s8_2 ?n8_3 ?s8_3 ?n8_4 ?s8_4 ?n8_5 ?s8_5 ?n8_6 ?s8_6 ?n8_7 ?s8_7 ?n8_9 ?s8_9 ?n8_10 ?s8_10 ?n8_11 ?s8_11 ?n8_12 ?s8_12 ?n9_0 ?s9_0 ?n9_1 ?s9_1 ?n9_2 ?s9_2 ?n9_3 ?s9_3 ?n9_4 ?s9_4 ?n9_5 ?s9_5 ?n9_6 ?s9_6 ?n9_7 ?s9_7 ?n9_8 ?s9_8 ?n9_10 ?s9_10 ?n9_11 ?s9_11 ?n9_12 ?s9_12 ?n10_0 ?s10_0 ?n10_1 ?s10_1 ?n10_2 ?s10_2 ?n10_3 ?s10_3 ?n10_4 ?s10_4 ?n10_5 ?s10_5 ?n10_6 ?s10_6 ?n10_7 ?s10_7 ?n10_8 ?s10_8 ?n10_9 ?s10_9 ?n10_11 ?s10_11 ?n10_12 ?s10_12 ?n11_0 ?s11_0 ?n11_1 ?s11_1 ?n11_2 ?s11_2 ?n11_3 ?s11_3 ?n11_4 ?s11_4 ?n11_5 ?s11_5 ?n11_6 ?s11_6 ?n11_7 ?s11_7 ?n11_8 ?s11_8 ?n11_9 ?s11_9 ?n11_10 ?s11_10 ?n11_12 ?s11_12 ?n12_0 ?s12_0 ?n12_1 ?s12_1 ?n12_2 ?s12_2 ?n12_3 ?s12_3 ?n12_4 ?s12_4 ?n12_5 ?s12_5 ?n12_6 ?s12_6 ?n12_7 ?s12_7 ?n12_8 ?s12_8 ?n12_9 ?s12_9 ?n12_10 ?s12_10 ?n12_11 ?s12_11
    (case a_bag => k_is)
    (case l_bag => k_is)
    (case c_bag => k_is)
    (case k_bag => k_is)
    (case a_take => k_is)
    (case l_take => k_is)
    (case c_take => k_is)
    (case k_take => k_is)
    (case a_one => k_is)
    (case l_one => k_is)
    (case c_one => k_is)
    (case k_one => k_is)
    (case a_value => k_is)
    (case l_value => k_is)
    (case c_value => k_is)
    (case k_value => k_is)
    (case a_flags => k_is)
    (case l_flags => k_is)
    (case c_flags => k_is)
    (case k_flags => k_is)
    (case a_made => k_is)
    (case l_made => k_is)
    (case c_made => k_is)
    (case k_made => k_is)
    (case a_fields => k_is)
    (case l_fields => k_is)
    (case c_fields => k_is)
    (case k_fields => k_is)
    (case a_thrown => k_is)
    (case l_thrown => k_is)
    (case c_thrown => k_is)
    (case k_thrown => k_is)
    (case a_raised => k_is)
    (case l_raised => k_is)
    (case c_raised => k_is)
    (case k_raised => k_is)
    (case a_law => k_is)
    (case l_law => k_is)
    (case c_law => k_is)
    (case k_law => k_is)
    (case z_len => k_is)
    (case z_isinstance => k_is)
    (case z_int => k_is)
    (case z_bool => k_is)
    (case z_str => k_is)
    (case z_list => k_is)
    (case z_tuple => k_is)
    (case z_range => k_is)
    (case z_enumerate => k_is)
    (case z_zip => k_is)
    (case z_abs => k_is)
    (case z_repr => k_is)
    (case z_min => k_is)
    (case z_max => k_is)
    (case z_sum => k_is)
    (case z_all => k_is)
    (case obj2 => k_is)
    (case obj3 => k_is)
    (case zVE => k_is)
    (case a_0 => k_is)
    (case i_0 => k_is)
    (case t_0 => k_is)
    (case l_0 => k_is)
    (case c_0 => k_is)
    (case k_0 => k_is)
    (case xl0 => k_is)
    (case xv0 => decide)
    (case xs0 => k_is)
    (case xe0 => k_is)
    (case xt0 => k_is)
    (case xk0 => k_is)
    (case xg0 => k_is)
    (case xa0 => k_is)
    (case xh0 => k_is)
    (case xc0 => k_is)
    (case xo0 => k_is)
    (case xi0 => k_is)
    (case xV0 => k_is)
    (case x0_0 => k_is)
    (case a_1 => k_is)
    (case i_1 => k_is)
    (case t_1 => k_is)
    (case l_1 => k_is)
    (case c_1 => k_is)
    (case k_1 => k_is)
    (case xl1 => k_is)
    (case xv1 => decide)
    (case xs1 => k_is)
    (case xe1 => k_is)
    (case xt1 => k_is)
    (case xk1 => k_is)
    (case xg1 => k_is)
    (case xa1 => k_is)
    (case xh1 => k_is)
    (case xc1 => k_is)
    (case xo1 => k_is)
    (case xi1 => k_is)
    (case xV1 => k_is)
    (case x0_1 => k_is)
    (case x1_1 => k_is)
    (case a_2 => k_is)
    (case i_2 => k_is)
    (case t_2 => k_is)
    (case l_2 => k_is)
    (case c_2 => k_is)
    (case k_2 => k_is)
    (case xl2 => k_is)
    (case xv2 => decide)
    (case xs2 => k_is)
    (case xe2 => k_is)
    (case xt2 => k_is)
    (case xk2 => k_is)
    (case xg2 => k_is)
    (case xa2 => k_is)
    (case xh2 => k_is)
    (case xc2 => k_is)
    (case xo2 => k_is)
    (case xi2 => k_is)
    (case xV2 => k_is)
    (case x0_2 => k_is)
    (case a_3 => k_is)
    (case i_3 => k_is)
    (case t_3 => k_is)
    (case l_3 => k_is)
    (case c_3 => k_is)
    (case k_3 => k_is)
    (case xl3 => k_is)
    (case xv3 => decide)
    (case xs3 => k_is)
    (case xe3 => k_is)
    (case xt3 => k_is)
    (case xk3 => k_is)
    (case xg3 => k_is)
    (case xa3 => k_is)
    (case xh3 => k_is)
    (case xc3 => k_is)
    (case xo3 => k_is)
    (case xi3 => k_is)
    (case xV3 => k_is)
    (case x0_3 => k_is)
    (case a_4 => k_is)
    (case i_4 => k_is)
    (case t_4 => k_is)
    (case l_4 => k_is)
    (case c_4 => k_is)
    (case k_4 => k_is)
    (case xl4 => k_is)
    (case xv4 => decide)
    (case xs4 => k_is)
    (case xe4 => k_is)
    (case xt4 => k_is)
    (case xk4 => k_is)
    (case xg4 => k_is)
    (case xa4 => k_is)
    (case xh4 => k_is)
    (case xc4 => k_is)
    (case xo4 => k_is)
    (case xi4 => k_is)
    (case xV4 => k_is)
    (case x0_4 => k_is)
    (case a_5 => k_is)
    (case i_5 => k_is)
    (case t_5 => k_is)
    (case l_5 => k_is)
    (case c_5 => k_is)
    (case k_5 => k_is)
    (case xl5 => k_is)
    (case xv5 => decide)
    (case xs5 => k_is)
    (case xe5 => k_is)
    (case xt5 => k_is)
    (case xk5 => k_is)
    (case xg5 => k_is)
    (case xa5 => k_is)
    (case xh5 => k_is)
    (case xc5 => k_is)
    (case xo5 => k_is)
    (case xi5 => k_is)
    (case xV5 => k_is)
    (case x0_5 => k_is)
    (case a_6 => k_is)
    (case i_6 => k_is)
    (case t_6 => k_is)
    (case l_6 => k_is)
    (case c_6 => k_is)
    (case k_6 => k_is)
    (case xl6 => k_is)
    (case xv6 => decide)
    (case xs6 => k_is)
    (case xe6 => k_is)
    (case xt6 => k_is)
    (case xk6 => k_is)
    (case xg6 => k_is)
    (case xa6 => k_is)
    (case xh6 => k_is)
    (case xc6 => k_is)
    (case xo6 => k_is)
    (case xi6 => k_is)
    (case xV6 => k_is)
    (case x0_6 => k_is)
    (case a_7 => k_is)
    (case i_7 => k_is)
    (case t_7 => k_is)
    (case l_7 => k_is)
    (case c_7 => k_is)
    (case k_7 => k_is)
    (case xl7 => k_is)
    (case xv7 => decide)
    (case xs7 => k_is)
    (case xe7 => k_is)
    (case xt7 => k_is)
    (case xk7 => k_is)
    (case xg7 => k_is)
    (case xa7 => k_is)
    (case xh7 => k_is)
    (case xc7 => k_is)
    (case xo7 => k_is)
    (case xi7 => k_is)
    (case xV7 => k_is)
    (case x0_7 => k_is)
    (case a_8 => k_is)
    (case i_8 => k_is)
    (case t_8 => k_is)
    (case l_8 => k_is)
    (case c_8 => k_is)
    (case k_8 => k_is)
    (case xl8 => k_is)
    (case xv8 => decide)
    (case xs8 => k_is)
    (case xe8 => k_is)
    (case xt8 => k_is)
    (case xk8 => k_is)
    (case xg8 => k_is)
    (case xa8 => k_is)
    (case xh8 => k_is)
    (case xc8 => k_is)
    (case xo8 => k_is)
    (case xi8 => k_is)
    (case xV8 => k_is)
    (case x0_8 => k_is)
    (case x1_8 => k_is)
    (case a_9 => k_is)
    (case i_9 => k_is)
    (case t_9 => k_is)
    (case l_9 => k_is)
    (case c_9 => k_is)
    (case k_9 => k_is)
    (case xl9 => k_is)
    (case xv9 => decide)
    (case xs9 => k_is)
    (case xe9 => k_is)
    (case xt9 => k_is)
    (case xk9 => k_is)
    (case xg9 => k_is)
    (case xa9 => k_is)
    (case xh9 => k_is)
    (case xc9 => k_is)
    (case xo9 => k_is)
    (case xi9 => k_is)
    (case xV9 => k_is)
    (case x0_9 => k_is)
    (case a_10 => k_is)
    (case i_10 => k_is)
    (case t_10 => k_is)
    (case l_10 => k_is)
    (case c_10 => k_is)
    (case k_10 => k_is)
    (case xl10 => k_is)
    (case xv10 => decide)
    (case xs10 => k_is)
    (case xe10 => k_is)
    (case xt10 => k_is)
    (case xk10 => k_is)
    (case xg10 => k_is)
    (case xa10 => k_is)
    (case xh10 => k_is)
    (case xc10 => k_is)
    (case xo10 => k_is)
    (case xi10 => k_is)
    (case xV10 => k_is)
    (case x0_10 => k_is)
    (case a_11 => k_is)
    (case i_11 => k_is)
    (case t_11 => k_is)
    (case l_11 => k_is)
    (case c_11 => k_is)
    (case k_11 => k_is)
    (case xl11 => k_is)
    (case xv11 => decide)
    (case xs11 => k_is)
    (case xe11 => k_is)
    (case xt11 => k_is)
    (case xk11 => k_is)
    (case xg11 => k_is)
    (case xa11 => k_is)
    (case xh11 => k_is)
    (case xc11 => k_is)
    (case xo11 => k_is)
    (case xi11 => k_is)
    (case xV11 => k_is)
    (case a_12 => k_is)
    (case i_12 => k_is)
    (case t_12 => k_is)
    (case l_12 => k_is)
    (case c_12 => k_is)
    (case k_12 => k_is)
    (case xl12 => k_is)
    (case xv12 => decide)
    (case xs12 => k_is)
    (case xe12 => k_is)
    (case xt12 => k_is)
    (case xk12 => k_is)
    (case xg12 => k_is)
    (case xa12 => k_is)
    (case xh12 => k_is)
    (case xc12 => k_is)
    (case xo12 => k_is)
    (case xi12 => k_is)
    (case xV12 => k_is)
    (case n0_1 => decide)
    (case s0_1 => k_is)
    (case n0_2 => decide)
    (case s0_2 => k_is)
    (case n0_3 => decide)
    (case s0_3 => k_is)
    (case n0_4 => decide)
    (case s0_4 => k_is)
    (case n0_5 => decide)
    (case s0_5 => k_is)
    (case n0_6 => decide)
    (case s0_6 => k_is)
    (case n0_7 => decide)
    (case s0_7 => k_is)
    (case n0_8 => decide)
    (case s0_8 => k_is)
    (case n0_9 => decide)
    (case s0_9 => k_is)
    (case n0_10 => decide)
    (case s0_10 => k_is)
    (case n0_11 => decide)
    (case s0_11 => k_is)
    (case n0_12 => decide)
    (case s0_12 => k_is)
    (case n1_0 => decide)
    (case s1_0 => k_is)
    (case n1_2 => decide)
    (case s1_2 => k_is)
    (case n1_3 => decide)
    (case s1_3 => k_is)
    (case n1_4 => decide)
    (case s1_4 => k_is)
    (case n1_5 => decide)
    (case s1_5 => k_is)
    (case n1_6 => decide)
    (case s1_6 => k_is)
    (case n1_7 => decide)
    (case s1_7 => k_is)
    (case n1_8 => decide)
    (case s1_8 => k_is)
    (case n1_9 => decide)
    (case s1_9 => k_is)
    (case n1_10 => decide)
    (case s1_10 => k_is)
    (case n1_11 => decide)
    (case s1_11 => k_is)
    (case n1_12 => decide)
    (case s1_12 => k_is)
    (case n2_0 => decide)
    (case s2_0 => k_is)
    (case n2_1 => decide)
    (case s2_1 => k_is)
    (case n2_3 => decide)
    (case s2_3 => k_is)
    (case n2_4 => decide)
    (case s2_4 => k_is)
    (case n2_5 => decide)
    (case s2_5 => k_is)
    (case n2_6 => decide)
    (case s2_6 => k_is)
    (case n2_7 => decide)
    (case s2_7 => k_is)
    (case n2_8 => decide)
    (case s2_8 => k_is)
    (case n2_9 => decide)
    (case s2_9 => k_is)
    (case n2_10 => decide)
    (case s2_10 => k_is)
    (case n2_11 => decide)
    (case s2_11 => k_is)
    (case n2_12 => decide)
    (case s2_12 => k_is)
    (case n3_0 => decide)
    (case s3_0 => k_is)
    (case n3_1 => decide)
    (case s3_1 => k_is)
    (case n3_2 => decide)
    (case s3_2 => k_is)
    (case n3_4 => decide)
    (case s3_4 => k_is)
    (case n3_5 => decide)
    (case s3_5 => k_is)
    (case n3_6 => decide)
    (case s3_6 => k_is)
    (case n3_7 => decide)
    (case s3_7 => k_is)
    (case n3_8 => decide)
    (case s3_8 => k_is)
    (case n3_9 => decide)
    (case s3_9 => k_is)
    (case n3_10 => decide)
    (case s3_10 => k_is)
    (case n3_11 => decide)
    (case s3_11 => k_is)
    (case n3_12 => decide)
    (case s3_12 => k_is)
    (case n4_0 => decide)
    (case s4_0 => k_is)
    (case n4_1 => decide)
    (case s4_1 => k_is)
    (case n4_2 => decide)
    (case s4_2 => k_is)
    (case n4_3 => decide)
    (case s4_3 => k_is)
    (case n4_5 => decide)
    (case s4_5 => k_is)
    (case n4_6 => decide)
    (case s4_6 => k_is)
    (case n4_7 => decide)
    (case s4_7 => k_is)
    (case n4_8 => decide)
    (case s4_8 => k_is)
    (case n4_9 => decide)
    (case s4_9 => k_is)
    (case n4_10 => decide)
    (case s4_10 => k_is)
    (case n4_11 => decide)
    (case s4_11 => k_is)
    (case n4_12 => decide)
    (case s4_12 => k_is)
    (case n5_0 => decide)
    (case s5_0 => k_is)
    (case n5_1 => decide)
    (case s5_1 => k_is)
    (case n5_2 => decide)
    (case s5_2 => k_is)
    (case n5_3 => decide)
    (case s5_3 => k_is)
    (case n5_4 => decide)
    (case s5_4 => k_is)
    (case n5_6 => decide)
    (case s5_6 => k_is)
    (case n5_7 => decide)
    (case s5_7 => k_is)
    (case n5_8 => decide)
    (case s5_8 => k_is)
    (case n5_9 => decide)
    (case s5_9 => k_is)
    (case n5_10 => decide)
    (case s5_10 => k_is)
    (case n5_11 => decide)
    (case s5_11 => k_is)
    (case n5_12 => decide)
    (case s5_12 => k_is)
    (case n6_0 => decide)
    (case s6_0 => k_is)
    (case n6_1 => decide)
    (case s6_1 => k_is)
    (case n6_2 => decide)
    (case s6_2 => k_is)
    (case n6_3 => decide)
    (case s6_3 => k_is)
    (case n6_4 => decide)
    (case s6_4 => k_is)
    (case n6_5 => decide)
    (case s6_5 => k_is)
    (case n6_7 => decide)
    (case s6_7 => k_is)
    (case n6_8 => decide)
    (case s6_8 => k_is)
    (case n6_9 => decide)
    (case s6_9 => k_is)
    (case n6_10 => decide)
    (case s6_10 => k_is)
    (case n6_11 => decide)
    (case s6_11 => k_is)
    (case n6_12 => decide)
    (case s6_12 => k_is)
    (case n7_0 => decide)
    (case s7_0 => k_is)
    (case n7_1 => decide)
    (case s7_1 => k_is)
    (case n7_2 => decide)
    (case s7_2 => k_is)
    (case n7_3 => decide)
    (case s7_3 => k_is)
    (case n7_4 => decide)
    (case s7_4 => k_is)
    (case n7_5 => decide)
    (case s7_5 => k_is)
    (case n7_6 => decide)
    (case s7_6 => k_is)
    (case n7_8 => decide)
    (case s7_8 => k_is)
    (case n7_9 => decide)
    (case s7_9 => k_is)
    (case n7_10 => decide)
    (case s7_10 => k_is)
    (case n7_11 => decide)
    (case s7_11 => k_is)
    (case n7_12 => decide)
    (case s7_12 => k_is)
    (case n8_0 => decide)
    (case s8_0 => k_is)
    (case n8_1 => decide)
    (case s8_1 => k_is)
    (case n8_2 => decide)
    (case s8_2 => k_is)
    (case n8_3 => decide)
    (case s8_3 => k_is)
    (case n8_4 => decide)
    (case s8_4 => k_is)
    (case n8_5 => decide)
    (case s8_5 => k_is)
    (case n8_6 => decide)
    (case s8_6 => k_is)
    (case n8_7 => decide)
    (case s8_7 => k_is)
    (case n8_9 => decide)
    (case s8_9 => k_is)
    (case n8_10 => decide)
    (case s8_10 => k_is)
    (case n8_11 => decide)
    (case s8_11 => k_is)
    (case n8_12 => decide)
    (case s8_12 => k_is)
    (case n9_0 => decide)
    (case s9_0 => k_is)
    (case n9_1 => decide)
    (case s9_1 => k_is)
    (case n9_2 => decide)
    (case s9_2 => k_is)
    (case n9_3 => decide)
    (case s9_3 => k_is)
    (case n9_4 => decide)
    (case s9_4 => k_is)
    (case n9_5 => decide)
    (case s9_5 => k_is)
    (case n9_6 => decide)
    (case s9_6 => k_is)
    (case n9_7 => decide)
    (case s9_7 => k_is)
    (case n9_8 => decide)
    (case s9_8 => k_is)
    (case n9_10 => decide)
    (case s9_10 => k_is)
    (case n9_11 => decide)
    (case s9_11 => k_is)
    (case n9_12 => decide)
    (case s9_12 => k_is)
    (case n10_0 => decide)
    (case s10_0 => k_is)
    (case n10_1 => decide)
    (case s10_1 => k_is)
    (case n10_2 => decide)
    (case s10_2 => k_is)
    (case n10_3 => decide)
    (case s10_3 => k_is)
    (case n10_4 => decide)
    (case s10_4 => k_is)
    (case n10_5 => decide)
    (case s10_5 => k_is)
    (case n10_6 => decide)
    (case s10_6 => k_is)
    (case n10_7 => decide)
    (case s10_7 => k_is)
    (case n10_8 => decide)
    (case s10_8 => k_is)
    (case n10_9 => decide)
    (case s10_9 => k_is)
    (case n10_11 => decide)
    (case s10_11 => k_is)
    (case n10_12 => decide)
    (case s10_12 => k_is)
    (case n11_0 => decide)
    (case s11_0 => k_is)
    (case n11_1 => decide)
    (case s11_1 => k_is)
    (case n11_2 => decide)
    (case s11_2 => k_is)
    (case n11_3 => decide)
    (case s11_3 => k_is)
    (case n11_4 => decide)
    (case s11_4 => k_is)
    (case n11_5 => decide)
    (case s11_5 => k_is)
    (case n11_6 => decide)
    (case s11_6 => k_is)
    (case n11_7 => decide)
    (case s11_7 => k_is)
    (case n11_8 => decide)
    (case s11_8 => k_is)
    (case n11_9 => decide)
    (case s11_9 => k_is)
    (case n11_10 => decide)
    (case s11_10 => k_is)
    (case n11_12 => decide)
    (case s11_12 => k_is)
    (case n12_0 => decide)
    (case s12_0 => k_is)
    (case n12_1 => decide)
    (case s12_1 => k_is)
    (case n12_2 => decide)
    (case s12_2 => k_is)
    (case n12_3 => decide)
    (case s12_3 => k_is)
    (case n12_4 => decide)
    (case s12_4 => k_is)
    (case n12_5 => decide)
    (case s12_5 => k_is)
    (case n12_6 => decide)
    (case s12_6 => k_is)
    (case n12_7 => decide)
    (case s12_7 => k_is)
    (case n12_8 => decide)
    (case s12_8 => k_is)
    (case n12_9 => decide)
    (case s12_9 => k_is)
    (case n12_10 => decide)
    (case s12_10 => k_is)
    (case n12_11 => decide)
    (case s12_11 => k_is)
