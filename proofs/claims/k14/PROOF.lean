import PyProof.Rows.All
import Wide.All
import OpenK.AllK
import Wide.FinOn
import HandS.ForMost
import HandS.ForExc
import HandS.More
import HandS.Flow
import HandS.Style
import HandS.IsInst
import HandS.Property
import HandS.OwnEq
import HandS.Evl
import KE.GoesEnum
import HandS.SortKw
import KE.GoesEnumKw
import HandS.Walk
import HandS.TupAny
import PySem.Challenge.RW_earlyorlate_k14_books_refused
import HandS.Defaults
import HandS.ExcInit
import HandS.ExcField
import HandS.ExcIs
import KE.KExcIs
import HandS.Dict
import KE.DataFind
import HandS.Small
set_option Elab.async false
set_option linter.all false
set_option maxRecDepth 100000
set_option maxHeartbeats 4000000
/- part P0 -/
/-! Early or late: own words over the hand layer. Part 0: defs that know that no repr is under way. -/
namespace EL
open PySem PySem.Spec PyProof.Rows L2
open PySem.W (Frag)

/-- no repr is under way around -/
abbrev Quiet (A : Around) : Prop := A.guards = some []

/-- a def's promise, for callers around which no repr is under way -/
structure FnG (P : Program) (w : World) (K : Frag) (mg : Str → Option Value) (base : Heap) (X : CXT) (k : Nat) (f : Addr) (fd : FuncData) (ps : List Str) (sp : Sp) : Prop where
  len : ∀ vs H Q E, sp vs H Q E → vs.length = ps.length
  run : ∀ (A : Around) (out : List Env) (s : Shared) (H : Hp) (args : Args) (us : List Value) (vs : List V) (Q : VK) (E : XK),
    Room k A → Quiet A → Env0 P w K mg base A out s H → BindsTo s fd args (ps.zip us) → Vals vs us → sp vs H Q E →
    codeAny (model P w) A (.call (.ref f) args) (CR X out P w H s Q E) s

theorem FnG.of {P : Program} {w : World} {K : Frag} {mg : Str → Option Value} {base : Heap} {X : CXT} {k : Nat} {f : Addr} {fd : FuncData} {ps : List Str} {sp : Sp}
    (F : FnOk P w K mg base X k f fd ps sp) : FnG P w K mg base X k f fd ps sp :=
  ⟨F.len, fun A out s H args us vs Q E hr _ he hb hv hs => F.run A out s H args us vs Q E hr he hb hv hs⟩

theorem FnG.up {P : Program} {w : World} {K : Frag} {mg : Str → Option Value} {base : Heap} {X : CXT} {j k : Nat} {f : Addr} {fd : FuncData} {ps : List Str} {sp : Sp}
    (F : FnG P w K mg base X j f fd ps sp) (h : j ≤ k) : FnG P w K mg base X k f fd ps sp :=
  ⟨F.len, fun A out s H args us vs Q E hr => F.run A out s H args us vs Q E (hr.mono h)⟩

/-- the end of a body, told to the caller -/
theorem ended {X : CXT} {P : Program} {w : World} {K : Frag} {mg : Str → Option Value} {base : Heap} {N : List Str} {qual : Str} {sc : Scope} {f : Addr} {cd : Value} {A : Around} {out : List Env}
    {s s' : Shared} {H H' : Hp} {E : XK} {Q : VK} {σ : L2.St} {v : V} {u : Value}
    (J : Inv (cxOf X P w K mg base N qual sc f cd A out s H E) [] σ H' s') (rv : RelV v u) (q : Q v H') : CE out P w H s Q u s' :=
  ⟨v, H', J.os, J.bare, J.base, J.hok, rv, q⟩

theorem fnG_of {X : CXT} {P : Program} {w : World} {K : Frag} {mg : Str → Option Value} {base : Heap} {k : Nat} {x qual : Str} {st : Stmt} {f : Addr} {fd : FuncData} {N ps : List Str} {sp : Sp}
    (F : Fun K x qual st f fd) (S : FnScope N ps (defScope st)) (len : ∀ vs H Q E, sp vs H Q E → vs.length = ps.length)
    (hbody : ∀ (cd : Value) (A : Around) (out : List Env) (s : Shared) (H : Hp) (vs : List V) (Q : VK) (E : XK), Room k (A.deeper (envOfC qual (defScope st) s.heap.objs.size f cd)) →
      Quiet (A.deeper (envOfC qual (defScope st) s.heap.objs.size f cd)) → sp vs H Q E →
      ∃ t, PSs (cxOf X P w K mg base N qual (defScope st) f cd A out s H E) (defBody st) t ∧ t { nx := fun _ H' => Q .non H', rt := Q } (start N vs) H) :
    FnG P w K mg base X (k + 1) f fd ps sp := by
  obtain ⟨oc, od, kV, doc, pm, an, cd, ct, osl, rfl, lk, hcd⟩ := F.ex
  constructor
  · exact len
  intro A out s H args us vs Q E hr hg e0 hb r hsp
  have old : ∀ b o, base.get? b = some o → s.heap.get? b = some o := fun b o e => (e0.bs b o e).1
  have KX := e0.mod.kin.keeps old
  have kinds : ∀ y ∈ ps.zip us, (defScope st).names.lookup y.1 = some .local ∨ ((defScope st).names.lookup y.1 = some .cell ∧ ((cellsFrom (s.heap.objs.size + 1) (defScope st).names []).lookup y.1).isSome = true) := by
    rintro ⟨n, v⟩ hy
    cases S.par n (List.of_mem_zip hy).1 with
    | inl q => exact .inl q
    | inr q => exact .inr ⟨q, PySem.W.cellsFrom_some _ _ _ (.inl q)⟩
  apply codeAny_call_function hr.depth (KX _ _ lk) rfl S.co S.gen rfl (PySem.W.codeRec_of KX hcd)
  apply hb
  apply wpAny_newFunctionEnv_cells S.kind kinds
  rintro env rfl s1 x
  refine ⟨(e0.mod.nolimit.keeps old).keeps x.toInCall.keep, codeAny_func ?_⟩
  obtain ⟨t, ht, hq⟩ := hbody cd A out s H vs Q E (hr.deeper _) hg hsp
  have I := inv_start (CX := X) (E := E) S hr.hd e0 (len _ _ _ _ hsp) r x
  refine wpAny_mono (ht.run [] s1 _ H _ I hq) ?_ (fun _ _ z => z)
  intro fl s' hs
  cases fl with
  | next =>
    obtain ⟨σ', H', J, q⟩ := hs
    exact ended (v := V.non) (u := Value.none) J rfl q
  | ret u =>
    obtain ⟨v, σ', H', J, rv, q⟩ := hs
    exact ended J rv q
  | brk => exact (let ⟨_, _, _, z⟩ := hs; False.elim z)
  | cont => exact (let ⟨_, _, _, z⟩ := hs; False.elim z)

/-- a def of the module by its name: where it stands, how its arguments bind, its promise -/
structure Cal (P : Program) (w : World) (K : Frag) (mg : Str → Option Value) (base : Heap) (CX : CXT) (k : Nat) (x : Str) (ps : List Str) (sp : Sp) : Prop where
  ex : ∃ f fd, mg x = some (.ref f) ∧ PySem.W.keepIn K (.ref f) = true ∧ Binds K fd ps [] ∧ FnOk P w K mg base CX k f fd ps sp
structure CalG (P : Program) (w : World) (K : Frag) (mg : Str → Option Value) (base : Heap) (CX : CXT) (k : Nat) (x : Str) (ps : List Str) (sp : Sp) : Prop where
  ex : ∃ f fd, mg x = some (.ref f) ∧ PySem.W.keepIn K (.ref f) = true ∧ Binds K fd ps [] ∧ FnG P w K mg base CX k f fd ps sp
theorem Cal.g {P : Program} {w : World} {K : Frag} {mg : Str → Option Value} {base : Heap} {CX : CXT} {k : Nat} {x : Str} {ps : List Str} {sp : Sp} (C : Cal P w K mg base CX k x ps sp) : CalG P w K mg base CX k x ps sp := by
  obtain ⟨f, fd, h1, h2, h3, h4⟩ := C.ex
  exact ⟨f, fd, h1, h2, h3, .of h4⟩
section
variable {X : Cx} {CX : CXT} {k : Nat} {x : Str} {ps : List Str} {sp : Sp} {E : XK} {p pos : Pos} {e : Expr} {es : List Expr} {t : TA}
theorem pe_cal (C : Cal X.prog X.w X.K X.mg X.base CX k x ps sp) (hr : Room k X.A) (hx : Passes CX X E) (ha : PA X (e :: es) t) (hg : Gl X x := by rfl) (hdb : (x == ("__debug__" : Str)) = false := by decide)
    (he : starEach (e :: es) X.env = (false, eval e X.env) :: starEach es X.env := by rfl) (hpl : (backTo pos (starEach es X.env)).any (·.1) = false := by rfl) :
    PE X (.Call (.Name x p) (e :: es) [] pos) (tCall sp [] E t) := by
  obtain ⟨f, fd, h1, h2, h3, h4⟩ := C.ex
  exact pe_call h4 hr hg h1 h2 h3 .nil hx ha hdb he hpl
theorem pe_cal0 (C : Cal X.prog X.w X.K X.mg X.base CX k x ps sp) (hr : Room k X.A) (hx : Passes CX X E) (hg : Gl X x := by rfl) (hdb : (x == ("__debug__" : Str)) = false := by decide) :
    PE X (.Call (.Name x p) [] [] pos) (tCall sp [] E tNil) := by
  obtain ⟨f, fd, h1, h2, h3, h4⟩ := C.ex
  exact pe_call0 h4 hr hg h1 h2 h3 .nil hx hdb
theorem run_calG {f : Addr} {fd : FuncData} {pins : List (Addr × Obj)} {σ : L2.St} {H : Hp} {s : Shared} {Q : VK} {us : List Value} {vs : List V} (F : FnG X.prog X.w X.K X.mg X.base CX k f fd ps sp) (hr : Room k X.A) (hq : Quiet X.A) (hb : Binds X.K fd ps [])
    (hx : Passes CX X E) (I : Inv X pins σ H s) (r : Vals vs us) (h : sp vs H Q E) : wpAny (model X.prog X.w) X.A (call (.ref f) us) (EP X pins σ Q) X.xe s := by
  have hl : us.length = ps.length := r.length.symm.trans (F.len _ _ _ _ h)
  have hb1 := hb s us I.kIn (by rw [List.append_nil]; exact hl)
  rw [List.append_nil] at hb1
  refine wpAny_call (codeAny_mono (F.run X.A X.stack s H ⟨us, []⟩ us vs Q E hr hq I.env0 hb1 r h) ?_)
  rintro (e | fl) s' hz
  · exact hx pins σ H s e s' I hz
  · cases fl with
    | ret u => exact I.after hz
    | next => exact False.elim hz
    | brk => exact False.elim hz
    | cont => exact False.elim hz
theorem pe_calG (C : CalG X.prog X.w X.K X.mg X.base CX k x ps sp) (hr : Room k X.A) (hq : Quiet X.A) (hx : Passes CX X E) (ha : PA X (e :: es) t) (hg : Gl X x := by rfl) (hdb : (x == ("__debug__" : Str)) = false := by decide)
    (he : starEach (e :: es) X.env = (false, eval e X.env) :: starEach es X.env := by rfl) (hpl : (backTo pos (starEach es X.env)).any (·.1) = false := by rfl) :
    PE X (.Call (.Name x p) (e :: es) [] pos) (tCall sp [] E t) := by
  obtain ⟨f, fd, h1, h2, h3, h4⟩ := C.ex
  constructor
  intro pins s σ H Q I h
  apply wpAny_Call_Name_kw
  refine ld_glob I hg h1 (PySem.W.callWith_K (h₀ := X.base) I.ok.mod.kin h2 (thn (ha.run pos pins s σ H _ I h) ?_) he hpl) hdb
  rintro us s1 ⟨vs, H1, I1, r, q⟩
  rw [List.append_nil] at q
  exact ⟨I1.kIn, run_calG h4 hr hq h3 hx I1 r q⟩
theorem pe_calG0 (C : CalG X.prog X.w X.K X.mg X.base CX k x ps sp) (hr : Room k X.A) (hq : Quiet X.A) (hx : Passes CX X E) (hg : Gl X x := by rfl) (hdb : (x == ("__debug__" : Str)) = false := by decide) :
    PE X (.Call (.Name x p) [] [] pos) (tCall sp [] E tNil) := by
  obtain ⟨f, fd, h1, h2, h3, h4⟩ := C.ex
  constructor
  intro pins s σ H Q I h
  apply wpAny_Call_Name_kw
  exact ld_glob I hg h1 (PySem.W.callWith_K0 I.kIn h2 (run_calG (us := []) h4 hr hq h3 hx I .nil h)) hdb
end
end EL

/- part P1 -/
/-! the end of a law whose def wants that no repr is under way -/
namespace EL
open PySem PySem.Spec PyProof.Rows L2
open PySem.W (Frag)

theorem law_from {P : Program} {w : World} {K : Frag} {mg mb : Str → Option Value} {CX : CXT} {k : Nat} {fa a : Addr} {fd : FuncData} {x : Str} {sp : Sp} {s : Shared} {vs : List Value} {H : Hp}
    (KX : K.In s.heap) (hns : s.heap.Ns mainGlobals mg) (hb : s.heap.Ns builtinsNs mb) (hbb : ∀ y : Str, y ≠ "__name__" → mb y = bootBuiltins y) (hlim : s.heap.NoLimit) (hg : s.gens = #[])
    (ha : s.heap.get? a = some { cls := .type "list", data := .seq vs.toArray }) (hr : Room k PySem.callerA)
    (F : ∀ base : Heap, K.In base → base.Ns mainGlobals mg → FnG P w K mg base CX k fa fd [x] sp) (hbind : ∀ (s : Shared) (u : Value), BindsTo s fd ⟨[u], []⟩ [(x, u)])
    (hsp : sp [.ref a] H (fun v _ => v = .bl true) fun _ _ _ => False) (hCX : ∀ e s', CX [] H s (fun _ _ _ => False) e s' → False)
    (hO : Only H) (hok : HOk P w H s.heap) (hA : ∀ b, H b ≠ none → b = a) (hK : H a ≠ none → K.lookup a = none) :
    codeAny (model P w) PySem.callerA (.call (.ref fa) ⟨[.ref a], []⟩) (fun r s' => r = .ok (.ret (.bool true)) ∧ OldK s.heap s'.heap ∧ s'.os = s.os ∧ AllBare s'.gens) s := by
  have free : ∀ {b : Addr} {o : Obj}, s.heap.get? b = some o → (b = a → False) ∨ (H b = none) → (hidT s.heap H).get? b = some o := by
    intro b o e z
    apply hidT_get e
    rcases z with z | z
    · cases q : H b with
      | none => rfl
      | some u => exact (z (hA b (by simp [q]))).elim
    · exact z
  have dict : ∀ {b : Addr} {m : Str → Option Value}, s.heap.Ns b m → (hidT s.heap H).Ns b m := by
    rintro b m ⟨o, es, ep, e, d, r⟩
    refine ⟨o, es, ep, free e (.inl fun z => ?_), d, r⟩
    rw [z, ha] at e
    cases e
    exact nomatch d
  have kin : K.In (hidT s.heap H) := by
    intro b o e
    cases q : H b with
    | none => exact free (KX b o e) (.inr q)
    | some u =>
      have ba := hA b (by simp [q])
      rw [ba] at e q
      rw [hK (by simp [q])] at e
      exact nomatch e
  have M : Mod K mg (hidT s.heap H) := ⟨kin, dict hns, ⟨mb, dict hb, hbb⟩, let ⟨mc, h1, h2⟩ := hlim; ⟨mc, dict h1, h2⟩⟩
  have none_in : ∀ b : Addr, b ∉ ([] : List Addr) := fun b z => by simp at z
  have e0 : Env0 P w K mg (hidT s.heap H) PySem.callerA [] s H :=
    { frames := rfl, mod := M, bs := fun b o e => of_hidT e, bsz := Nat.le_of_eq (hidT_size _ _), funs := trivial, frf := fun b z => (none_in b z).elim, hok := hok, bare := .of_eq hg }
  refine codeAny_mono ((F _ kin (dict hns)).run PySem.callerA [] s H _ [.ref a] [.ref a] _ _ hr rfl e0 (hbind s (.ref a)) (.cons rfl .nil) hsp) ?_
  rintro (e | fl) s' hz
  · exact (hCX e s' hz).elim
  · cases fl with
    | next => exact False.elim hz
    | brk => exact False.elim hz
    | cont => exact False.elim hz
    | ret u =>
      obtain ⟨v, H', os, bare, un, hok', r', q⟩ := hz
      have q2 : v = .bl true := q
      rw [q2] at r'
      have u2 : u = Value.bool true := r'
      rw [u2]
      refine ⟨rfl, OldK.of_keep fun b o e => ?_, os, bare⟩
      rcases hO b with z | ⟨ob, xs, z⟩
      · exact un.keep b o e z (none_in b) (none_in b)
      · have e1 := (hok b _ z).1
        rw [e] at e1
        rw [Option.some.inj e1]
        exact (hok' b _ (un.frzs b ob _ z)).1

theorem law_runs {P : Program} {w : World} {K : Frag} {mg mb : Str → Option Value} {CX : CXT} {k : Nat} {fa a : Addr} {fd : FuncData} {x : Str} {sp : Sp} {s : Shared} {vs : List Value} {ns : List Int}
    (KX : K.In s.heap) (hns : s.heap.Ns mainGlobals mg) (hb : s.heap.Ns builtinsNs mb) (hbb : ∀ y : Str, y ≠ "__name__" → mb y = bootBuiltins y) (hlim : s.heap.NoLimit) (hg : s.gens = #[])
    (ha : s.heap.get? a = some { cls := .type "list", data := .seq vs.toArray }) (hi : IntsAre vs ns) (hl : ns.length ≤ sizeLine) (hr : Room k PySem.callerA)
    (F : ∀ base : Heap, K.In base → base.Ns mainGlobals mg → FnG P w K mg base CX k fa fd [x] sp) (hbind : ∀ (s : Shared) (u : Value), BindsTo s fd ⟨[u], []⟩ [(x, u)])
    (hsp : ∀ H : Hp, Only H → SqL K H a (ns.map V.int) → sp [.ref a] H (fun v _ => v = .bl true) fun _ _ _ => False)
    (hCX : ∀ H e s', CX [] H s (fun _ _ _ => False) e s' → False) :
    codeAny (model P w) PySem.callerA (.call (.ref fa) ⟨[.ref a], []⟩) (fun r s' => r = .ok (.ret (.bool true)) ∧ OldK s.heap s'.heap ∧ s'.os = s.os ∧ AllBare s'.gens) s := by
  have rv := vals_ints hi
  by_cases hk : K.lookup a = none
  · let H : Hp := fun b => if b = a then some (.frz { cls := .type "list", data := .seq vs.toArray } (.lst (ns.map V.int))) else none
    have at_ : H a = some (.frz { cls := .type "list", data := .seq vs.toArray } (.lst (ns.map V.int))) := if_pos rfl
    have other : ∀ b, b ≠ a → H b = none := fun b h => if_neg h
    have hO : Only H := fun b => by
      by_cases q : b = a
      · exact .inr ⟨_, _, by rw [q]; exact at_⟩
      · exact .inl (other b q)
    refine law_from (H := H) KX hns hb hbb hlim hg ha hr F hbind (hsp H hO (.inl (.inr ⟨_, at_⟩))) (hCX H) hO ?_ ?_ fun _ => hk
    · intro b u z
      by_cases q : b = a
      · subst q
        rw [at_] at z
        cases z
        refine ⟨ha, ?_, vs, _, rv, ha⟩
        rw [List.length_map]
        exact hl
      · rw [other b q] at z
        exact nomatch z
    · intro b z
      by_cases q : b = a
      · exact q
      · exact (z (other b q)).elim
  · obtain ⟨o, hk⟩ := Option.ne_none_iff_exists'.mp hk
    have e := KX a o hk
    rw [ha] at e
    cases e
    let H : Hp := fun _ => none
    have hO : Only H := fun _ => .inl rfl
    have hS : SqL K H a (ns.map V.int) := .inr ⟨_, vs.toArray, _, hk, rfl, rfl, rfl, by simpa [hi.length] using hl, by simpa using rv⟩
    exact law_from (H := H) KX hns hb hbb hlim hg ha hr F hbind (hsp H hO hS) (hCX H) hO (fun b u z => nomatch (show (none : Option HO) = some u from z)) (fun b z => (z rfl).elim) fun z => (z rfl).elim

theorem walk_law {l : PySem.W.OpenLaw} {n k : Nat} {q : Program} {loose : List Str} {XP : (Str → Option Value) → Heap → Prop} {YP : World → Heap → Prop} {d : DefRec} {K : Params → Frag} {CX : World → CXT} {sp : World → Sp} {x : Str}
    (hn : l.most = some n) (hn2 : n ≤ sizeLine) (hdf : d.params.defaults = []) (hr : Room k PySem.callerA) (hY : ∀ (w : World) (h : Heap), YP w h → (K w.params).In h)
    (F : ∀ (w : World) (mg : Str → Option Value) (fa : Addr) (h : Heap), (K w.params).In h → h.Ns mainGlobals mg → mg d.name = some (.ref fa) →
      ∃ fd : FuncData, (∀ (s : Shared) (u : Value), BindsTo s fd ⟨[u], []⟩ [(x, u)]) ∧ ∀ base : Heap, (K w.params).In base → base.Ns mainGlobals mg → FnG l.prog w (K w.params) mg base (CX w) k fa fd [x] (sp w))
    (hsp : ∀ (w : World) (H : Hp) (a : Addr) (ns : List Int), ns.length ≤ n → Only H → SqL (K w.params) H a (ns.map V.int) → sp w [.ref a] H (fun v _ => v = .bl true) fun _ _ _ => False)
    (hCX : ∀ (w : World) (H : Hp) (s : Shared) (e : Value) (s' : Shared), CX w [] H s (fun _ _ _ => False) e s' → False) :
    PySem.W.WalkO q loose XP YP l.row.toRowW d [] (fun f vs => PySem.call f vs) := by
  refine Att.attach_call hn hdf ?_
  intro w s₀ s₁ mg mb fa o pm cd doc a vs ns G Y ho hd hcd hmg hobj hints hlen hg
  obtain ⟨fd, hb, hF⟩ := F w mg fa _ (hY w _ Y) G.T.g hmg
  exact law_runs (hY w _ Y) G.T.g G.T.b G.T.builtins G.T.nolimit hg hobj hints (Nat.le_trans hlen hn2) hr hF hb (fun H => hsp w H a ns hlen) fun H => hCX w H s₁
end EL

/- part P2 -/
/-! repr of data, where no repr is under way -/
namespace EL
open PySem PySem.Spec PyProof.Rows L2
open PySem.W (Frag)
mutual
theorem dp_nodict {K : Frag} {H : Hp} : ∀ (d : PyData) (v : V), Dp K H v d → d.hasDict = false
  | .none, _, _ => rfl
  | .bool _, _, _ => rfl
  | .int _, _, _ => rfl
  | .str _, _, _ => rfl
  | .list ds, _, h => by
    cases h with
    | lst _ ha => exact dp_nodictAll ds _ ha
  | .tuple ds, _, h => by
    cases h with
    | tup _ ha => exact dp_nodictAll ds _ ha
  | .dict _, _, h => by cases h
theorem dp_nodictAll {K : Frag} {H : Hp} : ∀ (ds : List PyData) (vs : List V), DpAll K H vs ds → PyData.hasDictAll ds = false
  | [], _, _ => rfl
  | d :: ds, _, h => by
    cases h with
    | cons h1 h2 =>
      show (d.hasDict || PyData.hasDictAll ds) = false
      rw [dp_nodict d _ h1, dp_nodictAll ds _ h2]
      rfl
end
/-- what repr hands back of data -/
def rShow (K : Frag) : List V → Hp → VK → Prop := fun xs H Q => ∃ x d, xs = [x] ∧ Dp K H x d ∧ d.showable = true ∧ d.depth ≤ 50 ∧ d.shown.length ≤ sizeLine ∧ Q (.str d.shown) H
theorem call_show {X : Cx} (hq : Quiet X.A) (hu : X.A.units + 64 < cLine) : CallR X (.builtin "repr") (rShow X.K) := by
  rintro pins s σ H xs us Q I r ⟨x, d, rfl, hd, hs, hdep, hlen, q⟩
  cases r with
  | cons rx rn =>
    rename_i u us
    cases rn
    obtain ⟨as, rd⟩ := Dp.reads I d x u hd rx
    have fin : ∀ t k, EP X pins σ Q (.str d.shown t) { s with toks := k } := fun t k => ⟨V.str d.shown, H, I.tok _, ⟨t, rfl⟩, q⟩
    cases rd with
    | none => exact PySem.P.repr_of_none (fin _ _)
    | bool b => exact PySem.P.repr_of_bool (fin _ _)
    | int i t => exact PySem.P.repr_of_int (by simpa [PyData.showable] using hs) (fin _ _)
    | str y t => exact PySem.P.repr_of_str (fin _ _) hlen
    | list h1 h2 h3 h4 =>
      have nd := dp_nodict _ _ hd
      refine repr_of_reads' (h₀ := s.heap) (.list h1 h2 h3 h4) hs (fun z => by rw [nd] at z; cases z) hq (by omega) (fun _ _ e => e) ?_ hlen
      intro h' t tk k
      exact ⟨V.str _, H, I.kept k, ⟨t, rfl⟩, q⟩
    | tuple h1 h2 h3 h4 =>
      have nd := dp_nodict _ _ hd
      refine repr_of_reads' (h₀ := s.heap) (.tuple h1 h2 h3 h4) hs (fun z => by rw [nd] at z; cases z) hq (by omega) (fun _ _ e => e) ?_ hlen
      intro h' t tk k
      exact ⟨V.str _, H, I.kept k, ⟨t, rfl⟩, q⟩
    | dict h1 h2 h3 h4 h5 => cases hd
theorem call_showE {X : Cx} (hq : Quiet X.A) (hu : X.A.units + 64 < cLine) : CallR X (.builtin "repr") (fun xs H Q => ∃ p, xs = [.ref p] ∧ H p = some (.dK []) ∧ Q (.str (PyData.dict []).shown) H) := by
  rintro pins s σ H xs us Q I r ⟨p, rfl, hp, q⟩
  cases r with
  | cons rx rn =>
    rename_i u us
    cases rn
    cases rx
    obtain ⟨_, ns, vs, kv, o, es, ep, ho, ex, hd, _, pr, _⟩ := I.hok p _ hp
    cases kv
    have e0 : es.toList = [] := by
      generalize es.toList = l at pr
      cases pr
      rfl
    have e1 : es = #[] := Array.toList_inj.mp e0
    subst e1
    have hz : X.A.units + ((PyData.dict []).depth + 1) < cLine := by
      have z : (PyData.dict []).depth ≤ 50 := by decide +kernel
      omega
    refine repr_of_reads' (d := .dict []) (h₀ := s.heap) (.dict ho ex.1 hd .nil .nil) (by decide +kernel) (fun _ z => ?_) hq hz (fun _ _ e => e) ?_ (by decide +kernel)
    · have z' : sysModules = p := by simpa using z
      rw [← z'] at ns
      exact absurd ns (by decide)
    · intro h' t tk k
      exact ⟨V.str _, H, I.kept k, ⟨t, rfl⟩, q⟩
/-- repr of data, or of an empty dict -/
def rShowU (K : Frag) : List V → Hp → VK → Prop := fun xs H Q => rShow K xs H Q ∨ ∃ p, xs = [.ref p] ∧ H p = some (.dK []) ∧ Q (.str (PyData.dict []).shown) H
theorem u_show {X : Cx} (hq : Quiet X.A) (hu : X.A.units + 64 < cLine) : CallR X (.builtin "repr") (rShowU X.K) := (call_show hq hu).or (call_showE hq hu)
end EL

/- part E1 -/
/-! enumerate(v, start=k): how it is made -/
namespace EL
open PySem PySem.Spec PyProof.Rows L2
open PySem.W (Frag)
theorem tcall_enum_kw (a b : Value) : checkTypeCall "enumerate" ⟨[a], [("start", b)]⟩ = pure () := by kernel_rfl
theorem ncall_enum_kw (a b : Value) : checkBuiltinCall "enumerate.__new__" ⟨[.type "enumerate", a], [("start", b)]⟩ = pure () := by kernel_rfl
/-- the enumerate object, before its first turn -/
abbrev enumObj (r : Value) (k : Int) : Obj := { cls := .type "enumerate", data := .fields #[.none, .bool false, r, rawInt k, .none, .none] }
set_option maxHeartbeats 2000000 in
theorem meets_enum_kw {v : Value} {rv : Heap → Value} {f : Heap → Heap} {W : Heap → Prop}
    (IT : ∀ (prog : Program) (w : World) (A : Around) (E : Value → Shared → Prop) (s : Shared) (Q : Value → Shared → Prop), W s.heap → Q (rv s.heap) { s with heap := f s.heap } → wpAny (model prog w) A (pyIter v) Q E s)
    (k : Int) (t : Tok) (fit : Builtin.SmallTypes.fitsIndex k = true) :
    Meets (Builtin.«enumerate.__new__» ⟨[.type "enumerate", v], [("start", .int k t)]⟩) (fun _ R s => W s.heap ∧ R (.ok (.ret (.ref (f s.heap).objs.size))) { s with heap := (f s.heap).push (enumObj (rv s.heap) k) }) :=
  .of_wp fun prog w A R s h => by
    obtain ⟨hp, g, d, tk, os⟩ := s
    obtain ⟨h1, h⟩ := h
    have sub := sub_enumerate
    have nf : (!Builtin.SmallTypes.fitsIndex k) = false := by rw [fit]; rfl
    have go : ∀ {A' : Around} {E : Value → Shared → Prop} {Q : Value → Shared → Prop}, Q (rv hp) ⟨f hp, g, d, tk, os⟩ → wpAny (model prog w) A' (pyIter v) Q E ⟨hp, g, d, tk, os⟩ := fun q => IT prog w _ _ ⟨hp, g, d, tk, os⟩ _ h1 q
    wp_walk using go
    refine wpAny_stack_any fun st => wpAny_pure ?_
    split
    · rename_i c _ _ _ _ _
      cases (c == Value.type "enumerate")
      · wp_walk using go
        exact ⟨_, rfl, h⟩
      · wp_walk using go
        exact ⟨_, rfl, h⟩
    · wp_walk using go
      exact ⟨_, rfl, h⟩
end EL

/- part E2 -/
/-! enumerate over any iterator: one turn; zip over two tuples whose pair may still be about -/
namespace EL
open PySem PySem.Spec PyProof.Rows L2
open PySem.W (Frag)
section
variable {prog : Program} {w : World} {A : Around} {E : Value → Shared → Prop} {s : Shared}
theorem alive {a : Addr} {Q : Option Obj → Shared → Prop} (h : Q (s.heap.get? a) s) : wpAny (model prog w) A (loadIfAlive a) Q E s := fun _ _ _ => h
theorem enum_turn {e it : Addr} {c : Int} {old : Value} {R : Value → Heap → Prop} {Q : Value → Shared → Prop} (he : IsEnum s.heap e it c old)
    (inner : ∀ (Q' E' : Value → Shared → Prop), (∀ x h1 tk, IsEnum h1 e it c old → R x h1 → Q' x { s with heap := h1, toks := tk }) → wpAny (model prog w) A (Builtin.SmallTypes.nextOf (.ref it)) Q' E' s)
    (hQ : ∀ x h1 h' tk, R x h1 → e < h1.objs.size → IsEnumOut h' e it (c + 1) x h1.objs.size → h'.get? h1.objs.size = some { cls := .type "tuple", data := .seq #[.int c tk, x] } → h'.objs.size = h1.objs.size + 1 →
      (∀ b o, b ≠ e → h1.get? b = some o → h'.get? b = some o) → Q (.ref h1.objs.size) { s with heap := h', toks := tk + 1 }) :
    wpAny (model prog w) A (Builtin.«enumerate.__next__» ⟨[.ref e], []⟩) (fun fin s' => ∃ v, fin = .done (.ret v) ∧ Q v s') E s := by
  obtain ⟨hp, g, d, tk0, os⟩ := s
  refine wpAny_bind (m := field (.ref e) 2) (wpAny_field he rfl (x := .ref it) rfl (wpAny_bind (inner _ _ fun x h1 tk e1 r1 => ?_)))
  have lt : e < h1.objs.size := Heap.lt_size e1
  refine wpAny_bind (m := field (.ref e) 3) (wpAny_field e1 rfl (x := rawInt c) rfl ?_)
  refine wpAny_bind (m := field (.ref e) 4) (wpAny_field e1 rfl (x := .none) rfl ?_)
  refine wpAny_bind (m := mkInt c) (wpAny_mkInt ?_)
  refine wpAny_bind (m := setField (.ref e) 3 (rawInt (c + 1))) (wpAny_setField_rec e1 (by simp) fun h2 e2 k2 => ?_)
  have e2' : IsEnum h2 e it (c + 1) old := e2
  refine wpAny_bind (m := setField (.ref e) 4 .none) (wpAny_setField_rec e2' (by simp) fun h3 e3 k3 => ?_)
  have e3' : IsEnum h3 e it (c + 1) old := e3
  have z3 : h3.objs.size = h1.objs.size := k3.1.trans k2.1
  have up3 : ∀ b o, b ≠ e → h1.get? b = some o → h3.get? b = some o := fun b o hb q => Heap.SameBut.extBut k3 b o hb (Heap.SameBut.extBut k2 b o hb q)
  refine wpAny_bind (m := newTuple [.int c tk, x]) (wpAny_newTuple ?_)
  have e4 : IsEnum (h3.push { cls := .type "tuple", data := .seq #[.int c tk, x] }) e it (c + 1) old := Heap.get?_push_of_some _ e3'
  have t4 : (h3.push { cls := .type "tuple", data := .seq #[.int c tk, x] }).get? h1.objs.size = some { cls := .type "tuple", data := .seq #[.int c tk, x] } := by
    have q := Heap.get?_push_size h3 (o := { cls := .type "tuple", data := .seq #[.int c tk, x] }) rfl
    rw [z3] at q
    exact q
  have s4 : (h3.push { cls := .type "tuple", data := .seq #[.int c tk, x] }).objs.size = h1.objs.size + 1 := (Heap.size_push ..).trans (by rw [z3])
  have up4 : ∀ b o, b ≠ e → h1.get? b = some o → (h3.push { cls := .type "tuple", data := .seq #[.int c tk, x] }).get? b = some o := fun b o hb q => Heap.get?_push_of_some _ (up3 b o hb q)
  refine wpAny_bind (m := Builtin.SmallTypes.ownedTupleIsFree (.ref e)) ?_
  unfold Builtin.SmallTypes.ownedTupleIsFree
  refine wpAny_bind (m := field (.ref e) 0) (wpAny_field e4 rfl (x := .none) rfl (wpAny_pure ?_))
  rw [if_pos rfl]
  refine wpAny_bind (wpAny_rule (wpAny_bind (wpAny_field e4 rfl (x := old) rfl (wpAny_bind (wpAny_setField_rec e4 (by simp) fun h5 e5 k5 => ?_)))))
  have e5' : IsEnum h5 e it (c + 1) x := e5
  show wpAny _ _ (Builtin.SmallTypes.ownedTupleHandOut (.ref e) (.ref h3.objs.size) >>= _) _ _ _
  rw [z3]
  refine wpAny_bind ?_
  unfold Builtin.SmallTypes.ownedTupleHandOut
  refine wpAny_bind (wpAny_setField_rec e5' (by simp) fun h6 e6 k6 => wpAny_setField_rec e6 (by simp) fun h7 e7 k7 => ?_)
  have up : ∀ b o, b ≠ e → h1.get? b = some o → h7.get? b = some o := fun b o hb q =>
    Heap.SameBut.extBut k7 b o hb (Heap.SameBut.extBut k6 b o hb (Heap.SameBut.extBut k5 b o hb (up4 b o hb q)))
  have ne : h1.objs.size ≠ e := Nat.ne_of_gt lt
  refine wpAny_bind (wpAny_letGo (wpAny_pure ⟨_, rfl, hQ x h1 h7 tk r1 lt e7 ?_ ?_ up⟩))
  · exact Heap.SameBut.extBut k7 _ _ ne (Heap.SameBut.extBut k6 _ _ ne (Heap.SameBut.extBut k5 _ _ ne t4))
  · exact k7.1.trans (k6.1.trans (k5.1.trans s4))
end
end EL

/- part E3 -/
/-! one turn of zip(t1, t2), whatever became of the pair that it handed out last -/
namespace EL
open PySem PySem.Spec PyProof.Rows L2
open PySem.W (Frag)
/-- a zip object; f0 tells the pair that is out, b that it was met alive -/
abbrev zipObj (f0 : Value) (b : Bool) (TI TO : Addr) : Obj := { cls := .type "zip", dict := none, data := .fields #[f0, .bool b, .bool false, .ref TI, .ref TO], slots := #[] }
def OutMark (f0 : Value) : Prop := f0 = .none ∨ ∃ a : Addr, f0 = rawInt a
def ZipAt (h : Heap) (z TI TO : Addr) : Prop := ∃ f0 b, h.get? z = some (zipObj f0 b TI TO) ∧ OutMark f0
/-- the cells of the zip and of its two iterators lie apart -/
structure Apart (z TI TO i1 i2 t1 t2 : Addr) : Prop where
  zTI : z ≠ TI
  zTO : z ≠ TO
  zi1 : z ≠ i1
  zi2 : z ≠ i2
  zt1 : z ≠ t1
  zt2 : z ≠ t2
  TITO : TI ≠ TO
  TIi1 : TI ≠ i1
  TIi2 : TI ≠ i2
  TOi1 : TO ≠ i1
  TOi2 : TO ≠ i2
  TOt1 : TO ≠ t1
  TOt2 : TO ≠ t2
  i12 : i1 ≠ i2
  t1i1 : t1 ≠ i1
  t1i2 : t1 ≠ i2
  t2i1 : t2 ≠ i1
  t2i2 : t2 ≠ i2
section
variable {prog : Program} {w : World} {A : Around} {E : Value → Shared → Prop} {s : Shared} {z TI TO i1 i2 t1 t2 : Addr} {xs ys : Array Value} {i : Nat}
/-- what the zip stands on -/
structure ZipSt (h : Heap) (z TI TO i1 i2 t1 t2 : Addr) (xs ys : Array Value) (i : Nat) : Prop where
  zip : ZipAt h z TI TO
  ti : IsTupOf2 h TI (.ref i1) (.ref i2)
  to : ∃ a b, IsTupOf2 h TO a b
  it1 : h.IsTupleIter i1 t1 i
  it2 : h.IsTupleIter i2 t2 i
  tu1 : h.IsTuple t1 xs
  tu2 : h.IsTuple t2 ys
theorem ext_of {x : Addr} {h h' : Heap} (k : Heap.SameBut x h h') : ∀ b o, b ≠ x → h.get? b = some o → h'.get? b = some o := fun b o hb q => Heap.SameBut.extBut k b o hb q
/-- whether the pair is free: if not, the zip notes it -/
theorem free_or {f0 : Value} {b : Bool} {Q : Bool → Shared → Prop} (hz : s.heap.get? z = some (zipObj f0 b TI TO)) (mark : OutMark f0)
    (h1 : Q true s) (h2 : ∀ h' b', h'.get? z = some (zipObj f0 b' TI TO) → h'.objs.size = s.heap.objs.size → (∀ c o, c ≠ z → s.heap.get? c = some o → h'.get? c = some o) → Q false { s with heap := h' }) :
    wpAny (model prog w) A (Builtin.SmallTypes.ownedTupleIsFree (.ref z)) Q E s := by
  unfold Builtin.SmallTypes.ownedTupleIsFree
  rcases mark with rfl | ⟨a, rfl⟩
  · exact wpAny_bind (wpAny_field hz rfl (x := .none) rfl (wpAny_pure h1))
  · refine wpAny_bind (wpAny_field hz rfl (x := rawInt a) rfl ?_)
    refine wpAny_bind (alive ?_)
    have ea : ((a : Nat) : Int).toNat = a := rfl
    cases hal : s.heap.get? ((a : Nat) : Int).toNat with
    | none => exact wpAny_pure h1
    | some o =>
      refine wpAny_bind (m := field (.ref z) 1) (wpAny_field hz rfl (x := .bool b) rfl ?_)
      cases b with
      | true => exact wpAny_pure (h2 s.heap true hz rfl fun _ _ _ q => q)
      | false =>
        refine wpAny_bind (m := setField (.ref z) 1 (.bool true)) (wpAny_setField_rec hz (by simp) fun h' e' k' => wpAny_pure ?_)
        exact h2 h' true e' k'.1 (ext_of k')
theorem drawn {it t : Addr} {vs : Array Value} {v : Value} {Q : Value → Shared → Prop} (hit : s.heap.IsTupleIter it t i) (ht : s.heap.IsTuple t vs) (hv : vs[i]? = some v)
    (h : ∀ h', h'.IsTupleIter it t (i + 1) → Heap.SameBut it s.heap h' → Q v { s with heap := h' }) : wpAny (model prog w) A (Builtin.SmallTypes.nextOf (.ref it)) Q E s :=
  wpAny_nextOf_tuple_item hit ht hv h
theorem zip_turn {x y : Value} {Q : Value → Shared → Prop} (ap : Apart z TI TO i1 i2 t1 t2) (st : ZipSt s.heap z TI TO i1 i2 t1 t2 xs ys i) (hx : xs[i]? = some x) (hy : ys[i]? = some y)
    (hQ : ∀ h' tk, ZipSt h' z TI TO i1 i2 t1 t2 xs ys (i + 1) → IsTupOf2 h' s.heap.objs.size x y → h'.objs.size = s.heap.objs.size + 1 →
      (∀ c o, c ≠ z → c ≠ TO → c ≠ i1 → c ≠ i2 → s.heap.get? c = some o → h'.get? c = some o) → Q (.ref s.heap.objs.size) { s with heap := h', toks := tk }) :
    wpAny (model prog w) A (Builtin.«zip.__next__» ⟨[.ref z], []⟩) (fun fin s' => ∃ v, fin = .done (.ret v) ∧ Q v s') E s := by
  obtain ⟨⟨f0, b, hz, mark⟩, hti, ⟨a0, b0, hto⟩, h1, h2, u1, u2⟩ := st
  obtain ⟨hp, g, d, tk0, os⟩ := s
  replace hz : hp.get? z = some (zipObj f0 b TI TO) := hz
  replace hti : IsTupOf2 hp TI (.ref i1) (.ref i2) := hti
  replace hto : IsTupOf2 hp TO a0 b0 := hto
  replace h1 : hp.IsTupleIter i1 t1 i := h1
  replace h2 : hp.IsTupleIter i2 t2 i := h2
  replace u1 : hp.IsTuple t1 xs := u1
  replace u2 : hp.IsTuple t2 ys := u2
  refine wpAny_bind (m := field (.ref z) 2) (wpAny_field hz rfl (x := .bool false) rfl ?_)
  refine wpAny_bind (m := field (.ref z) 3) (wpAny_field hz rfl (x := .ref TI) rfl ?_)
  refine wpAny_bind (wpAny_seqItems hti rfl ?_)
  have lz : z < hp.objs.size := Heap.lt_size hz
  have an := ap
  refine wpAny_bind (free_or hz mark ?_ ?_)
  · rw [if_pos rfl]
    refine wpAny_bind (wpAny_rule (wpAny_bind (wpAny_field hz rfl (x := .ref TO) rfl (wpAny_bind (wpAny_setField_rec hz (by simp) fun g0 z0 k0 => ?_)))))
    replace z0 : g0.get? z = some (zipObj .ellipsis b TI TO) := z0
    replace k0 : Heap.SameBut z hp g0 := k0
    refine wpAny_bind ?_
    simp only [List.zipIdx_cons, List.zipIdx_nil, List.forIn_cons, List.forIn_nil]
    refine wpAny_bind (wpAny_bind (wpAny_onRaise ?_))
    show wpAny _ _ (Builtin.SmallTypes.nextOf (.ref i1) >>= _) _ _ ⟨g0, g, d, tk0, os⟩
    refine wpAny_bind (drawn (s := ⟨g0, g, d, tk0, os⟩) (h1.at fun o q => ext_of k0 _ _ ap.zi1.symm q) (u1.at fun o q => ext_of k0 _ _ ap.zt1.symm q) hx fun g1 n1 k1 => wpAny_pure ?_)
    replace k1 : Heap.SameBut i1 g0 g1 := k1
    have to1 : IsTupOf2 g1 TO a0 b0 := ext_of k1 _ _ ap.TOi1 (ext_of k0 _ _ ap.zTO.symm hto)
    refine wpAny_bind (wpAny_seqItems (s := ⟨g1, g, d, tk0, os⟩) to1 rfl ?_)
    refine wpAny_bind (updateSeq_IsTupOf2 (s := ⟨g1, g, d, tk0, os⟩) to1 fun g2 to2 k2 => ?_)
    replace k2 : Heap.SameBut TO g1 g2 := k2
    replace to2 : IsTupOf2 g2 TO x b0 := to2
    refine wpAny_bind (wpAny_letGo (wpAny_pure ?_))
    refine wpAny_bind (wpAny_bind (wpAny_onRaise ?_))
    show wpAny _ _ (Builtin.SmallTypes.nextOf (.ref i2) >>= _) _ _ ⟨g2, g, d, tk0, os⟩
    refine wpAny_bind (drawn (s := ⟨g2, g, d, tk0, os⟩) (h2.at fun o q => ext_of k2 _ _ ap.TOi2.symm (ext_of k1 _ _ ap.i12.symm (ext_of k0 _ _ ap.zi2.symm q)))
      (u2.at fun o q => ext_of k2 _ _ ap.TOt2.symm (ext_of k1 _ _ ap.t2i1 (ext_of k0 _ _ ap.zt2.symm q))) hy fun g3 n3 k3 => wpAny_pure ?_)
    replace k3 : Heap.SameBut i2 g2 g3 := k3
    have to3 : IsTupOf2 g3 TO x b0 := ext_of k3 _ _ ap.TOi2 to2
    refine wpAny_bind (wpAny_seqItems (s := ⟨g3, g, d, tk0, os⟩) to3 rfl ?_)
    refine wpAny_bind (updateSeq_IsTupOf2 (s := ⟨g3, g, d, tk0, os⟩) to3 fun g4 to4 k4 => ?_)
    replace k4 : Heap.SameBut TO g3 g4 := k4
    replace to4 : IsTupOf2 g4 TO x y := to4
    refine wpAny_bind (wpAny_letGo (wpAny_pure (wpAny_pure ?_)))
    refine wpAny_bind (wpAny_seqItems (s := ⟨g4, g, d, tk0, os⟩) to4 rfl (wpAny_bind (wpAny_newTuple ?_)))
    have z4 : g4.objs.size = hp.objs.size := by rw [k4.1, k3.1, k2.1, k1.1, k0.1]
    have up4 : ∀ c o, c ≠ z → c ≠ TO → c ≠ i1 → c ≠ i2 → hp.get? c = some o → g4.get? c = some o := fun c o cz cT c1 c2 q =>
      ext_of k4 _ _ cT (ext_of k3 _ _ c2 (ext_of k2 _ _ cT (ext_of k1 _ _ c1 (ext_of k0 _ _ cz q))))
    have zz4 : g4.get? z = some (zipObj .ellipsis b TI TO) := ext_of k4 _ _ ap.zTO (ext_of k3 _ _ ap.zi2 (ext_of k2 _ _ ap.zTO (ext_of k1 _ _ ap.zi1 z0)))
    generalize e5 : g4.push { cls := .type "tuple", data := .seq (#[x, y] : Array Value) } = g5
    have up5 : ∀ c o, g4.get? c = some o → g5.get? c = some o := fun c o q => by rw [← e5]; exact Heap.get?_push_of_some _ q
    have tt5 : IsTupOf2 g5 hp.objs.size x y := by rw [← e5, ← z4]; exact Heap.get?_push_size _ rfl
    have z5 : g5.objs.size = hp.objs.size + 1 := by rw [← e5, Heap.size_push, z4]
    refine wpAny_bind ?_
    show wpAny _ _ (Builtin.SmallTypes.ownedTupleHandOut (.ref z) (.ref g4.objs.size)) _ _ _
    unfold Builtin.SmallTypes.ownedTupleHandOut
    have z5' : g5.get? z = some (zipObj .ellipsis b TI TO) := up5 _ _ zz4
    refine wpAny_bind (wpAny_setField_rec z5' (by simp) fun g6 z6 k6 => ?_)
    replace k6 : Heap.SameBut z g5 g6 := k6
    refine wpAny_setField_rec z6 (by simp) fun g7 z7 k7 => ?_
    replace k7 : Heap.SameBut z g6 g7 := k7
    have up7 : ∀ c o, c ≠ z → g4.get? c = some o → g7.get? c = some o := fun c o cz q => ext_of k7 _ _ cz (ext_of k6 _ _ cz (up5 _ _ q))
    have nz : hp.objs.size ≠ z := Nat.ne_of_gt lz
    refine wpAny_pure ⟨_, rfl, ?_⟩
    show Q (.ref g4.objs.size) ⟨g7, g, d, tk0, os⟩
    rw [z4]
    refine hQ g7 tk0 ⟨⟨rawInt g4.objs.size, false, z7, .inr ⟨_, rfl⟩⟩, ?_, ⟨x, y, up7 _ _ ap.zTO.symm to4⟩, ?_, ?_, ?_, ?_⟩ ?_ ?_ ?_
    · exact up7 _ _ ap.zTI.symm (up4 _ _ ap.zTI.symm ap.TITO ap.TIi1 ap.TIi2 hti)
    · exact n1.at fun o q => up7 _ _ ap.zi1.symm (ext_of k4 _ _ ap.TOi1.symm (ext_of k3 _ _ ap.i12 (ext_of k2 _ _ ap.TOi1.symm q)))
    · exact n3.at fun o q => up7 _ _ ap.zi2.symm (ext_of k4 _ _ ap.TOi2.symm q)
    · exact u1.at fun o q => up7 _ _ ap.zt1.symm (up4 _ _ ap.zt1.symm ap.TOt1.symm ap.t1i1 ap.t1i2 q)
    · exact u2.at fun o q => up7 _ _ ap.zt2.symm (up4 _ _ ap.zt2.symm ap.TOt2.symm ap.t2i1 ap.t2i2 q)
    · exact ext_of k7 _ _ nz (ext_of k6 _ _ nz tt5)
    · rw [k7.1, k6.1, z5]
    · exact fun c o cz cT c1 c2 q => up7 _ _ cz (up4 c o cz cT c1 c2 q)
  · intro h0 b' z0 s0 k0
    replace s0 : h0.objs.size = hp.objs.size := s0
    replace k0 : ∀ c o, c ≠ z → hp.get? c = some o → h0.get? c = some o := k0
    rw [if_neg (by decide)]
    refine wpAny_bind ?_
    simp only [List.forIn_toArray, List.forIn_cons, List.forIn_nil]
    refine wpAny_bind (wpAny_bind (wpAny_holding ?_))
    show wpAny _ _ (Builtin.SmallTypes.nextOf (.ref i1) >>= _) _ _ ⟨h0, g, d, tk0, os⟩
    refine wpAny_bind (drawn (s := ⟨h0, g, d, tk0, os⟩) (h1.at fun o q => k0 _ _ ap.zi1.symm q) (u1.at fun o q => k0 _ _ ap.zt1.symm q) hx fun g1 n1 k1 => wpAny_pure ?_)
    replace k1 : Heap.SameBut i1 h0 g1 := k1
    refine wpAny_pure ?_
    refine wpAny_bind (wpAny_bind (wpAny_holding ?_))
    show wpAny _ _ (Builtin.SmallTypes.nextOf (.ref i2) >>= _) _ _ ⟨g1, g, d, tk0, os⟩
    refine wpAny_bind (drawn (s := ⟨g1, g, d, tk0, os⟩) (h2.at fun o q => ext_of k1 _ _ ap.i12.symm (k0 _ _ ap.zi2.symm q)) (u2.at fun o q => ext_of k1 _ _ ap.t2i1 (k0 _ _ ap.zt2.symm q)) hy fun g2 n2 k2 => wpAny_pure ?_)
    replace k2 : Heap.SameBut i2 g1 g2 := k2
    refine wpAny_pure (wpAny_pure ?_)
    refine wpAny_bind (wpAny_newTuple ?_ (by show 2 ≤ sizeLine; decide))
    have z2 : g2.objs.size = hp.objs.size := by rw [k2.1, k1.1, s0]
    have up : ∀ c o, c ≠ z → c ≠ i1 → c ≠ i2 → hp.get? c = some o → (g2.push { cls := .type "tuple", data := .seq (#[x, y] : Array Value) }).get? c = some o := fun c o cz c1 c2 q =>
      Heap.get?_push_of_some _ (ext_of k2 _ _ c2 (ext_of k1 _ _ c1 (k0 _ _ cz q)))
    refine wpAny_pure ⟨_, rfl, ?_⟩
    show Q (.ref g2.objs.size) ⟨g2.push { cls := .type "tuple", data := .seq (#[x, y] : Array Value) }, g, d, tk0, os⟩
    rw [z2]
    refine hQ _ tk0 ⟨⟨f0, b', Heap.get?_push_of_some _ (ext_of k2 _ _ ap.zi2 (ext_of k1 _ _ ap.zi1 z0)), mark⟩, up _ _ ap.zTI.symm ap.TIi1 ap.TIi2 hti, ⟨a0, b0, up _ _ ap.zTO.symm ap.TOi1 ap.TOi2 hto⟩, ?_, ?_, ?_, ?_⟩ ?_ ?_ ?_
    · exact n1.at fun o q => Heap.get?_push_of_some _ (ext_of k2 _ _ ap.i12 q)
    · exact n2.at fun o q => Heap.get?_push_of_some _ q
    · exact u1.at fun o q => up _ _ ap.zt1.symm ap.t1i1 ap.t1i2 q
    · exact u2.at fun o q => up _ _ ap.zt2.symm ap.t2i1 ap.t2i2 q
    · have q := Heap.get?_push_size g2 (o := { cls := .type "tuple", data := .seq (#[x, y] : Array Value) }) rfl
      rw [z2] at q
      exact q
    · rw [Heap.size_push, z2]
    · exact fun c o cz cT c1 c2 q => up c o cz c1 c2 q
end
end EL

/- part E4 -/
/-! for i, x in enumerate(t, start=k) over a tuple; for i, (x, y) in enumerate(zip(t, u), start=k) over two tuples of one length -/
namespace EL
open PySem PySem.Spec PyProof.Rows L2
open PySem.W (Frag)
section
variable {prog : Program} {w : World} {A : Around} {E : Value → Shared → Prop} {s : Shared} {z TI TO i1 i2 t1 t2 : Addr} {xs ys : Array Value} {i : Nat}
theorem zip_over {Q : Fin → Shared → Prop} (hh : A.handled = none) (ap : Apart z TI TO i1 i2 t1 t2) (st : ZipSt s.heap z TI TO i1 i2 t1 t2 xs ys i) (hx : xs[i]? = none)
    (hE : ∀ h' e, (∀ c o, c ≠ z → c ≠ TO → c ≠ i1 → c ≠ i2 → s.heap.get? c = some o → h'.get? c = some o) → (∃ o, h'.get? e = some o ∧ o.cls = .type "StopIteration") → E (.ref e) { s with heap := h' }) :
    wpAny (model prog w) A (Builtin.«zip.__next__» ⟨[.ref z], []⟩) Q E s := by
  obtain ⟨⟨f0, b, hz, mark⟩, hti, ⟨a0, b0, hto⟩, h1, h2, u1, u2⟩ := st
  obtain ⟨hp, g, d, tk0, os⟩ := s
  replace hz : hp.get? z = some (zipObj f0 b TI TO) := hz
  replace h1 : hp.IsTupleIter i1 t1 i := h1
  replace u1 : hp.IsTuple t1 xs := u1
  refine wpAny_bind (m := field (.ref z) 2) (wpAny_field hz rfl (x := .bool false) rfl ?_)
  refine wpAny_bind (m := field (.ref z) 3) (wpAny_field hz rfl (x := .ref TI) rfl ?_)
  refine wpAny_bind (wpAny_seqItems hti rfl ?_)
  refine wpAny_bind (free_or hz mark ?_ ?_)
  · rw [if_pos rfl]
    refine wpAny_bind (wpAny_rule (wpAny_bind (wpAny_field hz rfl (x := .ref TO) rfl (wpAny_bind (wpAny_setField_rec hz (by simp) fun g0 z0 k0 => ?_)))))
    replace z0 : g0.get? z = some (zipObj .ellipsis b TI TO) := z0
    replace k0 : Heap.SameBut z hp g0 := k0
    refine wpAny_bind ?_
    simp only [List.zipIdx_cons, List.zipIdx_nil, List.forIn_cons, List.forIn_nil]
    refine wpAny_bind (wpAny_bind (wpAny_onRaise ?_))
    show wpAny _ _ (Builtin.SmallTypes.nextOf (.ref i1) >>= _) _ _ ⟨g0, g, d, tk0, os⟩
    refine wpAny_bind (wpAny_nextOf_tuple_end (s := ⟨g0, g, d, tk0, os⟩) hh (h1.at fun o q => ext_of k0 _ _ ap.zi1.symm q) (u1.at fun o q => ext_of k0 _ _ ap.zt1.symm q) hx fun g1 e k1 he => ?_)
    replace k1 : Heap.ExtBut i1 g0 g1 := k1
    obtain ⟨oe, he, hc⟩ := he
    replace he : g1.get? e = some oe := he
    have z1 : g1.get? z = some (zipObj .ellipsis b TI TO) := k1 _ _ ap.zi1 z0
    have ez : e ≠ z := by
      rintro rfl
      rw [z1] at he
      cases he
      simp at hc
    refine wpAny_setField_rec (s := ⟨g1, g, d, tk0, os⟩) z1 (by simp) fun g2 _ k2 => ?_
    replace k2 : Heap.SameBut z g1 g2 := k2
    exact hE g2 e (fun c o cz cT c1 c2 q => ext_of k2 _ _ cz (k1 _ _ c1 (ext_of k0 _ _ cz q))) ⟨oe, ext_of k2 _ _ ez he, hc⟩
  · intro h0 b' z0 s0 k0
    replace k0 : ∀ c o, c ≠ z → hp.get? c = some o → h0.get? c = some o := k0
    rw [if_neg (by decide)]
    refine wpAny_bind ?_
    simp only [List.forIn_toArray, List.forIn_cons, List.forIn_nil]
    refine wpAny_bind (wpAny_bind (wpAny_holding ?_))
    show wpAny _ _ (Builtin.SmallTypes.nextOf (.ref i1) >>= _) _ _ ⟨h0, g, d, tk0, os⟩
    refine wpAny_bind (wpAny_nextOf_tuple_end (s := ⟨h0, g, d, tk0, os⟩) hh (h1.at fun o q => k0 _ _ ap.zi1.symm q) (u1.at fun o q => k0 _ _ ap.zt1.symm q) hx fun g1 e k1 he => ?_)
    replace k1 : Heap.ExtBut i1 h0 g1 := k1
    exact hE g1 e (fun c o cz cT c1 c2 q => k1 _ _ c1 (k0 _ _ cz q)) he
theorem zipType {f0 : Value} {b : Bool} (hz : s.heap.get? z = some (zipObj f0 b TI TO)) : s.TypeIs (.ref z) "zip" := ⟨_, hz, rfl⟩
/-- next(z) within a built-in -/
theorem zip_drawn {Q E' : Value → Shared → Prop} (hz : ZipAt s.heap z TI TO) (h : wpAny (model prog w) A.in1 (Builtin.«zip.__next__» ⟨[.ref z], []⟩) (fun fin s' => ∃ v, fin = .done (.ret v) ∧ Q v s') E' s) :
    wpAny (model prog w) A (Builtin.SmallTypes.nextOf (.ref z)) Q E' s := by
  obtain ⟨f0, b, e, _⟩ := hz
  unfold Builtin.SmallTypes.nextOf
  refine wpAny_bind (wpAny_callSpecial?_slot (name := Str.ofString "__next__") (zipType e) F.slot_zip_next (wpAny_call_entry F.slot_zip_next (zipType e) F.entry_zip_next ?_ (F.args_zip_next_1 _)))
  refine wpAny_mono h ?_ (fun _ _ q => q)
  rintro fin s' ⟨v, rfl, q⟩
  exact ⟨v, rfl, wpAny_pure q⟩
theorem zip_itself {Q : Value → Shared → Prop} (hz : ZipAt s.heap z TI TO) (h : Q (.ref z) s) : wpAny (model prog w) A (pyIter (.ref z)) Q E s := by
  obtain ⟨f0, b, e, _⟩ := hz
  exact wpAny_pyIter_slot (zipType e) F.slot_zip_iter (wpAny_call_entry F.slot_zip_iter (zipType e) F.entry_zip_iter (wpAny_pure ⟨_, rfl, "zip", _, zipType e, F.slot_zip_next.lookup, h⟩) (F.args_zip_iter_1 _))
end
/-- enumerate(v, start=k) as a call -/
theorem enum_made {prog : Program} {w : World} {A : Around} {E : Value → Shared → Prop} {s : Shared} {v : Value} {rv : Heap → Value} {f : Heap → Heap} {W : Heap → Prop} {k : Int} {t : Tok} {Q : Value → Shared → Prop}
    (IT : ∀ (prog : Program) (w : World) (A : Around) (E : Value → Shared → Prop) (s : Shared) (Q : Value → Shared → Prop), W s.heap → Q (rv s.heap) { s with heap := f s.heap } → wpAny (model prog w) A (pyIter v) Q E s)
    (h0 : -(2 ^ 63) ≤ k) (h1 : k < 2 ^ 63) (hw : W s.heap)
    (h : Q (.ref (f s.heap).objs.size) { s with heap := (f s.heap).push (enumObj (rv s.heap) k) }) :
    wpAny (model prog w) A (call (.type "enumerate") [v] [(Str.ofString "start", .int k t)]) Q E s := by
  refine callType_newKw F.called_enumerate (by decide) (F.typeCall_enumerate_start _ _) (F.newCall_enumerate_start _ _) (fun obj => F.args_object_init_start obj _ _) F.entry_enumerate_new (meets_enum_kw IT k t (fits_start h0 h1)) ⟨hw, ?_⟩
  exact ⟨⟨_, Heap.get?_push_size _ rfl, rfl⟩, h⟩
/-- the keyword call of a built-in type -/
theorem callType_kw {M : Model} {A : Around} {E : Value → Shared → Prop} {s : Shared} {env : Env} {pos : Pos} {T : String} {e : Expr} {rest : List Expr} {kws : List Keyword} {Q : Value → Shared → Prop}
    (h : wpAny M A (spliced (backTo pos (starEach (e :: rest) env))) (fun vs s1 => wpAny M A (evalAll ((backToKw pos (keywordEach kws env)).map (·.2)))
      (fun us s2 => wpAny M A (call (.type T) vs (((backToKw pos (keywordEach kws env)).filterMap (·.1)).zip us)) Q E s2) E s1) E s)
    (he : starEach (e :: rest) env = (false, eval e env) :: starEach rest env) (hp : (backTo pos (starEach (e :: rest) env)).any (·.1) = false)
    (ha : (backToKw pos (keywordEach kws env)).all (·.1.isSome) = true) (hn : (backToKw pos (keywordEach kws env)).any (·.1.isNone) = false) :
    wpAny M A (callWith pos (.type T) [] (backTo pos (starEach (e :: rest) env)) (backToKw pos (keywordEach kws env))) Q E s := by
  have z := evalArgs_kw2 (f := .type T) (Q := fun a s1 => wpAny M A (call (.type T) a.pos a.kw) Q E s1) ha h he
  unfold callWith
  refine wpAny_bind (wpAny_holding (wpAny_mono z (fun a s1 q => wpAny_bind (wpAny_standAt ?_)) fun _ _ q => q))
  rw [hp, hn]
  simp only [Bool.or_false]
  refine wpAny_bind (wpAny_pure ?_)
  exact wpAny_bind (wpAny_mono q (fun r s2 hr => wpAny_bind (wpAny_holding (wpAny_point (wpAny_pure hr)))) fun _ _ q => q)
end EL

/- part E5 -/
namespace EL
open PySem PySem.Spec PyProof.Rows L2
open PySem.W (Frag)
/-! ### enumerate(zip(t, u), start=k) -/
/-- each turn: a new pair of the two items, a new pair of the count and that pair -/
def Itez (K : Frag) (a b : Addr) (k : Int) : It :=
  ⟨fun i H => ∃ (xs ys : List V) (x y : V), SqT K H a xs ∧ SqT K H b ys ∧ xs[i]? = some x ∧ ys[i]? = some y,
    fun i H v H' => ∃ (T0 T1 : Addr) (x y : V), v = .ref T1 ∧ H T0 = none ∧ H T1 = none ∧ T0 ≠ T1 ∧ H' = upd (upd H T0 (.tup [x, y])) T1 (.tup [.int (k + i), .ref T0]) ∧ (∀ xs, SqT K H a xs → xs[i]? = some x) ∧ ∀ ys, SqT K H b ys → ys[i]? = some y,
    fun i H => ∃ xs ys : List V, SqT K H a xs ∧ SqT K H b ys ∧ xs.length ≤ i⟩
def TurnEz (e z TI TO i1 i2 t1 t2 : Addr) (k : Int) (i : Nat) (h : Heap) : Prop :=
  (∃ old, IsEnum h e z (k + i) old) ∧ ZipAt h z TI TO ∧ IsTupOf2 h TI (.ref i1) (.ref i2) ∧ (∃ a b, IsTupOf2 h TO a b) ∧ h.IsTupleIter i1 t1 i ∧ h.IsTupleIter i2 t2 i
theorem fp_mem {e z TI TO i1 i2 b : Addr} (h : b ∈ [e, z, TI, TO, i1, i2]) : b = e ∨ b = z ∨ b = TI ∨ b = TO ∨ b = i1 ∨ b = i2 := by simpa using h
theorem fpOk_upd {X : Cx} {pins : List (Addr × Obj)} {H : Hp} {b T : Addr} {o : HO} (f : FpOk X pins H b) (h : b ≠ T) : FpOk X pins (upd H T o) b :=
  ⟨by rw [upd_ne h]; exact f.1, f.2⟩
theorem turn_ez {P : Program} {w : World} {K : Frag} {elts : List Expr} {kk : Nat} {tpos : Pos} {e z TI TO i1 i2 t1 t2 : Addr} {k : Int} (ap : Apart z TI TO i1 i2 t1 t2)
    (ne : ∀ b ∈ [z, TI, TO, i1, i2], e ≠ b) (te1 : t1 ≠ e) (te2 : t2 ≠ e) :
    Turn P w K (.Tuple elts kk tpos) (Itez K t1 t2 k) [e, z, TI, TO, i1, i2] e (TurnEz e z TI TO i1 i2 t1 t2 k) where
  mem := by simp
  obj := fun i h st b hb => by
    obtain ⟨⟨old, he⟩, ⟨f0, b0, hz, _⟩, hti, ⟨a1, a2, hto⟩, ⟨o1, q1, _, d1⟩, ⟨o2, q2, _, d2⟩⟩ := st
    rcases fp_mem hb with q | q | q | q | q | q <;> subst q
    · exact ⟨_, he, fun v q => nomatch q⟩
    · exact ⟨_, hz, fun v q => nomatch q⟩
    · exact ⟨_, hti, fun v q => nomatch q⟩
    · exact ⟨_, hto, fun v q => nomatch q⟩
    · exact ⟨o1, q1, fun v q => by rw [d1] at q; cases q⟩
    · exact ⟨o2, q2, fun v q => by rw [d2] at q; cases q⟩
  keep := fun i h h' st kp => by
    obtain ⟨⟨old, he⟩, ⟨f0, b0, hz, m⟩, hti, ⟨a1, a2, hto⟩, h1, h2⟩ := st
    exact ⟨⟨old, kp e (by simp) _ he⟩, ⟨f0, b0, kp z (by simp) _ hz, m⟩, kp TI (by simp) _ hti, ⟨a1, a2, kp TO (by simp) _ hto⟩, h1.at fun o q => kp i1 (by simp) o q, h2.at fun o q => kp i2 (by simp) o q⟩
  item := by
    intro X hP hw hK hc i pins s σ H E I hf st hg
    subst hP hw hK
    obtain ⟨⟨old, he⟩, hz, hti, hto, h1, h2⟩ := st
    obtain ⟨xs, ys, x, y, hqx, hqy, hx, hy⟩ := hg
    obtain ⟨its, rv, p, _⟩ := I.tuple hqx
    obtain ⟨its2, rv2, p2, _⟩ := I.tuple hqy
    obtain ⟨u, hu, ru⟩ := rv.get hx
    obtain ⟨u2, hu2, ru2⟩ := rv2.get hy
    have old_lt : ∀ {b o}, s.heap.get? b = some o → b < s.heap.objs.size := fun q => Heap.lt_size q
    have le : e < s.heap.objs.size := old_lt he
    have typ : s.TypeIs (.ref e) "enumerate" := ⟨_, he, rfl⟩
    have ez : e ≠ z := ne z (by simp)
    unfold pyNext
    refine wpAny_bind (wpAny_attempt (wpAny_callSpecial?_slot (name := Str.ofString "__next__") typ F.slot_enumerate_next (wpAny_call_entry F.slot_enumerate_next typ F.entry_enumerate_next
      (wpAny_mono (enum_turn (R := fun v h1 => v = .ref s.heap.objs.size ∧ ZipSt h1 z TI TO i1 i2 t1 t2 its.toArray its2.toArray (i + 1) ∧ IsTupOf2 h1 s.heap.objs.size u u2 ∧ h1.objs.size = s.heap.objs.size + 1 ∧
          ∀ c o, c ≠ z → c ≠ TO → c ≠ i1 → c ≠ i2 → s.heap.get? c = some o → h1.get? c = some o)
        (Q := fun v s' => wpAny (model X.prog X.w) X.A (letOwnedTupleGo (.Tuple elts kk tpos) (.ref e) v) (fun _ s2 => ∃ x H', Inv X pins σ H' s2 ∧ RelV x v ∧ (Itez X.K t1 t2 k).yld i H x H' ∧ TurnEz e z TI TO i1 i2 t1 t2 k (i + 1) s2.heap ∧ ∀ b ∈ [e, z, TI, TO, i1, i2], H' b = none) E s')
        he (fun Q' E' hq => zip_drawn hz (zip_turn ap ⟨hz, hti, hto, h1, h2, p, p2⟩ (by simpa using hu) (by simpa using hu2) fun h' tk st' t' z' k' => hq _ h' tk ?_ ⟨rfl, st', t', z', k'⟩)) ?_) ?_ (fun _ _ q => q)) (F.args_enumerate_next_1 _))))
    · exact k' e _ ez (ne TO (by simp)) (ne i1 (by simp)) (ne i2 (by simp)) he
    · rintro v g1 g2 tk ⟨rfl, st1, pr, z1, k1⟩ _ eo tp z2 k2
      have lt1 : e < g1.objs.size := by rw [z1]; exact Nat.lt_succ_of_lt le
      refine wpAny_letOwnedTupleGo_enum (s := { s with heap := g2, toks := tk + 1 }) eo fun g3 e3 k3 => ?_
      replace k3 : Heap.SameBut e g2 g3 := k3
      -- the pair of the zip, then the pair of the enumerate
      have I1 : Inv X pins σ (upd H s.heap.objs.size (.tup [x, y])) { s with heap := g1, toks := tk } :=
        I.turnedNew (ch := [z, TO, i1, i2]) (fun c o hc q => k1 c o (fun q' => hc (by simp [q'])) (fun q' => hc (by simp [q'])) (fun q' => hc (by simp [q'])) (fun q' => hc (by simp [q'])) q)
          (fun b hb => hf b (by
            have q : b = z ∨ b = TO ∨ b = i1 ∨ b = i2 := by simpa using hb
            rcases q with q | q | q | q <;> simp [q])) (Nat.le_refl _)
          ⟨by show 2 ≤ sizeLine; decide, [u, u2], .cons ru (.cons ru2 .nil), ⟨_, pr, rfl, _, rfl⟩⟩
      have n1 : e ≠ s.heap.objs.size := Nat.ne_of_lt le
      have T1 : g3.get? g1.objs.size = some { cls := .type "tuple", data := .seq #[.int (k + i) tk, .ref s.heap.objs.size] } := ext_of k3 _ _ (Nat.ne_of_gt lt1) tp
      have I2 : Inv X pins σ (upd (upd H s.heap.objs.size (.tup [x, y])) g1.objs.size (.tup [.int (k + i), .ref s.heap.objs.size])) { s with heap := g3, toks := tk + 1 } :=
        I1.turnedNew (ch := [e]) (fun c o hc q => ext_of k3 _ _ (fun q' => hc (by simp [q'])) (k2 c o (fun q' => hc (by simp [q'])) q))
          (fun b hb => by
            have q : b = e := by simpa using hb
            subst q
            exact fpOk_upd (hf _ (by simp)) n1) (Nat.le_refl _)
          ⟨by show 2 ≤ sizeLine; decide, [.int (k + i) tk, .ref s.heap.objs.size], .cons ⟨_, rfl⟩ (.cons rfl .nil), ⟨_, T1, rfl, _, rfl⟩⟩
      have lz : ∀ b ∈ [e, z, TI, TO, i1, i2], b < s.heap.objs.size := by
        intro b hb
        rcases fp_mem hb with q | q | q | q | q | q <;> subst q
        · exact le
        · exact let ⟨_, _, q, _⟩ := hz; old_lt q
        · exact old_lt hti
        · exact let ⟨_, _, q⟩ := hto; old_lt q
        · exact let ⟨_, q, _⟩ := h1; old_lt q
        · exact let ⟨_, q, _⟩ := h2; old_lt q
      have f0 : H s.heap.objs.size = none := I.hok.fresh (Nat.le_refl _)
      have f1 : H g1.objs.size = none := I.hok.fresh (by rw [z1]; omega)
      refine ⟨.ref g1.objs.size, _, I2, rfl, ⟨s.heap.objs.size, g1.objs.size, x, y, rfl, f0, f1, by rw [z1]; exact Nat.ne_of_lt (Nat.lt_succ_self _), rfl, fun l hl => by rw [I.tuple_inj hl hqx]; exact hx, fun l hl => by rw [I.tuple_inj hl hqy]; exact hy⟩, ⟨⟨.ref s.heap.objs.size, ?_⟩, ?_, ?_, ?_, ?_, ?_⟩, fun b hb => ?_⟩
      · have q : (k + ((i + 1 : Nat) : Int)) = k + i + 1 := by omega
        rw [q]
        exact e3
      · obtain ⟨f, b, q, m⟩ := st1.zip
        exact ⟨f, b, ext_of k3 _ _ ez.symm (k2 _ _ ez.symm q), m⟩
      · exact ext_of k3 _ _ (ne TI (by simp)).symm (k2 _ _ (ne TI (by simp)).symm st1.ti)
      · obtain ⟨a1, a2, q⟩ := st1.to
        exact ⟨a1, a2, ext_of k3 _ _ (ne TO (by simp)).symm (k2 _ _ (ne TO (by simp)).symm q)⟩
      · exact st1.it1.at fun o q => ext_of k3 _ _ (ne i1 (by simp)).symm (k2 _ _ (ne i1 (by simp)).symm q)
      · exact st1.it2.at fun o q => ext_of k3 _ _ (ne i2 (by simp)).symm (k2 _ _ (ne i2 (by simp)).symm q)
      · have q := lz b hb
        rw [upd_ne (by rw [z1]; exact Nat.ne_of_lt (Nat.lt_succ_of_lt q)), upd_ne (Nat.ne_of_lt q)]
        exact (hf b hb).1
    · rintro fin s' ⟨v, rfl, q⟩
      exact ⟨v, rfl, wpAny_pure ⟨v, rfl, q⟩⟩
  done := by
    intro X hP hw hK hc i pins s σ H E I hf st hg
    subst hP hw hK
    obtain ⟨⟨old, he⟩, hz, hti, hto, h1, h2⟩ := st
    obtain ⟨xs, ys, hqx, hqy, hx⟩ := hg
    obtain ⟨its, rv, p, _⟩ := I.tuple hqx
    obtain ⟨its2, rv2, p2, _⟩ := I.tuple hqy
    have l1 := rv.length
    have typ : s.TypeIs (.ref e) "enumerate" := ⟨_, he, rfl⟩
    unfold pyNext
    refine wpAny_bind (wpAny_attempt (wpAny_callSpecial?_slot (name := Str.ofString "__next__") typ F.slot_enumerate_next (wpAny_call_entry F.slot_enumerate_next typ F.entry_enumerate_next ?_ (F.args_enumerate_next_1 _))))
    refine wpAny_bind (m := field (.ref e) 2) (wpAny_field he rfl (x := .ref z) rfl (wpAny_bind (zip_drawn hz ?_)))
    refine zip_over (I.ok.hd hc) ap ⟨hz, hti, hto, h1, h2, p, p2⟩ (by simp; omega) fun h' x k' hx' => ?_
    obtain ⟨o, ho, hcls⟩ := hx'
    refine wpAny_bind (wpAny_isInstance (T := "StopIteration") (b := true) ⟨o, ho, hcls⟩ isSubtype_stop (wpAny_pure ⟨rfl, ?_⟩))
    exact I.turnedL (t' := s.toks) (ch := [z, TO, i1, i2]) (fun c o hc q => k' c o (fun q' => hc (by simp [q'])) (fun q' => hc (by simp [q'])) (fun q' => hc (by simp [q'])) (fun q' => hc (by simp [q'])) q)
      (fun b hb => hf b (by
        have q : b = z ∨ b = TO ∨ b = i1 ∨ b = i2 := by simpa using hb
        rcases q with q | q | q | q <;> simp [q]))
  self := fun A i s Q E st h => let ⟨⟨_, he⟩, _⟩ := st; wpAny_pyIter_enum he h
end EL

/- part E6 -/
namespace EL
open PySem PySem.Spec PyProof.Rows L2
open PySem.W (Frag)
/-- the keyword's constant -/
theorem start_kw {X : Cx} {pos : Pos} {k : Int} {j : Nat} {p kp : Pos} {E : Value → Shared → Prop} {s : Shared} {Q : List Value → Shared → Prop} (h : Q [.int k s.toks] { s with toks := s.toks + 1 }) :
    wpAny (model X.prog X.w) X.A (evalAll ((backToKw pos (keywordEach [⟨some "start", .Constant (.int k) j p, kp⟩] X.env)).map (·.2))) Q E s := by
  show wpAny _ _ (evalAll ((do let v ← eval (.Constant (.int k) j p) X.env; standAt pos; pure v) :: [])) _ _ s
  exact wpAny_evalAll_cons (wpAny_bind (wpAny_Constant_int (wpAny_bind (wpAny_standAt (wpAny_pure (wpAny_evalAll_nil h))))))
theorem zip_apart (N a b : Addr) (ha : a < N) (hb : b < N) : Apart (N + 4) (N + 2) (N + 3) N (N + 1) a b := by
  constructor <;> intro q <;> simp only [Addr] at * <;> omega
def iEz (K : Frag) (k : Int) (ta : TA) : TI := fun σ H R => ta σ H fun vs H1 => ∃ a b xs ys, vs = [.ref a, .ref b] ∧ SqT K H1 a xs ∧ SqT K H1 b ys ∧ R (Itez K a b k) H1
theorem pi_ez {X : Cx} {e e2 : Expr} {ta : TA} {p p2 pos pos2 tpos cp kp : Pos} {elts : List Expr} {kk j : Nat} {k : Int} (hg : Gl X "enumerate") (hm : X.mg "enumerate" = none) (hg2 : Gl X "zip") (hm2 : X.mg "zip" = none) (ha : PA X [e, e2] ta)
    (h0 : -(2 ^ 63) ≤ k) (h1 : k < 2 ^ 63)
    (hs : starEach [e, e2] X.env = (false, eval e X.env) :: starEach [e2] X.env := by rfl) (hpl : (backTo pos2 (starEach [e2] X.env)).any (·.1) = false := by rfl) :
    PI X (.Tuple elts kk tpos) (.Call (.Name "enumerate" p) [.Call (.Name "zip" p2) [e, e2] [] pos2] [⟨some "start", .Constant (.int k) j cp, kp⟩] pos) (iEz X.K k ta) := by
  refine ⟨fun pins s σ H R I h => ?_⟩
  apply wpAny_Call_Name_kw
  refine ld_blt I hg hm boot_enumerate ?_
  refine callType_kw (e := .Call (.Name "zip" p2) [e, e2] [] pos2) (rest := []) ?_ rfl rfl rfl rfl
  show wpAny _ _ (spliced [(false, eval (.Call (.Name "zip" p2) [e, e2] [] pos2) X.env)]) _ _ _
  refine Calls.spliced_cons ?_
  refine Call_ (ld_blt I hg2 hm2 PyProof.Rows.boot_zip (PyProof.Rows.callWith_type1 (thn (ha.run pos2 pins s σ H _ I h) ?_) hs hpl))
  rintro us s1 ⟨vs, H1, I1, r1, a, b, xs, ys, rfl, hqx, hqy, q⟩
  obtain ⟨ua, ub, rfl, ra, rb⟩ := vals2 r1
  cases (show ua = Value.ref a from ra)
  cases (show ub = Value.ref b from rb)
  obtain ⟨its, rv, pa, _⟩ := I1.tuple hqx
  obtain ⟨its2, rv2, pb, _⟩ := I1.tuple hqy
  refine zip_begins2 (begins_tuple a its.toArray) (begins_tuple b its2.toArray) pa pb fun h' hz hti hto hi1 hi2 hsz hk => ?_
  have I2 : Inv X pins σ H1 { s1 with heap := h' } := I1.kept (t' := s1.toks) hk
  refine Calls.spliced_nil (start_kw ?_)
  have za : ZipAt h' (s1.heap.objs.size + 4) (s1.heap.objs.size + 2) (s1.heap.objs.size + 3) := ⟨.none, false, hz, .inl rfl⟩
  refine enum_made (W := fun h => ZipAt h (s1.heap.objs.size + 4) (s1.heap.objs.size + 2) (s1.heap.objs.size + 3)) (rv := fun _ => .ref (s1.heap.objs.size + 4)) (f := fun h => h) (fun prog w A E s Q hw hq => zip_itself hw hq) h0 h1 za ?_
  have he : IsEnum (h'.push (enumObj (.ref (s1.heap.objs.size + 4)) k)) (s1.heap.objs.size + 5) (s1.heap.objs.size + 4) k .none := by
    have z := Heap.get?_push_size h' (o := enumObj (.ref (s1.heap.objs.size + 4)) k) rfl
    rw [hsz] at z
    exact z
  show wpAny _ _ (pyIter (.ref h'.objs.size)) _ _ _
  rw [hsz]
  refine wpAny_pyIter_enum he ?_
  have I3 : Inv X pins σ H1 { s1 with heap := h'.push (enumObj (.ref (s1.heap.objs.size + 4)) k), toks := s1.toks + 1 } := I1.kept fun c o q => Heap.get?_push_of_some _ (hk c o q)
  have up : ∀ c o, h'.get? c = some o → (h'.push (enumObj (.ref (s1.heap.objs.size + 4)) k)).get? c = some o := fun c o q => Heap.get?_push_of_some _ q
  have la : a < s1.heap.objs.size := pa.lt
  have lb : b < s1.heap.objs.size := pb.lt
  refine ⟨s1.heap.objs.size + 5, [s1.heap.objs.size + 5, s1.heap.objs.size + 4, s1.heap.objs.size + 2, s1.heap.objs.size + 3, s1.heap.objs.size, s1.heap.objs.size + 1], _, _, H1, rfl, I3,
    turn_ez (zip_apart s1.heap.objs.size a b la lb) (fun b hb => ?_) ?_ ?_, ⟨⟨.none, ?_⟩, ⟨.none, false, up _ _ hz, .inl rfl⟩, up _ _ hti, ⟨_, _, up _ _ hto⟩, ⟨_, up _ _ hi1, rfl, rfl⟩, ⟨_, up _ _ hi2, rfl, rfl⟩⟩, fun c hc => ?_, q⟩
  · have q : b = s1.heap.objs.size + 4 ∨ b = s1.heap.objs.size + 2 ∨ b = s1.heap.objs.size + 3 ∨ b = s1.heap.objs.size ∨ b = s1.heap.objs.size + 1 := by simpa using hb
    intro z
    simp only [Addr] at *
    omega
  · intro z
    simp only [Addr] at *
    omega
  · intro z
    simp only [Addr] at *
    omega
  · have q : k + ((0 : Nat) : Int) = k := by omega
    rw [q]
    exact he
  · have q := fp_mem hc
    have hle : s1.heap.objs.size ≤ c := by
      simp only [Addr] at *
      omega
    exact I1.fpOk hle (I1.hok.fresh hle)
/-! ### enumerate(t, start=k) -/
def Ites (K : Frag) (a : Addr) (k : Int) : It :=
  ⟨fun i H => ∃ (xs : List V) (x : V), SqT K H a xs ∧ xs[i]? = some x, fun i H v H' => ∃ T x, v = .ref T ∧ H T = none ∧ H' = upd H T (.tup [.int (k + i), x]) ∧ ∀ xs, SqT K H a xs → xs[i]? = some x, fun i H => ∃ xs : List V, SqT K H a xs ∧ xs.length ≤ i⟩
def TurnEs (e it t : Addr) (k : Int) (i : Nat) (h : Heap) : Prop := (∃ old, IsEnum h e it (k + i) old) ∧ h.IsTupleIter it t i
theorem turn_es {P : Program} {w : World} {K : Frag} {elts : List Expr} {kk : Nat} {tpos : Pos} {e it t : Addr} {k : Int} (ne : e ≠ it) : Turn P w K (.Tuple elts kk tpos) (Ites K t k) [e, it] e (TurnEs e it t k) where
  mem := by simp
  obj := fun i h st b hb => by
    obtain ⟨⟨old, he⟩, ⟨o1, q1, _, d1⟩⟩ := st
    have q : b = e ∨ b = it := by simpa using hb
    rcases q with q | q <;> subst q
    · exact ⟨_, he, fun v q => nomatch q⟩
    · exact ⟨o1, q1, fun v q => by rw [d1] at q; cases q⟩
  keep := fun i h h' st kp => by
    obtain ⟨⟨old, he⟩, h1⟩ := st
    exact ⟨⟨old, kp e (by simp) _ he⟩, h1.at fun o q => kp it (by simp) o q⟩
  item := by
    intro X hP hw hK hc i pins s σ H E I hf st hg
    subst hP hw hK
    obtain ⟨⟨old, he⟩, h1⟩ := st
    obtain ⟨xs, x, hqx, hx⟩ := hg
    obtain ⟨its, rv, p, _⟩ := I.tuple hqx
    obtain ⟨u, hu, ru⟩ := rv.get hx
    have le : e < s.heap.objs.size := Heap.lt_size he
    have typ : s.TypeIs (.ref e) "enumerate" := ⟨_, he, rfl⟩
    unfold pyNext
    refine wpAny_bind (wpAny_attempt (wpAny_callSpecial?_slot (name := Str.ofString "__next__") typ F.slot_enumerate_next (wpAny_call_entry F.slot_enumerate_next typ F.entry_enumerate_next
      (wpAny_mono (enum_turn (R := fun v h' => v = u ∧ h'.IsTupleIter it t (i + 1) ∧ Heap.SameBut it s.heap h')
        (Q := fun v s' => wpAny (model X.prog X.w) X.A (letOwnedTupleGo (.Tuple elts kk tpos) (.ref e) v) (fun _ s2 => ∃ x H', Inv X pins σ H' s2 ∧ RelV x v ∧ (Ites X.K t k).yld i H x H' ∧ TurnEs e it t k (i + 1) s2.heap ∧ ∀ b ∈ [e, it], H' b = none) E s')
        he (fun Q' E' hq => wpAny_nextOf_tuple_item h1 p (x := u) (by simpa using hu) fun h' st' k' => hq _ h' s.toks (ext_of k' _ _ ne he) ⟨rfl, st', k'⟩) ?_) ?_ (fun _ _ q => q)) (F.args_enumerate_next_1 _))))
    · rintro v g1 g2 tk ⟨rfl, st1, k1⟩ lt1 eo tp z2 k2
      refine wpAny_letOwnedTupleGo_enum (s := { s with heap := g2, toks := tk + 1 }) eo fun g3 e3 k3 => ?_
      replace k3 : Heap.SameBut e g2 g3 := k3
      have T1 : g3.get? g1.objs.size = some { cls := .type "tuple", data := .seq #[.int (k + i) tk, v] } := ext_of k3 _ _ (Nat.ne_of_gt lt1) tp
      have sz : s.heap.objs.size = g1.objs.size := k1.1.symm
      have I2 : Inv X pins σ (upd H g1.objs.size (.tup [.int (k + i), x])) { s with heap := g3, toks := tk + 1 } :=
        I.turnedNew (ch := [e, it]) (fun c o hc q => ext_of k3 _ _ (fun q' => hc (by simp [q'])) (k2 c o (fun q' => hc (by simp [q'])) (ext_of k1 _ _ (fun q' => hc (by simp [q'])) q)))
          hf (Nat.le_of_eq sz) ⟨by show 2 ≤ sizeLine; decide, [.int (k + i) tk, v], .cons ⟨_, rfl⟩ (.cons ru .nil), ⟨_, T1, rfl, _, rfl⟩⟩
      refine ⟨.ref g1.objs.size, _, I2, rfl, ⟨g1.objs.size, x, rfl, I.hok.fresh (Nat.le_of_eq sz), rfl, fun l hl => by rw [I.tuple_inj hl hqx]; exact hx⟩, ⟨⟨v, ?_⟩, ?_⟩, fun b hb => ?_⟩
      · have q : (k + ((i + 1 : Nat) : Int)) = k + i + 1 := by omega
        rw [q]
        exact e3
      · exact st1.at fun o q => ext_of k3 _ _ ne.symm (k2 _ _ ne.symm q)
      · have q : b < g1.objs.size := by
          have q : b = e ∨ b = it := by simpa using hb
          rcases q with q | q <;> subst q
          · exact lt1
          · exact let ⟨_, q, _⟩ := st1; Heap.lt_size q
        rw [upd_ne (Nat.ne_of_lt q)]
        exact (hf b hb).1
    · rintro fin s' ⟨v, rfl, q⟩
      exact ⟨v, rfl, wpAny_pure ⟨v, rfl, q⟩⟩
  done := by
    intro X hP hw hK hc i pins s σ H E I hf st hg
    subst hP hw hK
    obtain ⟨⟨old, he⟩, h1⟩ := st
    obtain ⟨xs, hqx, hx⟩ := hg
    obtain ⟨its, rv, p, _⟩ := I.tuple hqx
    have l1 := rv.length
    have typ : s.TypeIs (.ref e) "enumerate" := ⟨_, he, rfl⟩
    unfold pyNext
    refine wpAny_bind (wpAny_attempt (wpAny_callSpecial?_slot (name := Str.ofString "__next__") typ F.slot_enumerate_next (wpAny_call_entry F.slot_enumerate_next typ F.entry_enumerate_next ?_ (F.args_enumerate_next_1 _))))
    refine wpAny_bind (m := field (.ref e) 2) (wpAny_field he rfl (x := .ref it) rfl (wpAny_bind ?_))
    refine wpAny_nextOf_tuple_end (I.ok.hd hc) h1 p (by simp; omega) fun h' x k' hx' => ?_
    obtain ⟨o, ho, hcls⟩ := hx'
    refine wpAny_bind (wpAny_isInstance (T := "StopIteration") (b := true) ⟨o, ho, hcls⟩ isSubtype_stop (wpAny_pure ⟨rfl, ?_⟩))
    exact I.turnedL (t' := s.toks) (ch := [it]) (fun c o hc q => k' c o (fun q' => hc (by simp [q'])) q) (fun b hb => hf b (by
      have q : b = it := by simpa using hb
      simp [q]))
  self := fun A i s Q E st h => let ⟨⟨_, he⟩, _⟩ := st; wpAny_pyIter_enum he h
def iEs (K : Frag) (k : Int) (ta : TA) : TI := fun σ H R => ta σ H fun vs H1 => ∃ a xs, vs = [.ref a] ∧ SqT K H1 a xs ∧ R (Ites K a k) H1
theorem pi_es {X : Cx} {e : Expr} {ta : TA} {p pos tpos cp kp : Pos} {elts : List Expr} {kk j : Nat} {k : Int} (hg : Gl X "enumerate") (hm : X.mg "enumerate" = none) (ha : PA X [e] ta) (h0 : -(2 ^ 63) ≤ k) (h1 : k < 2 ^ 63)
    (hs : starEach [e] X.env = (false, eval e X.env) :: starEach [] X.env := by rfl) (hpl : (backTo pos (starEach [e] X.env)).any (·.1) = false := by rfl) :
    PI X (.Tuple elts kk tpos) (.Call (.Name "enumerate" p) [e] [⟨some "start", .Constant (.int k) j cp, kp⟩] pos) (iEs X.K k ta) := by
  refine ⟨fun pins s σ H R I h => ?_⟩
  apply wpAny_Call_Name_kw
  refine ld_blt I hg hm boot_enumerate (callType_kw (thn (ha.run pos pins s σ H _ I h) ?_) hs hpl rfl rfl)
  rintro us s1 ⟨vs, H1, I1, r1, a, xs, rfl, hqx, q⟩
  cases r1 with
  | cons ra rn =>
    cases rn
    cases ra
    obtain ⟨its, rv, pa, _⟩ := I1.tuple hqx
    refine start_kw (enum_begins_start (begins_tuple a its.toArray) pa h0 h1 fun h' he hit hsz hk => wpAny_pyIter_enum he ?_)
    refine ⟨s1.heap.objs.size + 1, [s1.heap.objs.size + 1, s1.heap.objs.size], _, _, H1, rfl, I1.kept (t' := s1.toks + 1) hk, turn_es (Nat.succ_ne_self _), ⟨⟨.none, ?_⟩, ⟨_, hit, rfl, rfl⟩⟩, fun c hc => ?_, q⟩
    · have q : k + ((0 : Nat) : Int) = k := by omega
      rw [q]
      exact he
    · have q : c = s1.heap.objs.size + 1 ∨ c = s1.heap.objs.size := by simpa using hc
      have hle : s1.heap.objs.size ≤ c := by
        simp only [Addr] at *
        omega
      exact I1.fpOk hle (I1.hok.fresh hle)
end EL

/- part E7 -/
/-! enumerate(t) over a tuple; loops over enumerate -/
namespace EL
open PySem PySem.Spec PyProof.Rows L2
open PySem.W (Frag)
theorem tcall_enum_1 (a : Value) : checkTypeCall "enumerate" ⟨[a], []⟩ = pure () := by kernel_rfl
set_option maxHeartbeats 2000000 in
theorem meets_enum_1 {v : Value} {rv : Heap → Value} {f : Heap → Heap} {W : Heap → Prop}
    (IT : ∀ (prog : Program) (w : World) (A : Around) (E : Value → Shared → Prop) (s : Shared) (Q : Value → Shared → Prop), W s.heap → Q (rv s.heap) { s with heap := f s.heap } → wpAny (model prog w) A (pyIter v) Q E s) :
    Meets (Builtin.«enumerate.__new__» ⟨[.type "enumerate", v], []⟩) (fun _ R s => W s.heap ∧ R (.ok (.ret (.ref (f s.heap).objs.size))) { s with heap := (f s.heap).push (enumObj (rv s.heap) 0) }) :=
  .of_wp fun prog w A R s h => by
    obtain ⟨hp, g, d, tk, os⟩ := s
    obtain ⟨h1, h⟩ := h
    have sub := sub_enumerate
    have go : ∀ {A' : Around} {E : Value → Shared → Prop} {Q : Value → Shared → Prop}, Q (rv hp) ⟨f hp, g, d, tk, os⟩ → wpAny (model prog w) A' (pyIter v) Q E ⟨hp, g, d, tk, os⟩ := fun q => IT prog w _ _ ⟨hp, g, d, tk, os⟩ _ h1 q
    wp_walk using go
    refine wpAny_stack_any fun st => wpAny_pure ?_
    split
    · rename_i c _ _ _ _ _
      cases (c == Value.type "enumerate")
      · wp_walk using go
        exact ⟨_, rfl, h⟩
      · wp_walk using go
        exact ⟨_, rfl, h⟩
    · wp_walk using go
      exact ⟨_, rfl, h⟩
theorem enum_begins_1 {prog : Program} {w : World} {A : Around} {E : Value → Shared → Prop} {s : Shared} {v : Value} {o : Obj} {H : Heap → Prop} {Q : Value → Shared → Prop} (B : Begins v o H) (h : H s.heap)
    (q : ∀ h' : Heap, IsEnum h' (s.heap.objs.size + 1) s.heap.objs.size 0 .none → h'.get? s.heap.objs.size = some o → h'.objs.size = s.heap.objs.size + 2 → (∀ (b : Addr) (o : Obj), s.heap.get? b = some o → h'.get? b = some o) → Q (.ref (s.heap.objs.size + 1)) { s with heap := h' }) :
    wpAny (model prog w) A (call (.type "enumerate") [v]) Q E s := by
  refine callType_new F.called_enumerate (by decide) (F.typeCall_enumerate_1 _) (F.newCall_enumerate_1 _) (fun obj => F.args_object_init_2 obj _) F.entry_enumerate_new
    (meets_enum_1 (W := H) (rv := fun h => .ref h.objs.size) (f := fun h => h.push o) fun prog w A E s Q hw hq => B.iter prog w A E s Q hw hq) ⟨h, ?_⟩
  have z : (s.heap.push o).objs.size = s.heap.objs.size + 1 := Heap.size_push ..
  have e1 : IsEnum ((s.heap.push o).push (enumObj (.ref s.heap.objs.size) 0)) (s.heap.objs.size + 1) s.heap.objs.size 0 .none := by
    have y := Heap.get?_push_size (s.heap.push o) (o := enumObj (.ref s.heap.objs.size) 0) rfl
    rw [z] at y
    exact y
  refine ⟨⟨_, Heap.get?_push_size _ rfl, rfl⟩, ?_⟩
  show Q (.ref (s.heap.push o).objs.size) _
  rw [z]
  refine q _ e1 (Heap.get?_push_of_some _ (Heap.get?_push_size _ B.free)) ((Heap.size_push ..).trans (by rw [z])) fun b o' hb => Heap.get?_push_of_some _ (Heap.get?_push_of_some _ hb)
theorem evalAll_nil {M : Model} {A : Around} {E : Value → Shared → Prop} {s : Shared} {Q : List Value → Shared → Prop} (h : Q [] s) : wpAny M A (evalAll []) Q E s := wpAny_pure h
def iE1 (K : Frag) (ta : TA) : TI := fun σ H R => ta σ H fun vs H1 => ∃ a xs, vs = [.ref a] ∧ SqT K H1 a xs ∧ R (Ites K a 0) H1
theorem pi_e1 {X : Cx} {e : Expr} {ta : TA} {p pos tpos : Pos} {elts : List Expr} {kk : Nat} (hg : Gl X "enumerate") (hm : X.mg "enumerate" = none) (ha : PA X [e] ta)
    (hs : starEach [e] X.env = (false, eval e X.env) :: starEach [] X.env := by rfl) (hpl : (backTo pos (starEach [e] X.env)).any (·.1) = false := by rfl) :
    PI X (.Tuple elts kk tpos) (.Call (.Name "enumerate" p) [e] [] pos) (iE1 X.K ta) := by
  refine ⟨fun pins s σ H R I h => ?_⟩
  apply wpAny_Call_Name_kw
  refine ld_blt I hg hm boot_enumerate (callType_kw (thn (ha.run pos pins s σ H _ I h) ?_) hs hpl rfl rfl)
  rintro us s1 ⟨vs, H1, I1, r1, a, xs, rfl, hqx, q⟩
  cases r1 with
  | cons ra rn =>
    cases rn
    cases ra
    obtain ⟨its, rv, pa, _⟩ := I1.tuple hqx
    refine evalAll_nil (enum_begins_1 (begins_tuple a its.toArray) pa fun h' he hit hsz hk => wpAny_pyIter_enum he ?_)
    refine ⟨s1.heap.objs.size + 1, [s1.heap.objs.size + 1, s1.heap.objs.size], _, _, H1, rfl, I1.kept (t' := s1.toks) hk, turn_es (Nat.succ_ne_self _), ⟨⟨.none, ?_⟩, ⟨_, hit, rfl, rfl⟩⟩, fun c hc => ?_, q⟩
    · exact he
    · have q : c = s1.heap.objs.size + 1 ∨ c = s1.heap.objs.size := by simpa using hc
      have hle : s1.heap.objs.size ≤ c := by
        simp only [Addr] at *
        omega
      exact I1.fpOk hle (I1.hok.fresh hle)
/-! ### loops over them -/
/-- a turn of enumerate(t, start=k) -/
def YEs (k : Int) (xs : List V) : Nat → Hp → V → Hp → Prop := fun i H v H' => ∃ T x, v = V.ref T ∧ H T = none ∧ H' = upd H T (.tup [.int (k + i), x]) ∧ xs[i]? = some x
theorem walk_es {K : Frag} {a : Addr} {k : Int} {xs : List V} : Walk (Ites K a k) xs.length (fun H => SqT K H a xs) (YEs k xs) :=
  ⟨fun i H hi h => ⟨xs, xs[i], h, List.getElem?_eq_getElem hi⟩, fun H h => ⟨xs, h, Nat.le_refl _⟩, fun i H x H' hi h ⟨T, y, e, hT, hH, hy⟩ => ⟨T, y, e, hT, hH, hy xs h⟩⟩
/-- a turn of enumerate(zip(t, u), start=k) -/
def YEz (k : Int) (xs ys : List V) : Nat → Hp → V → Hp → Prop := fun i H v H' => ∃ T0 T1 x y, v = V.ref T1 ∧ H T0 = none ∧ H T1 = none ∧ T0 ≠ T1 ∧ H' = upd (upd H T0 (.tup [x, y])) T1 (.tup [.int (k + i), .ref T0]) ∧ xs[i]? = some x ∧ ys[i]? = some y
theorem walk_ez {K : Frag} {a b : Addr} {k : Int} {xs ys : List V} (hl : xs.length = ys.length) : Walk (Itez K a b k) xs.length (fun H => SqT K H a xs ∧ SqT K H b ys) (YEz k xs ys) :=
  ⟨fun i H hi h => ⟨xs, ys, xs[i], ys[i], h.1, h.2, List.getElem?_eq_getElem hi, List.getElem?_eq_getElem (hl ▸ hi)⟩, fun H h => ⟨xs, ys, h.1, h.2, Nat.le_refl _⟩,
   fun i H x H' hi h ⟨T0, T1, y, z, e, h0, h1, ne, hH, hy, hz⟩ => ⟨T0, T1, y, z, e, h0, h1, ne, hH, hy xs h.1, hz ys h.2⟩⟩
end EL

/- part U -/
/-! Operators by the values that they meet; how a reading goes on -/
namespace EL
open PySem PySem.Spec PyProof.Rows L2
open PySem.W (Frag)
section
variable {X : Cx}
/-! ### rules that take what comes -/
theorem PI.alt {tg e : Expr} {w1 w2 : TI} (h1 : PI X tg e w1) (h2 : PI X tg e w2) : PI X tg e (fun σ H R => w1 σ H R ∨ w2 σ H R) :=
  ⟨fun pins s σ H R I h => h.elim (h1.run pins s σ H R I) (h2.run pins s σ H R I)⟩
theorem get_list : PGet X (rIxL X.K) := by
  rintro pins s σ H o i ov iv Q I ro ri ⟨p, xs, k, v, rfl, rfl, hq, hv, q⟩
  cases ro
  obtain ⟨t, rfl⟩ := ri
  obtain ⟨its, r, pl, hz⟩ := I.list hq
  obtain ⟨j, h1, h2, h3, h4, h5⟩ := atI_get hv
  obtain ⟨u, hu, ru⟩ := r.get h2
  have hl := r.length
  have hn := line63
  by_cases h0 : 0 ≤ k
  · have hj : k.toNat = j := by
      rw [seqIndex_of h0 h5] at h1
      exact Option.some.inj h1
    exact wpAny_getItem_list pl.isList h0 (by omega) (by rw [hj]; simpa using hu) ⟨v, H, I, ru, q⟩
  · have hj : (k + (its.toArray.size : Int)).toNat = j := by
      rw [seqIndex_neg (by omega) h4] at h1
      rw [List.size_toArray, ← hl]
      exact Option.some.inj h1
    exact wpAny_getItem_list_neg pl.isList (by omega) (by rw [List.size_toArray] <;> omega) (by omega) (by rw [hj]; simpa using hu) ⟨v, H, I, ru, q⟩
abbrev rAddI : R2 := rI0 fun i j => .int (i + j)
def rAdd (K : Frag) : R2 := fun x y H Q => rAddI x y H Q ∨ rCat x y H Q ∨ rCatA K x y H Q
theorem u_add : OpR X (binaryOp .Add) (rAdd X.K) := op_add.or (op_cat.or op_catA)
def rMul : R2 := fun x y H Q => rI CMul (fun i j => .int (i * j)) x y H Q ∨ rRep x y H Q
theorem u_mul : OpR X (binaryOp .Mult) rMul := op_mul.or op_rep
def rEqU (K : Frag) : R2 := fun x y H Q => rEq x y H Q ∨ rEqD K x y H Q
def rNeU (K : Frag) : R2 := fun x y H Q => rNe x y H Q ∨ rNeD K x y H Q
theorem u_eq (hu : X.A.units + 64 < cLine) : OpR X (compareOp .Eq) (rEqU X.K) := op_eq.or (op_eqD hu)
theorem u_ne (hu : X.A.units + 64 < cLine) : OpR X (compareOp .NotEq) (rNeU X.K) := op_ne.or (op_neD hu)
abbrev rIsNone : R2 := fun x y H Q => y = .non ∧ Q (.bl (decide (x = .non))) H
abbrev rNotNone : R2 := fun x y H Q => y = .non ∧ Q (.bl (!decide (x = .non))) H
/-- x is True, for any x that is no bool, too -/
abbrev rIsTrue : R2 := rIsB
theorem op_notBI {X : Cx} : OpR X (compareOp .IsNot) (fun x y H Q => ∃ i b, x = .int i ∧ y = .bl b ∧ Q (.bl true) H) := by
  rintro pins s σ H x y v u Q I rx ry ⟨i, b, rfl, rfl, q⟩
  obtain ⟨t, rfl⟩ := rx
  cases ry
  have e : (Value.int i t == Value.bool b) = false := by rfl
  exact wpAny_pure ⟨.bl true, H, I, by rw [e]; rfl, q⟩
theorem op_isBI {X : Cx} : OpR X (compareOp .Is) (fun x y H Q => ∃ i b, x = .int i ∧ y = .bl b ∧ Q (.bl false) H) := by
  rintro pins s σ H x y v u Q I rx ry ⟨i, b, rfl, rfl, q⟩
  obtain ⟨t, rfl⟩ := rx
  cases ry
  have e : (Value.int i t == Value.bool b) = false := by rfl
  exact wpAny_pure ⟨.bl false, H, I, by rw [e]; rfl, q⟩
def rIsU : R2 := fun x y H Q => rIsNone x y H Q ∨ rIsB x y H Q ∨ ∃ i b, x = .int i ∧ y = .bl b ∧ Q (.bl false) H
def rNotU : R2 := fun x y H Q => rNotNone x y H Q ∨ rNotB x y H Q ∨ ∃ i b, x = .int i ∧ y = .bl b ∧ Q (.bl true) H
theorem u_is : OpR X (compareOp .Is) rIsU := op_isN.or (op_isBl.or op_isBI)
theorem u_isnot : OpR X (compareOp .IsNot) rNotU := op_notN.or (op_notBl.or op_notBI)
theorem u_in : OpR X (compareOp .In) (rIn X.K false) := op_in_seq
theorem u_notin : OpR X (compareOp .NotIn) (rIn X.K true) := op_notIn_seq
abbrev rLen (K : Frag) : List V → Hp → VK → Prop := fun xs H Q => ∃ p ys, xs = [.ref p] ∧ (SqL K H p ys ∨ SqT K H p ys) ∧ Q (.int ys.length) H
theorem u_len : CallR X (.builtin "len") (rLen X.K) := call_len_seq
def rIsiU (K : Frag) : List V → Hp → VK → Prop := fun xs H Q => rIsi K xs H Q ∨ rIsiT K xs H Q
theorem u_isi : CallR X (.builtin "isinstance") (rIsiU X.K) := call_isi.or call_isiT
abbrev rInt : List V → Hp → VK → Prop := fun xs H Q => (∃ i, xs = [.int i] ∧ Q (.int i) H) ∨ ∃ k, xs = [.bl k] ∧ Q (.int (if k then 1 else 0)) H
theorem u_int : CallR X (.type "int") rInt := call_int1
abbrev rList (K : Frag) : List V → Hp → VK → Prop := fun xs H Q => ∃ p ys, xs = [.ref p] ∧ (SqL K H p ys ∨ SqT K H p ys) ∧ ∀ l, H l = none → Q (.ref l) (upd H l (.lst ys))
theorem u_list : CallR X (.type "list") (rList X.K) := call_list_of
abbrev rTuple (K : Frag) : List V → Hp → VK → Prop := fun xs H Q => ∃ p ys, xs = [.ref p] ∧ ((SqL K H p ys ∧ ∀ l, H l = none → Q (.ref l) (upd H l (.tup ys))) ∨ (SqT K H p ys ∧ Q (.ref p) H))
theorem u_tuple : CallR X (.type "tuple") (rTuple X.K) := call_tuple_of
def rSlice (K : Frag) : V → Option Int → Option Int → Hp → VK → Prop := fun x lo hi H Q => rSlL K x lo hi H Q ∨ rSlA K x lo hi H Q
theorem u_slice : SlR X (rSlice X.K) := sl_list.or sl_tupA
def iSeq (K : Frag) (tl : TE) : TI := fun σ H R => iList K tl σ H R ∨ iTup K tl σ H R
theorem u_iter {tg l : Expr} {tl : TE} (hl : PE X l tl) : PI X tg l (iSeq X.K tl) := PI.alt (pi_list hl) (pi_tup hl)
theorem u_min (hc : X.calm = true) : CallR X (.builtin "min") (fun xs H Q => (∃ i j, xs = [.int i, .int j] ∧ Q (.int (if j < i then j else i)) H) ∨ rMin X.K xs H Q) := (call_min2 hc).or (cr_min hc)
theorem u_max (hc : X.calm = true) : CallR X (.builtin "max") (fun xs H Q => (∃ i j, xs = [.int i, .int j] ∧ Q (.int (if j > i then j else i)) H) ∨ rMax X.K xs H Q) := (call_max2 hc).or (cr_max hc)
end
/-! ### what stays: all but the bag at b -/
/-- everything else stays -/
def Kp (b : Addr) (H H' : Hp) : Prop := ∀ a o, a ≠ b → H a = some o → H' a = some o
theorem Kp.refl (b : Addr) (H : Hp) : Kp b H H := fun _ _ _ h => h
theorem Kp.trans {b : Addr} {H H1 H2 : Hp} (p : Kp b H H1) (q : Kp b H1 H2) : Kp b H H2 := fun a o n h => q a o n (p a o n h)
theorem Kp.new {b p : Addr} {H H1 : Hp} {o : HO} (k : Kp b H H1) (h : H1 p = none) : Kp b H (upd H1 p o) := fun a u n e => by
  have q := k a u n e
  rw [upd_ne (ne_of_none q h)]
  exact q
/-- an object that is new since H may change -/
theorem Kp.mut {b p : Addr} {H H1 : Hp} {o : HO} (k : Kp b H H1) (h : H p = none) : Kp b H (upd H1 p o) := fun a u n e => by
  rw [upd_ne (ne_of_none e h)]
  exact k a u n e
theorem Kp.bag {b : Addr} {H H1 : Hp} {o : HO} (k : Kp b H H1) : Kp b H (upd H1 b o) := fun a u n e => by
  rw [upd_ne n]
  exact k a u n e
theorem Kp.free {b p : Addr} {H H1 : Hp} (k : Kp b H H1) (h : H1 p = none) (n : p ≠ b) : H p = none := by
  cases q : H p with
  | none => rfl
  | some o =>
    rw [k p o n q] at h
    cases h
theorem same_kp {b : Addr} {H H' : Hp} (s : Same H H') : Kp b H H' := fun a o _ h => s a o h
/-! ### the way on, construct by construct -/
section
variable {σ : L2.St} {H : Hp} {Q : VK} {K : Frag}
theorem n_add {i j : Int} (q : Q (.int (i + j)) H) : rAdd K (.int i) (.int j) H Q := .inl ⟨i, j, rfl, rfl, q⟩
theorem n_cat {l m : Addr} {xs ys : List V} (h1 : H l = some (.lst xs)) (h2 : H m = some (.lst ys)) (z : xs.length + ys.length ≤ sizeLine) (q : ∀ p, H p = none → Q (.ref p) (upd H p (.lst (xs ++ ys)))) : rAdd K (.ref l) (.ref m) H Q :=
  .inr (.inl ⟨l, m, xs, ys, rfl, rfl, h1, h2, z, q⟩)
theorem n_mul {i j : Int} (c : CMul i j) (q : Q (.int (i * j)) H) : rMul (.int i) (.int j) H Q := .inl ⟨i, j, rfl, rfl, c, q⟩
theorem n_eq {x y : V} (s : scal x y = true) (q : Q (.bl (decide (x = y))) H) : rEqU K x y H Q := .inl ⟨s, q⟩
theorem n_ne {x y : V} (s : scal x y = true) (q : Q (.bl (!decide (x = y))) H) : rNeU K x y H Q := .inl ⟨s, q⟩
theorem n_eqD {x y : V} {d e : PyData} (hd : Dp K H x d) (he : Dp K H y e) (sd : SeqAt.shaped d = true) (se : SeqAt.shaped e = true) (q : Q (.bl (PyData.eqv d e)) H) : rEqU K x y H Q := .inr ⟨d, e, hd, he, sd, se, q⟩
theorem n_neD {x y : V} {d e : PyData} (hd : Dp K H x d) (he : Dp K H y e) (sd : SeqAt.shaped d = true) (se : SeqAt.shaped e = true) (q : Q (.bl (!PyData.eqv d e)) H) : rNeU K x y H Q := .inr ⟨d, e, hd, he, sd, se, q⟩
theorem n_isi {x : V} {n m : String} {b : Bool} (ty : TyX K H x (.type n)) (h : kitB n m = some b) (q : Q (.bl b) H) : rIsiU K [x, .ty m] H Q := .inl ⟨x, .ty m, _, _, b, rfl, .ty m, ty, kit_ty h, q⟩
theorem n_isiX {x : V} {t : Value} {m : String} {b : Bool} (ty : TyX K H x t) (h : PySem.W.kitOne K t (.type m) = some b) (q : Q (.bl b) H) : rIsiU K [x, .ty m] H Q := .inl ⟨x, .ty m, _, _, b, rfl, .ty m, ty, h, q⟩
theorem n_len {p : Addr} {ys : List V} (h : SqL K H p ys ∨ SqT K H p ys) (q : Q (.int ys.length) H) : rLen K [.ref p] H Q := ⟨p, ys, rfl, h, q⟩
theorem n_int {i : Int} (q : Q (.int i) H) : rInt [.int i] H Q := .inl ⟨i, rfl, q⟩
theorem n_ib {k : Bool} (q : Q (.int (if k then 1 else 0)) H) : rInt [.bl k] H Q := .inr ⟨k, rfl, q⟩
theorem n_ixL {p : Addr} {xs : List V} {i : Int} {v : V} (h : SqL K H p xs) (hi : atI xs i = some v) (q : Q v H) : rIx K (.ref p) (.int i) H Q := .inl ⟨p, xs, i, v, rfl, rfl, h, hi, q⟩
theorem n_ixT {p : Addr} {xs : List V} {i : Int} {v : V} (h : SqT K H p xs) (hi : atI xs i = some v) (q : Q v H) : rIx K (.ref p) (.int i) H Q := .inr (.inl ⟨p, xs, i, v, rfl, rfl, h, hi, q⟩)
theorem n_inT {x : V} {p : Addr} {xs : List V} (h : H p = some (.tup xs)) (f1 : flatV x = true) (f2 : xs.all flatV = true) (q : Q (.bl (inV x xs)) H) : rIn K false x (.ref p) H Q := ⟨p, xs, rfl, .inr (SqT.of h), f1, f2, q⟩
theorem n_inL {x : V} {p : Addr} {xs : List V} (h : H p = some (.lst xs)) (f1 : flatV x = true) (f2 : xs.all flatV = true) (q : Q (.bl (inV x xs)) H) : rIn K false x (.ref p) H Q := ⟨p, xs, rfl, .inl (SqL.of h), f1, f2, q⟩
theorem n_isN {x : V} (q : Q (.bl (decide (x = .non))) H) : rIsU x .non H Q := .inl ⟨rfl, q⟩
theorem n_notN {x : V} (q : Q (.bl (!decide (x = .non))) H) : rNotU x .non H Q := .inl ⟨rfl, q⟩
theorem n_isB {a b : Bool} (q : Q (.bl (decide (a = b))) H) : rIsU (.bl a) (.bl b) H Q := .inr (.inl ⟨a, b, rfl, rfl, q⟩)
theorem n_isBI {i : Int} {b : Bool} (q : Q (.bl false) H) : rIsU (.int i) (.bl b) H Q := .inr (.inr ⟨i, b, rfl, rfl, q⟩)
theorem n_notB {a b : Bool} (q : Q (.bl (!decide (a = b))) H) : rNotU (.bl a) (.bl b) H Q := .inr (.inl ⟨a, b, rfl, rfl, q⟩)
theorem n_notBI {i : Int} {b : Bool} (q : Q (.bl true) H) : rNotU (.int i) (.bl b) H Q := .inr (.inr ⟨i, b, rfl, rfl, q⟩)
end
end EL

/- part V -/
/-! the administrative steps of a reading -/
namespace EL
open PySem PySem.Spec PyProof.Rows L2
open PySem.W (Frag)
section
variable {σ : L2.St} {H : Hp} {Q : VK} {K : Frag} {i : Nat} {v : V} {D : Ends} {ta tb te tc : TE} {t u t1 t2 : TS} {c c2 : TT} {tl tr : TA} {g : TG}
theorem a_var (h : σ[i]? = some (some v)) (q : Q v H) : tVar i σ H Q := ⟨v, h, q⟩
theorem a_c (q : Q v H) : tC v σ H Q := q
theorem a_op {r : R2} (q : ta σ H fun x H1 => tb σ H1 fun y H2 => r x y H2 Q) : tOp r ta tb σ H Q := q
theorem a_un {r : V → Hp → VK → Prop} (q : ta σ H fun x H1 => r x H1 Q) : tUn r ta σ H Q := q
theorem a_U {j : Int} {f : Int → V} (q : Q (f j) H) : rU f (.int j) H Q := ⟨j, rfl, q⟩
theorem a_nil {R : List V → Hp → Prop} (q : R [] H) : tNil σ H R := q
theorem a_cons {R : List V → Hp → Prop} (q : te σ H fun x H1 => tl σ H1 fun xs H2 => R (x :: xs) H2) : tCons te tl σ H R := q
theorem a_cb {r : List V → Hp → VK → Prop} (q : tl σ H fun vs H1 => r vs H1 Q) : tCB r tl σ H Q := q
theorem a_call {sp : Sp} {E : XK} (q : tl σ H fun vs H1 => sp vs H1 Q E) : tCall sp [] E tl σ H Q := by
  show tl σ H fun vs H1 => sp (vs ++ []) H1 Q E
  simpa only [List.append_nil] using q
theorem a_I0 {f : Int → Int → V} {a b : Int} (q : Q (f a b) H) : rI0 f (.int a) (.int b) H Q := ⟨a, b, rfl, rfl, q⟩
theorem a_I {C : Int → Int → Prop} {f : Int → Int → V} {a b : Int} (hc : C a b) (q : Q (f a b) H) : rI C f (.int a) (.int b) H Q := ⟨a, b, rfl, rfl, hc, q⟩
theorem a_seq (q : t { D with nx := u D } σ H) : tSeq t u D σ H := q
theorem a_asg (q : te σ H fun x H1 => g x σ H1 D.nx) : tAsg te g D σ H := q
theorem a_sasg (q : te σ H fun x H1 => g x σ H1 (u D)) : tSeq (tAsg te g) u D σ H := q
theorem a_gn {R : L2.St → Hp → Prop} (q : R (σ.set i (some v)) H) : gName i v σ H R := q
theorem a_drop (q : te σ H fun _ H1 => D.nx σ H1) : tDrop te D σ H := q
theorem a_sdrop (q : te σ H fun _ H1 => u D σ H1) : tSeq (tDrop te) u D σ H := q
theorem a_ret (q : te σ H D.rt) : tRet te D σ H := q
theorem a_if (q : c σ H fun b H1 => if b = true then t1 D σ H1 else t2 D σ H1) : tIfS c t1 t2 D σ H := q
theorem a_next (q : D.nx σ H) : tNext D σ H := q
theorem a_nx {f k1 k2 : L2.St → Hp → Prop} {r : VK} (q : f σ H) : (Ends.mk f r k1 k2).nx σ H := q
theorem a_rt {f k1 k2 : L2.St → Hp → Prop} {r : VK} (q : r v H) : (Ends.mk f r k1 k2).rt v H := q
theorem a_test {R : Bool → Hp → Prop} (q : te σ H fun x H' => ∃ k, x = .bl k ∧ R k H') : tTest te σ H R := q
theorem a_B {R : Bool → Hp → Prop} (q : te σ H fun x H' => ∃ k, x = .bl k ∧ R k H') : tB te σ H R := q
theorem a_bl {R : Bool → Prop} {b : Bool} (q : R b) : ∃ k, V.bl b = V.bl k ∧ R k := ⟨b, rfl, q⟩
theorem a_and {R : Bool → Hp → Prop} (q : c σ H fun b H1 => if b = true then c2 σ H1 R else R false H1) : tAnd c c2 σ H R := q
theorem a_or {R : Bool → Hp → Prop} (q : c σ H fun b H1 => if b = true then R true H1 else c2 σ H1 R) : tOr c c2 σ H R := q
theorem a_not {R : Bool → Hp → Prop} (q : c σ H fun b H1 => R (!b) H1) : tNot c σ H R := q
theorem a_andV (q : ta σ H fun x H1 => ∃ b, x = .bl b ∧ if b = true then tb σ H1 Q else Q (.bl false) H1) : tAndV ta tb σ H Q := q
theorem a_orV (q : ta σ H fun x H1 => ∃ b, x = .bl b ∧ if b = true then Q (.bl true) H1 else tb σ H1 Q) : tOrV ta tb σ H Q := q
theorem a_notV (q : ta σ H fun x H1 => ∃ b, x = .bl b ∧ Q (.bl (!b)) H1) : tNotV ta σ H Q := q
theorem a_ifx (q : c σ H fun b H1 => if b = true then ta σ H1 Q else tb σ H1 Q) : tIf c ta tb σ H Q := q
theorem a_chain {r r' : R2} (q : ta σ H fun x H1 => tb σ H1 fun y H2 => r x y H2 fun z H3 => ∃ k, z = .bl k ∧ (if k = true then tc σ H3 fun w' H4 => r' y w' H4 Q else Q (.bl false) H3)) : tChain r r' ta tb tc σ H Q := q
theorem a_T {A B : Prop} (q : A) : if true = true then A else B := by rw [if_pos rfl]; exact q
theorem a_F {A B : Prop} (q : B) : if false = true then A else B := by rw [if_neg Bool.false_ne_true]; exact q
theorem a_nT {A B : Prop} (q : B) : if (!true) = true then A else B := q
theorem a_nF {A B : Prop} (q : A) : if (!false) = true then A else B := q
theorem a_fld {tv : TE} {f : Str} (q : tv σ H fun y H1 => ta σ H1 fun x H2 => ∃ a C dx fs, x = .ref a ∧ H2 a = some (.ins C dx fs) ∧ Cls K C ∧ NoAttr K C f ∧ fs.length < 1000 ∧ D.nx σ (upd H2 a (.ins C dx (putF f y fs)))) : sFld K ta tv f D σ H := q
theorem a_getF {f : Str} (q : ta σ H fun x H1 => ∃ a C dx fs v, x = .ref a ∧ H1 a = some (.ins C dx fs) ∧ Cls K C ∧ NoAttr K C f ∧ List.lookup f fs = some v ∧ Q v H1) : tFld K ta f σ H Q := q
theorem a_tup {es : TA} (q : es σ H fun xs H1 => xs.length ≤ sizeLine ∧ ∀ p, H1 p = none → Q (.ref p) (upd H1 p (.tup xs))) : tTup es σ H Q := q
theorem a_lst {es : TA} (q : es σ H fun xs H1 => xs.length ≤ sizeLine ∧ ∀ p, H1 p = none → Q (.ref p) (upd H1 p (.lst xs))) : tLst es σ H Q := q
theorem a_ntup {xs : List V} (z : xs.length ≤ sizeLine) (q : ∀ p, H p = none → Q (.ref p) (upd H p (.tup xs))) : xs.length ≤ sizeLine ∧ ∀ p, H p = none → Q (.ref p) (upd H p (.tup xs)) := ⟨z, q⟩
theorem a_nlst {xs : List V} (z : xs.length ≤ sizeLine) (q : ∀ p, H p = none → Q (.ref p) (upd H p (.lst xs))) : xs.length ≤ sizeLine ∧ ∀ p, H p = none → Q (.ref p) (upd H p (.lst xs)) := ⟨z, q⟩
theorem a_sub {to ti : TE} {ts : TSet} {R : L2.St → Hp → Prop} (q : to σ H fun o H1 => ti σ H1 fun j H2 => ts o j v H2 fun H3 => R σ H3) : gSub to ti ts v σ H R := q
theorem a_set {p : Addr} {xs : List V} {k : Int} {j : Nat} {R : Hp → Prop} (h : H p = some (.lst xs)) (hj : ixN xs.length k = some j) (q : R (upd H p (.lst (xs.set j v)))) : rSetL (.ref p) (.int k) v H R := ⟨p, xs, k, j, rfl, rfl, h, hj, q⟩
theorem a_augS {to ti te : TE} {tget : V → V → Hp → VK → Prop} {tip : TIp} {ts : TSet} (q : to σ H fun o H1 => ti σ H1 fun j H2 => tget o j H2 fun x H3 => te σ H3 fun y H4 => tip x y H4 fun z H5 => ts o j z H5 fun H6 => D.nx σ H6) :
    tAugS to ti te tget tip ts D σ H := q
theorem a_saugS {to ti te : TE} {tget : V → V → Hp → VK → Prop} {tip : TIp} {ts : TSet} (q : to σ H fun o H1 => ti σ H1 fun j H2 => tget o j H2 fun x H3 => te σ H3 fun y H4 => tip x y H4 fun z H5 => ts o j z H5 fun H6 => u D σ H6) :
    tSeq (tAugS to ti te tget tip ts) u D σ H := q
theorem a_getL {p : Addr} {xs : List V} {k : Int} (h : SqL K H p xs) (hk : atI xs k = some v) (q : Q v H) : rIxL K (.ref p) (.int k) H Q := ⟨p, xs, k, v, rfl, rfl, h, hk, q⟩
theorem a_ip {f : Int → Int → Int} {a b : Int} (q : Q (.int (f a b)) H) : ipI f (.int a) (.int b) H Q := ⟨a, b, rfl, rfl, q⟩
theorem a_aug {ti : TIp} {x : V} (h : σ[i]? = some (some x)) (q : te σ H fun y H1 => ti x y H1 fun z H2 => D.nx (σ.set i (some z)) H2) : tAug i te ti D σ H := ⟨x, h, q⟩
theorem a_saug {ti : TIp} {x : V} (h : σ[i]? = some (some x)) (q : te σ H fun y H1 => ti x y H1 fun z H2 => u D (σ.set i (some z)) H2) : tSeq (tAug i te ti) u D σ H := ⟨x, h, q⟩
theorem a_par {j : Nat} {a b : V} (q : tl σ H fun vs H1 => ∃ x y, vs = [x, y] ∧ D.nx ((σ.set i (some x)).set j (some y)) H1) : tPar i j tl D σ H := q
theorem a_spar {j : Nat} (q : tl σ H fun vs H1 => ∃ x y, vs = [x, y] ∧ u D ((σ.set i (some x)).set j (some y)) H1) : tSeq (tPar i j tl) u D σ H := q
theorem a_two {R : V → V → Prop} {a b : V} (q : R a b) : ∃ x y, [a, b] = [x, y] ∧ R x y := ⟨a, b, rfl, q⟩
theorem a_cut (M : L2.St → Hp → Prop) (h : t { D with nx := M } σ H) (k : ∀ σ' H', M σ' H' → u D σ' H') : Evl.tCut t u D σ H := ⟨M, h, k⟩
theorem a_abs {j : Int} {R : Int → Prop} (q : R j) : ∃ i, [V.int j] = [V.int i] ∧ R i := ⟨j, rfl, q⟩
theorem a_gtup {n : Nat} {ts : TGs} {a : Addr} {xs : List V} {R : L2.St → Hp → Prop} (h : SqT K H a xs) (z : xs.length = n) (q : ts xs σ H R) : gTup K n ts (.ref a) σ H R := ⟨a, xs, rfl, h, z, q⟩
theorem a_gcons {ts : TGs} {xs : List V} {R : L2.St → Hp → Prop} (q : g v σ H fun σ' H' => ts xs σ' H' R) : gCons g ts (v :: xs) σ H R := ⟨v, xs, rfl, q⟩
theorem a_gnil {R : L2.St → Hp → Prop} (q : R σ H) : gNil [] σ H R := ⟨rfl, q⟩
end
theorem a_pairs {tk tv : TE} {r : List (TE × TE)} {σ : L2.St} {H : Hp} {R : List (V × V) → Hp → Prop} (q : tk σ H fun k H1 => tv σ H1 fun v H2 => tPairs r σ H2 fun ps H3 => R ((k, v) :: ps) H3) : tPairs ((tk, tv) :: r) σ H R := q
theorem a_pairs0 {σ : L2.St} {H : Hp} {R : List (V × V) → Hp → Prop} (q : R [] H) : tPairs [] σ H R := q
theorem a_bm {K : Frag} {T : String} {r : V → List V → Hp → VK → Prop} {to : TE} {t : TA} {σ : L2.St} {H : Hp} {Q : VK} (q : to σ H fun x H1 => tyV K T x H1 ∧ t σ H1 fun xs H2 => r x xs H2 Q) : tBM K T r to t σ H Q := q
end EL

/- part W -/
/-! values by what they are: numbers, texts, tracked lists, tuples, dicts, books -/
namespace EL
open PySem PySem.Spec PyProof.Rows L2
open PySem.W (Frag)
/-- the built-in names that stand for themselves -/
structure Bi (mg : Str → Option Value) : Prop where
  len_ : mg "len" = none
  isinstance_ : mg "isinstance" = none
  int_ : mg "int" = none
  bool_ : mg "bool" = none
  str_ : mg "str" = none
  list_ : mg "list" = none
  tuple_ : mg "tuple" = none
  range_ : mg "range" = none
  enumerate_ : mg "enumerate" = none
  zip_ : mg "zip" = none
  abs_ : mg "abs" = none
  repr_ : mg "repr" = none
  min_ : mg "min" = none
  max_ : mg "max" = none
  sum_ : mg "sum" = none
  all_ : mg "all" = none
/-- a constant of the program -/
theorem pe_gc {X : Cx} {x : Str} {v : V} {pos : Pos} (hg : Gl X x) (h : ∃ u, X.mg x = some u ∧ L2.RelV v u) (hdb : (x == ("__debug__" : Str)) = false := by decide) : PE X (.Name x pos) (tC v) := by
  obtain ⟨u, h1, h2⟩ := h
  exact pe_glob hg h1 h2 hdb
/-- what isinstance asks of an own class -/
structure OwnC (K : Frag) (C : Addr) : Prop where
  cl : Cls K C
  cls : PySem.W.findIn K (.ref C) "__class__" = some (some (.builtin "object.__class__"))
  get : PySem.W.specialIn K (.builtin "object.__class__") "__get__" = some (some (.builtin "getset_descriptor.__get__"))
  tak : PySem.W.takesIn K (.builtin "object.__class__") = some true
  obj : PySem.W.mroIn K C (.type "object") = some true
  kInt : PySem.W.kitOne K (.ref C) (.type "int") = some false
  kBool : PySem.W.kitOne K (.ref C) (.type "bool") = some false
  kStr : PySem.W.kitOne K (.ref C) (.type "str") = some false
  kTup : PySem.W.kitOne K (.ref C) (.type "tuple") = some false
  kLst : PySem.W.kitOne K (.ref C) (.type "list") = some false
/-- a value that is known -/
inductive Th (K : Frag) (H : Hp) : V → Prop
  | non : Th K H .non
  | bl (b : Bool) : Th K H (.bl b)
  | int (i : Int) : Th K H (.int i)
  | str (x : Str) : Th K H (.str x)
  | lst {a : Addr} {xs : List V} (h : H a = some (.lst xs)) : Th K H (.ref a)
  | tup {a : Addr} {xs : List V} (h : H a = some (.tup xs)) : Th K H (.ref a)
  | dct {a : Addr} {kvs : List (Key × V)} (h : H a = some (.dK kvs)) : Th K H (.ref a)
  | ins {a C dx : Addr} {fs : List (Str × V)} (h : H a = some (.ins C dx fs)) (c : OwnC K C) : Th K H (.ref a)
  | dtt {a : Addr} {kvs : List (List Key × V)} (h : H a = some (.dT kvs)) : Th K H (.ref a)
def isI : V → Bool | .int _ => true | .bl _ => true | _ => false
def isB : V → Bool | .bl _ => true | _ => false
def isS : V → Bool | .str _ => true | _ => false
def obT : Option HO → Bool | some (.tup _) => true | _ => false
def obL : Option HO → Bool | some (.lst _) => true | _ => false
def isT (H : Hp) : V → Bool | .ref a => obT (H a) | _ => false
def isL (H : Hp) : V → Bool | .ref a => obL (H a) | _ => false
structure KitOf (K : Frag) (H : Hp) (x : V) (t : Value) : Prop where
  ty : TyX K H x t
  int : PySem.W.kitOne K t (.type "int") = some (isI x)
  bool : PySem.W.kitOne K t (.type "bool") = some (isB x)
  str : PySem.W.kitOne K t (.type "str") = some (isS x)
  tup : PySem.W.kitOne K t (.type "tuple") = some (isT H x)
  lst : PySem.W.kitOne K t (.type "list") = some (isL H x)
theorem Th.kit {K : Frag} {H : Hp} {x : V} (h : Th K H x) : ∃ t, KitOf K H x t := by
  cases h with
  | non => exact ⟨_, .base .non, kit_ty (by show _ = some false; decide +kernel), kit_ty (by show _ = some false; decide +kernel), kit_ty (by show _ = some false; decide +kernel), kit_ty (by show _ = some false; decide +kernel), kit_ty (by show _ = some false; decide +kernel)⟩
  | bl b => exact ⟨_, .base (.bl b), kit_ty (by show _ = some true; decide +kernel), kit_ty (by show _ = some true; decide +kernel), kit_ty (by show _ = some false; decide +kernel), kit_ty (by show _ = some false; decide +kernel), kit_ty (by show _ = some false; decide +kernel)⟩
  | int i => exact ⟨_, .base (.int i), kit_ty (by show _ = some true; decide +kernel), kit_ty (by show _ = some false; decide +kernel), kit_ty (by show _ = some false; decide +kernel), kit_ty (by show _ = some false; decide +kernel), kit_ty (by show _ = some false; decide +kernel)⟩
  | str s => exact ⟨_, .base (.str s), kit_ty (by show _ = some false; decide +kernel), kit_ty (by show _ = some false; decide +kernel), kit_ty (by show _ = some true; decide +kernel), kit_ty (by show _ = some false; decide +kernel), kit_ty (by show _ = some false; decide +kernel)⟩
  | @lst a xs h =>
    have e1 : isT H (.ref a) = false := by show obT (H a) = _; rw [h]; rfl
    have e2 : isL H (.ref a) = true := by show obL (H a) = _; rw [h]; rfl
    refine ⟨_, .base (.lst h), kit_ty (by show _ = some false; decide +kernel), kit_ty (by show _ = some false; decide +kernel), kit_ty (by show _ = some false; decide +kernel), ?_, ?_⟩
    · rw [e1]; exact kit_ty (by show _ = some _; decide +kernel)
    · rw [e2]; exact kit_ty (by show _ = some _; decide +kernel)
  | @tup a xs h =>
    have e1 : isT H (.ref a) = true := by show obT (H a) = _; rw [h]; rfl
    have e2 : isL H (.ref a) = false := by show obL (H a) = _; rw [h]; rfl
    refine ⟨_, .base (.tup h), kit_ty (by show _ = some false; decide +kernel), kit_ty (by show _ = some false; decide +kernel), kit_ty (by show _ = some false; decide +kernel), ?_, ?_⟩
    · rw [e1]; exact kit_ty (by show _ = some _; decide +kernel)
    · rw [e2]; exact kit_ty (by show _ = some _; decide +kernel)
  | @dct a kvs h =>
    have e1 : isT H (.ref a) = false := by show obT (H a) = _; rw [h]; rfl
    have e2 : isL H (.ref a) = false := by show obL (H a) = _; rw [h]; rfl
    refine ⟨_, .base (.dK h), kit_ty (by show _ = some false; decide +kernel), kit_ty (by show _ = some false; decide +kernel), kit_ty (by show _ = some false; decide +kernel), ?_, ?_⟩
    · rw [e1]; exact kit_ty (by show _ = some _; decide +kernel)
    · rw [e2]; exact kit_ty (by show _ = some _; decide +kernel)
  | @dtt a kvs h =>
    have e1 : isT H (.ref a) = false := by show obT (H a) = _; rw [h]; rfl
    have e2 : isL H (.ref a) = false := by show obL (H a) = _; rw [h]; rfl
    refine ⟨_, .base (.dT h), kit_ty (by show _ = some false; decide +kernel), kit_ty (by show _ = some false; decide +kernel), kit_ty (by show _ = some false; decide +kernel), ?_, ?_⟩
    · rw [e1]; exact kit_ty (by show _ = some _; decide +kernel)
    · rw [e2]; exact kit_ty (by show _ = some _; decide +kernel)
  | @ins a C dx fs h c =>
    have e1 : isT H (.ref a) = false := by show obT (H a) = _; rw [h]; rfl
    have e2 : isL H (.ref a) = false := by show obL (H a) = _; rw [h]; rfl
    refine ⟨_, .base (.ins h c.cl c.cls c.get c.tak c.obj), c.kInt, c.kBool, c.kStr, ?_, ?_⟩
    · rw [e1]; exact c.kTup
    · rw [e2]; exact c.kLst
/-- a known value stays known -/
theorem Th.stay {K : Frag} {b : Addr} {l : List V} {H H' : Hp} {x : V} (h : Th K H x) (hb : H b = some (.lst l)) {l' : List V} (hb' : H' b = some (.lst l')) (k : Kp b H H') : Th K H' x := by
  cases h with
  | non => exact .non
  | bl b => exact .bl b
  | int i => exact .int i
  | str s => exact .str s
  | @lst a xs h =>
    by_cases e : a = b
    · subst e; exact .lst hb'
    · exact .lst (k _ _ e h)
  | @tup a xs h => exact .tup (k _ _ (fun z => by subst z; rw [hb] at h; cases h) h)
  | @dct a xs h => exact .dct (k _ _ (fun z => by subst z; rw [hb] at h; cases h) h)
  | @ins a C dx fs h c => exact .ins (k _ _ (fun z => by subst z; rw [hb] at h; cases h) h) c
  | @dtt a kvs h => exact .dtt (k _ _ (fun z => by subst z; rw [hb] at h; cases h) h)
section
variable {K : Frag} {H : Hp} {Q : VK} {x : V} {t : Value}
theorem n_isT {m : String} {b : Bool} (k : TyX K H x t) (h : PySem.W.kitOne K t (.type m) = some b) (q : Q (.bl b) H) : rIsiU K [x, .ty m] H Q := n_isiX k h q
theorem n_isInt (k : KitOf K H x t) (q : Q (.bl (isI x)) H) : rIsiU K [x, .ty "int"] H Q := n_isT k.ty k.int q
theorem n_isBool (k : KitOf K H x t) (q : Q (.bl (isB x)) H) : rIsiU K [x, .ty "bool"] H Q := n_isT k.ty k.bool q
theorem n_isStr (k : KitOf K H x t) (q : Q (.bl (isS x)) H) : rIsiU K [x, .ty "str"] H Q := n_isT k.ty k.str q
theorem n_isTup (k : KitOf K H x t) (q : Q (.bl (isT H x)) H) : rIsiU K [x, .ty "tuple"] H Q := n_isT k.ty k.tup q
theorem n_isLst (k : KitOf K H x t) (q : Q (.bl (isL H x)) H) : rIsiU K [x, .ty "list"] H Q := n_isT k.ty k.lst q
/-- isinstance(x, (list, tuple)), the tuple just laid -/
theorem n_isLT {p : Addr} (k : KitOf K H x t) (hp : H p = some (.tup [.ty "list", .ty "tuple"])) (q : Q (.bl (isL H x || isT H x)) H) : rIsiU K [x, .ref p] H Q := by
  refine .inr ⟨x, p, _, t, [.type "list", .type "tuple"], isL H x || isT H x, rfl, hp, .cons (.ty "list") (.cons (.ty "tuple") .nil), k.ty, ?_, q⟩
  refine kitAny_cons k.lst (fun e => ?_) (fun e => by rw [e]; rfl)
  rw [e]
  refine kitAny_cons k.tup (fun e2 => ?_) (fun e2 => by rw [e2]; rfl)
  rw [e2]
  rfl
end
theorem _root_.L2.Same.nw {H H1 : Hp} {p : Addr} {o : HO} (k : Same H H1) (h : H1 p = none) : Same H (upd H1 p o) := fun a u e => by
  have q := k a u e
  rw [upd_ne (ne_of_none q h)]
  exact q
/-- an object that is new since H may change -/
theorem _root_.L2.Same.mu {H H1 : Hp} {p : Addr} {o : HO} (k : Same H H1) (h : H p = none) : Same H (upd H1 p o) := fun a u e => by
  rw [upd_ne (ne_of_none e h)]
  exact k a u e
theorem Th.same {K : Frag} {H H' : Hp} {x : V} (h : Th K H x) (k : Same H H') : Th K H' x := by
  cases h with
  | non => exact .non
  | bl b => exact .bl b
  | int i => exact .int i
  | str s => exact .str s
  | lst h => exact .lst (k _ _ h)
  | tup h => exact .tup (k _ _ h)
  | dct h => exact .dct (k _ _ h)
  | ins h c => exact .ins (k _ _ h) c
  | dtt h => exact .dtt (k _ _ h)
/-! ### the class of a sequence; isinstance(x, (list, tuple)) of one -/
theorem _root_.L2.SqT.ty {K : Frag} {H : Hp} {a : Addr} {xs : List V} (h : SqT K H a xs) : TyX K H (.ref a) (.type "tuple") := by
  rcases h with (h | ⟨o, h⟩) | ⟨o, its, n, h, c, _⟩
  · exact .base (.tup h)
  · exact .fTuple h
  · exact .kTuple h c
theorem n_isLTl {K : Frag} {H : Hp} {Q : VK} {x : V} {p : Addr} (ty : TyX K H x (.type "list")) (hp : H p = some (.tup [.ty "list", .ty "tuple"])) (q : Q (.bl true) H) : rIsiU K [x, .ref p] H Q :=
  .inr ⟨x, p, _, _, [.type "list", .type "tuple"], true, rfl, hp, .cons (.ty "list") (.cons (.ty "tuple") .nil), ty, kitAny_cons (b := true) (kit_ty (by decide +kernel)) (fun e => nomatch e) (fun _ => rfl), q⟩
theorem n_isLTt {K : Frag} {H : Hp} {Q : VK} {x : V} {p : Addr} (ty : TyX K H x (.type "tuple")) (hp : H p = some (.tup [.ty "list", .ty "tuple"])) (q : Q (.bl true) H) : rIsiU K [x, .ref p] H Q :=
  .inr ⟨x, p, _, _, [.type "list", .type "tuple"], true, rfl, hp, .cons (.ty "list") (.cons (.ty "tuple") .nil), ty,
    kitAny_cons (b := false) (kit_ty (by decide +kernel)) (fun _ => kitAny_cons (b := true) (kit_ty (by decide +kernel)) (fun e => nomatch e) (fun _ => rfl)) (fun e => nomatch e), q⟩
/-- a list or a tuple, tracked or of the program's top -/
def SqA (K : Frag) (H : Hp) (a : Addr) (xs : List V) : Prop := H a = some (.lst xs) ∨ SqT K H a xs
theorem _root_.L2.SqT.same {K : Frag} {H H' : Hp} {a : Addr} {xs : List V} (h : SqT K H a xs) (s : Same H H') : SqT K H' a xs := by
  rcases h with (h | ⟨o, h⟩) | h
  · exact .inl (.inl (s _ _ h))
  · exact .inl (.inr ⟨o, s _ _ h⟩)
  · exact .inr h
theorem SqA.same {K : Frag} {H H' : Hp} {a : Addr} {xs : List V} (h : SqA K H a xs) (s : Same H H') : SqA K H' a xs := by
  rcases h with h | (h | ⟨o, h⟩) | h
  · exact .inl (s _ _ h)
  · exact .inr (.inl (.inl (s _ _ h)))
  · exact .inr (.inl (.inr ⟨o, s _ _ h⟩))
  · exact .inr (.inr h)
theorem SqA.isLT {K : Frag} {H : Hp} {Q : VK} {a p : Addr} {xs : List V} (h : SqA K H a xs) (hp : H p = some (.tup [.ty "list", .ty "tuple"])) (q : Q (.bl true) H) : rIsiU K [.ref a, .ref p] H Q := by
  rcases h with h | h
  · exact n_isLTl (.base (.lst h)) hp q
  · exact n_isLTt h.ty hp q
theorem SqA.len {K : Frag} {H : Hp} {a : Addr} {xs : List V} (h : SqA K H a xs) : SqL K H a xs ∨ SqT K H a xs := h.elim (fun h => .inl (SqL.of h)) .inr
theorem n_tuple {K : Frag} {H : Hp} {Q : VK} {a : Addr} {xs : List V} (h : SqA K H a xs) (q : ∀ r H', Same H H' → SqT K H' r xs → Q (.ref r) H') : rTuple K [.ref a] H Q := by
  rcases h with h | h
  · exact ⟨a, xs, rfl, .inl ⟨SqL.of h, fun l hl => q l _ (L2.Same.nw (Same.refl _) hl) (SqT.of upd_same)⟩⟩
  · exact ⟨a, xs, rfl, .inr ⟨h, q a H (Same.refl _) h⟩⟩
theorem SqT.kp {K : Frag} {H H' : Hp} {a o : Addr} {xs : List V} {C dx : Addr} {fs : List (Str × V)} (h : SqT K H a xs) (ho : H o = some (.ins C dx fs)) (k : Kp o H H') : SqT K H' a xs := by
  rcases h with (h | ⟨o, h⟩) | h
  · exact .inl (.inl (k _ _ (fun z => by subst z; rw [ho] at h; cases h) h))
  · exact .inl (.inr ⟨_, k _ _ (fun z => by subst z; rw [ho] at h; cases h) h⟩)
  · exact .inr h
theorem SqA.kp {K : Frag} {H H' : Hp} {a o : Addr} {xs : List V} {C dx : Addr} {fs : List (Str × V)} (h : SqA K H a xs) (ho : H o = some (.ins C dx fs)) (k : Kp o H H') : SqA K H' a xs := by
  rcases h with h | h
  · exact .inl (k _ _ (fun z => by subst z; rw [ho] at h; cases h) h)
  · exact .inr (SqT.kp h ho k)
theorem n_ixA {K : Frag} {H : Hp} {Q : VK} {p : Addr} {xs : List V} {i : Int} {v : V} (h : SqA K H p xs) (hi : atI xs i = some v) (q : Q v H) : rIx K (.ref p) (.int i) H Q := h.elim (fun h => n_ixL (SqL.of h) hi q) fun h => n_ixT h hi q
/-! ### loops -/
/-- the loop itself, its walk made -/
def Lp (J : It) (g : TG) (tb : TS) (D : Ends) (σ : L2.St) (H : Hp) : Prop := ∃ W : Nat → Nat → L2.St → Hp → Prop, (∃ m, W 0 m σ H) ∧ ∀ (i m : Nat) (σ : L2.St) (H : Hp), W i m σ H →
  (J.stop i H ∧ D.nx σ H) ∨ (J.go i H ∧ ∃ N : L2.St → Hp → Prop, (∀ σ' H', N σ' H' → ∃ m', m' < m ∧ W (i + 1) m' σ' H') ∧ ∀ x H', J.yld i H x H' → g x σ H' fun σ2 H2 => tb { nx := N, rt := D.rt, bk := D.nx, ct := N } σ2 H2)
section
variable {σ : L2.St} {H : Hp} {K : Frag} {D : Ends} {g : TG} {tb u : TS} {wi : TI} {ta : TA} {te : TE} {R : It → Hp → Prop}
theorem a_for (q : wi σ H fun J H1 => Lp J g tb D σ H1) : tFor wi g tb D σ H := q
theorem a_sfor (q : wi σ H fun J H1 => Lp J g tb { D with nx := u D } σ H1) : tSeq (tFor wi g tb) u D σ H := q
theorem a_iE1 (q : ta σ H fun vs H1 => ∃ a xs, vs = [.ref a] ∧ SqT K H1 a xs ∧ R (Ites K a 0) H1) : iE1 K ta σ H R := q
theorem a_iEs {k : Int} (q : ta σ H fun vs H1 => ∃ a xs, vs = [.ref a] ∧ SqT K H1 a xs ∧ R (Ites K a k) H1) : iEs K k ta σ H R := q
theorem a_iEz {k : Int} (q : ta σ H fun vs H1 => ∃ a b xs ys, vs = [.ref a, .ref b] ∧ SqT K H1 a xs ∧ SqT K H1 b ys ∧ R (Itez K a b k) H1) : iEz K k ta σ H R := q
theorem a_iEnum (q : ta σ H fun vs H1 => ∃ a xs, vs = [.ref a] ∧ SqL K H1 a xs ∧ R (Ite K a) H1) : iEnum K ta σ H R := q
theorem a_iSeq (q : iList K te σ H R ∨ iTup K te σ H R) : iSeq K te σ H R := q
theorem a_iTup (q : te σ H fun x H1 => ∃ a, x = .ref a ∧ (∃ xs, SqT K H1 a xs) ∧ R (Itt K a) H1) : iTup K te σ H R := q
theorem a_iList (q : te σ H fun x H1 => ∃ a, x = .ref a ∧ (∃ xs, SqL K H1 a xs) ∧ R (Itl K a) H1) : iList K te σ H R := q
theorem lp_it {J : It} {n : Nat} {G : Hp → Prop} {Y : Nat → Hp → V → Hp → Prop} (w : Walk J n G Y) (Pv : Nat → L2.St → Hp → Prop) (h0 : Pv 0 σ H) (hG : ∀ i σ H, i ≤ n → Pv i σ H → G H)
    (hs : ∀ i x σ H H', i < n → Pv i σ H → Y i H x H' → g x σ H' fun σ2 H2 => tb { nx := Pv (i + 1), rt := D.rt, bk := D.nx, ct := Pv (i + 1) } σ2 H2) (hd : ∀ σ H, Pv n σ H → D.nx σ H) : Lp J g tb D σ H := for_it w Pv h0 hG hs hd
theorem lp_range {lo : Int} {n : Nat} (Pv : Nat → L2.St → Hp → Prop) (h0 : Pv 0 σ H) (hs : ∀ i σ H, i < n → Pv i σ H → g (.int (lo + i)) σ H fun σ2 H2 => tb { nx := Pv (i + 1), rt := D.rt, bk := D.nx, ct := Pv (i + 1) } σ2 H2) (hd : ∀ σ H, Pv n σ H → D.nx σ H) :
    Lp (Itr lo n) g tb D σ H := for_range Pv h0 hs hd
end
/-! ### comprehensions -/
def Lc (J : It) (g : TG) (tt : TT) (te : TE) (vs : List Nat) (σ : L2.St) (H1 : Hp) (D : Addr) (Qd : Hp → Prop) : Prop := ∃ W : Nat → Nat → Hp → Prop, (∃ m, W 0 m (upd H1 D (.lst []))) ∧ ∀ (i m : Nat) (H : Hp), W i m H →
  (J.stop i H ∧ Qd H) ∨ (J.go i H ∧ ∃ Nx : Hp → Prop, (∀ H', Nx H' → ∃ m', m' < m ∧ W (i + 1) m' H') ∧ ∀ (x : V) (H' : Hp), J.yld i H x H' → g x (wipe σ vs) H' fun σ2 H2 => wipe σ2 vs = wipe σ vs ∧
    tt σ2 H2 fun b H3 => if b = true then te σ2 H3 fun y H4 => ∃ acc, H4 D = some (.lst acc) ∧ acc.length < sizeLine ∧ Nx (upd H4 D (.lst (acc ++ [y]))) else Nx H3)
section
variable {σ : L2.St} {H : Hp} {Q : VK} {g : TG} {tt : TT} {te : TE} {wi : TI} {vs : List Nat}
theorem a_lc (q : wi σ H fun J H1 => ∀ D, H1 D = none → Lc J g tt te vs σ H1 D fun H2 => Q (.ref D) H2) : tLc wi g tt te vs σ H Q := q
theorem lc_of {J : It} {n : Nat} {G : Hp → Prop} {Y : Nat → Hp → V → Hp → Prop} (w : Walk J n G Y) {H1 : Hp} {D : Addr} {Qd : Hp → Prop} (Pv : Nat → Hp → Prop) (h0 : Pv 0 (upd H1 D (.lst []))) (hG : ∀ i H, i ≤ n → Pv i H → G H)
    (hs : ∀ i x H H', i < n → Pv i H → Y i H x H' → g x (wipe σ vs) H' fun σ2 H2 => wipe σ2 vs = wipe σ vs ∧ tt σ2 H2 fun b H3 => if b = true then te σ2 H3 fun y H4 => ∃ acc, H4 D = some (.lst acc) ∧ acc.length < sizeLine ∧ Pv (i + 1) (upd H4 D (.lst (acc ++ [y]))) else Pv (i + 1) H3)
    (hd : ∀ H, Pv n H → Qd H) : Lc J g tt te vs σ H1 D Qd := lc_it w Pv h0 hG hs hd
theorem a_yes {R : Bool → Hp → Prop} (q : R true H) : tYes σ H R := q
theorem a_wp {A B : Prop} (a : A) (b : B) : A ∧ B := ⟨a, b⟩
theorem a_sl {r : V → Option Int → Option Int → Hp → VK → Prop} {tl th : TO} (q : te σ H fun x H1 => tl σ H1 fun l H2 => th σ H2 fun u H3 => r x l u H3 Q) : tSl r te tl th σ H Q := q
theorem a_nop {R : Option Int → Hp → Prop} (q : R none H) : tNoPart σ H R := q
theorem a_prt {R : Option Int → Hp → Prop} (q : te σ H fun x H1 => ∃ i, x = .int i ∧ R (some i) H1) : tPart te σ H R := q
theorem a_ex1 {R : Int → Prop} {i : Int} (q : R i) : ∃ j, V.int i = V.int j ∧ R j := ⟨i, rfl, q⟩
end
section
variable {σ : L2.St} {H : Hp} {ta : TA} {R : It → Hp → Prop}
theorem a_rng1 (q : ta σ H fun vs H1 => ∃ j : Int, vs = [.int j] ∧ -2 ^ 62 ≤ j ∧ j < 2 ^ 62 ∧ R (Itr 0 j.toNat) H1) : iRng1 ta σ H R := q
theorem a_rng2 (q : ta σ H fun vs H1 => ∃ i j : Int, vs = [.int i, .int j] ∧ (-2 ^ 62 ≤ i ∧ i < 2 ^ 62 ∧ -2 ^ 62 ≤ j ∧ j < 2 ^ 62) ∧ R (Itr i (j - i).toNat) H1) : iRng2 ta σ H R := q
end
end EL

/- part T -/
/-! tracked data: what is laid and known, with empty dicts; repr of it; t[::-1] of a tuple -/
namespace EL
open PySem PySem.Spec PyProof.Rows L2
open PySem.W (Frag)
mutual
inductive Tk (H : Hp) : V → PyData → Prop
  | non : Tk H .non .none
  | bl (b : Bool) : Tk H (.bl b) (.bool b)
  | int (i : Int) : Tk H (.int i) (.int i)
  | str (x : Str) : Tk H (.str x) (.str x)
  | lst {a : Addr} {xs : List V} {ds : List PyData} (h : H a = some (.lst xs)) (t : TkAll H xs ds) : Tk H (.ref a) (.list ds)
  | tup {a : Addr} {xs : List V} {ds : List PyData} (h : H a = some (.tup xs)) (t : TkAll H xs ds) : Tk H (.ref a) (.tuple ds)
  | dct {a : Addr} (h : H a = some (.dK [])) : Tk H (.ref a) (.dict [])
inductive TkAll (H : Hp) : List V → List PyData → Prop
  | nil : TkAll H [] []
  | cons {v : V} {vs : List V} {d : PyData} {ds : List PyData} (h : Tk H v d) (t : TkAll H vs ds) : TkAll H (v :: vs) (d :: ds)
end
mutual
theorem tk_same {H H' : Hp} (s : Same H H') : ∀ (d : PyData) (v : V), Tk H v d → Tk H' v d
  | .none, _, h => by cases h; exact .non
  | .bool _, _, h => by cases h; exact .bl _
  | .int _, _, h => by cases h; exact .int _
  | .str _, _, h => by cases h; exact .str _
  | .list ds, _, h => by
    cases h with
    | lst a t => exact .lst (s _ _ a) (tk_sameAll s ds _ t)
  | .tuple ds, _, h => by
    cases h with
    | tup a t => exact .tup (s _ _ a) (tk_sameAll s ds _ t)
  | .dict _, _, h => by
    cases h with
    | dct a => exact .dct (s _ _ a)
theorem tk_sameAll {H H' : Hp} (s : Same H H') : ∀ (ds : List PyData) (vs : List V), TkAll H vs ds → TkAll H' vs ds
  | [], _, h => by cases h; exact .nil
  | d :: ds, _, h => by
    cases h with
    | cons h1 h2 => exact .cons (tk_same s d _ h1) (tk_sameAll s ds _ h2)
end
theorem Tk.same {H H' : Hp} {v : V} {d : PyData} (h : Tk H v d) (s : Same H H') : Tk H' v d := tk_same s d v h
theorem TkAll.same {H H' : Hp} {v : List V} {d : List PyData} (h : TkAll H v d) (s : Same H H') : TkAll H' v d := tk_sameAll s d v h
theorem TkAll.mem {H : Hp} : ∀ {vs : List V} {ds : List PyData}, TkAll H vs ds → ∀ y ∈ vs, ∃ e, e ∈ ds ∧ Tk H y e
  | [], _, _, _, h => nomatch h
  | v :: vs, _, .cons h t, y, hy => by
    rcases List.mem_cons.mp hy with rfl | q
    · exact ⟨_, List.mem_cons_self .., h⟩
    · obtain ⟨e, m, k⟩ := TkAll.mem t y q
      exact ⟨e, List.mem_cons_of_mem _ m, k⟩
theorem TkAll.app {H : Hp} : ∀ {vs ws : List V} {ds es : List PyData}, TkAll H vs ds → TkAll H ws es → TkAll H (vs ++ ws) (ds ++ es)
  | [], _, _, _, .nil, h => h
  | _ :: _, _, _, _, .cons h t, k => .cons h (TkAll.app t k)
theorem TkAll.at_ {H : Hp} {vs : List V} {ds : List PyData} (h : TkAll H vs ds) : ∀ (i : Nat) (v : V), vs[i]? = some v → ∃ d, ds[i]? = some d ∧ Tk H v d := by
  induction vs generalizing ds with
  | nil => intro i v e; cases i <;> cases e
  | cons w ws ih =>
    intro i v e
    cases h with
    | cons h1 h2 =>
      cases i with
      | zero => cases e; exact ⟨_, rfl, h1⟩
      | succ i => exact ih h2 i v e
theorem tk_ints {H : Hp} : ∀ (js : List Int), TkAll H (js.map V.int) (js.map PyData.int)
  | [] => .nil
  | j :: r => .cons (.int j) (tk_ints r)
theorem Tk.th {K : Frag} {H : Hp} {v : V} {d : PyData} (h : Tk H v d) : Th K H v := by
  cases h with
  | non => exact .non
  | bl b => exact .bl b
  | int i => exact .int i
  | str x => exact .str x
  | lst h _ => exact .lst h
  | tup h _ => exact .tup h
  | dct h => exact .dct h
theorem Tk.el {H : Hp} {q : Addr} {d : PyData} {xs : List V} (h : Tk H (.ref q) d) (e : H q = some (.tup xs)) : ∃ ds, d = .tuple ds ∧ TkAll H xs ds := by
  cases h with
  | lst h _ => rw [h] at e; cases e
  | tup h t => rw [h] at e; cases e; exact ⟨_, rfl, t⟩
  | dct h => rw [h] at e; cases e
theorem Tk.elL {H : Hp} {q : Addr} {d : PyData} {xs : List V} (h : Tk H (.ref q) d) (e : H q = some (.lst xs)) : ∃ ds, d = .list ds ∧ TkAll H xs ds := by
  cases h with
  | lst h t => rw [h] at e; cases e; exact ⟨_, rfl, t⟩
  | tup h _ => rw [h] at e; cases e
  | dct h => rw [h] at e; cases e
theorem Tk.els {K : Frag} {H : Hp} {x : V} {d : PyData} (h : Tk H x d) (q : Addr) (xs : List V) (ex : x = .ref q) (e : H q = some (.tup xs)) : ∀ y ∈ xs, Th K H y := fun y hy => by
  subst ex
  obtain ⟨ds, _, t⟩ := h.el e
  obtain ⟨e, _, k⟩ := t.mem y hy
  exact k.th
/-! ### the heap without the bag -/
def wo (b : Addr) (H : Hp) : Hp := fun a => if a = b then none else H a
theorem wo_ne {b a : Addr} {H : Hp} {o : HO} (n : a ≠ b) (h : H a = some o) : wo b H a = some o := by unfold wo; rw [if_neg n]; exact h
theorem wo_same {b : Addr} {H : Hp} : Same (wo b H) H := fun a o h => by
  unfold wo at h
  by_cases e : a = b
  · rw [if_pos e] at h; cases h
  · rw [if_neg e] at h; exact h
theorem wo_kp {b : Addr} {H H' : Hp} (k : Kp b H H') : Same (wo b H) (wo b H') := fun a o h => by
  unfold wo at h
  by_cases e : a = b
  · rw [if_pos e] at h; cases h
  · rw [if_neg e] at h; exact wo_ne e (k a o e h)
theorem wo_sm {b : Addr} {H H' : Hp} (s : Same H H') : Same (wo b H) (wo b H') := wo_kp (same_kp s)
/-- known apart from the bag -/
abbrev TkB (b : Addr) (H : Hp) (v : V) (d : PyData) : Prop := Tk (wo b H) v d
theorem TkB.tk {b : Addr} {H : Hp} {v : V} {d : PyData} (h : TkB b H v d) : Tk H v d := h.same wo_same
theorem TkB.kp {b : Addr} {H H' : Hp} {v : V} {d : PyData} (h : TkB b H v d) (k : Kp b H H') : TkB b H' v d := h.same (wo_kp k)
/-! ### what can be shown -/
mutual
def gd : PyData → Bool
  | .none | .bool _ => true
  | .int i => decide (i.natAbs < 10 ^ 40)
  | .str x => x.cps.toList.all fun c => decide (c < 16 ^ 8)
  | .list xs | .tuple xs => gdAll xs
  | .dict kvs => kvs.isEmpty
def gdAll : List PyData → Bool
  | [] => true
  | x :: xs => gd x && gdAll xs
end
mutual
def noL : PyData → Bool
  | .list _ => false
  | .tuple xs => noLAll xs
  | _ => true
def noLAll : List PyData → Bool
  | [] => true
  | x :: xs => noL x && noLAll xs
end
structure Fine (d : PyData) : Prop where
  good : gd d = true
  bulk : d.bulk ≤ 300000
  depth : d.depth ≤ 40
  mix : d.hasDict = true → noL d = true
theorem pow10 : (10 : Nat) ^ 40 ≤ 2 ^ 1920 := by decide +kernel
mutual
theorem gd_showable : ∀ (d : PyData), gd d = true → d.showable = true
  | .none, _ => rfl
  | .bool _, _ => rfl
  | .str _, _ => rfl
  | .int i, h => by
    have q : i.natAbs < 10 ^ 40 := by simpa [gd] using h
    have q2 : i.natAbs < 2 ^ 1920 := Nat.lt_of_lt_of_le q pow10
    show decide (i.natAbs.log2 < 1920) = true
    rw [decide_eq_true_iff]
    by_cases e : i.natAbs = 0
    · rw [e]; decide
    · exact (Nat.log2_lt e).mpr q2
  | .list xs, h => gd_showableAll xs h
  | .tuple xs, h => gd_showableAll xs h
  | .dict [], _ => rfl
  | .dict (_ :: _), h => by cases h
theorem gd_showableAll : ∀ (ds : List PyData), gdAll ds = true → PyData.showableAll ds = true
  | [], _ => rfl
  | d :: ds, h => by
    have q : gd d = true ∧ gdAll ds = true := by simpa [gdAll] using h
    show (d.showable && PyData.showableAll ds) = true
    rw [gd_showable d q.1, gd_showableAll ds q.2]
    rfl
end
theorem int_shown {i : Int} (h : i.natAbs < 10 ^ 40) : (PyData.shown (.int i)).length ≤ 42 := by
  have q := int_text_length_le10 (a := i) (k := 40) (by decide) h
  have e : (PyData.shown (.int i)).length = (toString i).length := by
    show (Str.ofString (toString i)).length = _
    exact PySem.ofString_length _
  omega
mutual
theorem gd_short : ∀ (d : PyData), gd d = true → d.leavesShort 42 = true
  | .none, _ => rfl
  | .bool _, _ => rfl
  | .str _, h => h
  | .int i, h => by
    have q : i.natAbs < 10 ^ 40 := by simpa [gd] using h
    show decide (_ ≤ 42) = true
    rw [decide_eq_true_iff]
    exact int_shown q
  | .list xs, h => gd_shortAll xs h
  | .tuple xs, h => gd_shortAll xs h
  | .dict [], _ => rfl
  | .dict (_ :: _), h => by cases h
theorem gd_shortAll : ∀ (ds : List PyData), gdAll ds = true → PyData.leavesShortAll 42 ds = true
  | [], _ => rfl
  | d :: ds, h => by
    have q : gd d = true ∧ gdAll ds = true := by simpa [gdAll] using h
    show (d.leavesShort 42 && PyData.leavesShortAll 42 ds) = true
    rw [gd_short d q.1, gd_shortAll ds q.2]
    rfl
end
theorem Fine.len {d : PyData} (h : Fine d) : d.shown.length ≤ sizeLine := by
  have q := PyData.shown_le_bulk 42 (by decide) d (gd_short d h.good)
  have e : sizeLine = 16777216 := rfl
  have := h.bulk
  omega
/-! ### what the real heap has of it -/
section
variable {X : Cx} {pins : List (Addr × Obj)} {σ : L2.St} {H : Hp} {s : Shared}
mutual
theorem tk_reads (I : Inv X pins σ H s) : ∀ (d : PyData) (v : V) (u : Value), Tk H v d → RelV v u → ∃ as, Reads s.heap u d as ∧ (noL d = true → sysModules ∉ as)
  | .none, _, _, h, r => by
    cases h
    cases r
    exact ⟨_, Reads.none, fun _ => List.not_mem_nil⟩
  | .bool b, _, _, h, r => by
    cases h
    cases r
    exact ⟨_, Reads.bool b, fun _ => List.not_mem_nil⟩
  | .int i, _, _, h, r => by
    cases h
    obtain ⟨t, rfl⟩ := r
    exact ⟨_, Reads.int i t, fun _ => List.not_mem_nil⟩
  | .str x, _, _, h, r => by
    cases h
    obtain ⟨t, rfl⟩ := r
    exact ⟨_, Reads.str x t, fun _ => List.not_mem_nil⟩
  | .list ds, _, _, h, r => by
    cases h with
    | lst hs ha =>
      cases r
      obtain ⟨its, rv, ⟨o, n, ho, hc, _, hd⟩, _⟩ := I.list (SqL.of hs)
      obtain ⟨as, hr, _⟩ := tk_readsAll I ds _ its ha rv
      exact ⟨_, Reads.list ho hc hd hr, fun z => nomatch z⟩
  | .tuple ds, _, _, h, r => by
    cases h with
    | tup hs ha =>
      cases r
      obtain ⟨its, rv, ⟨o, ho, hc, n, hd⟩, _⟩ := I.tuple (SqT.of hs)
      obtain ⟨as, hr, hm⟩ := tk_readsAll I ds _ its ha rv
      exact ⟨_, Reads.tuple ho hc hd hr, hm⟩
  | .dict _, _, _, h, r => by
    cases h with
    | @dct p hp =>
      cases r
      obtain ⟨_, ns, vs, kv, o, es, ep, ho, ex, hd, _, pr, _⟩ := I.hok p _ hp
      cases kv
      have e0 : es.toList = [] := by
        generalize es.toList = l at pr
        cases pr
        rfl
      have e1 : es = #[] := Array.toList_inj.mp e0
      subst e1
      refine ⟨_, .dict ho ex.1 hd .nil .nil, fun _ z => ?_⟩
      have z' : sysModules = p := by simpa using z
      rw [← z'] at ns
      exact absurd ns (by decide)
theorem tk_readsAll (I : Inv X pins σ H s) : ∀ (ds : List PyData) (vs : List V) (us : List Value), TkAll H vs ds → Vals vs us → ∃ as, ReadsAll s.heap us ds as ∧ (noLAll ds = true → sysModules ∉ as)
  | [], _, _, h, r => by
    cases h
    cases r
    exact ⟨_, ReadsAll.nil, fun _ => List.not_mem_nil⟩
  | d :: ds, _, _, h, r => by
    cases h with
    | cons h1 h2 =>
      cases r with
      | cons r1 r2 =>
        obtain ⟨as, q1, m1⟩ := tk_reads I d _ _ h1 r1
        obtain ⟨bs, q2, m2⟩ := tk_readsAll I ds _ _ h2 r2
        refine ⟨_, ReadsAll.cons q1 q2, fun z => ?_⟩
        have q : noL d = true ∧ noLAll ds = true := by simpa [noLAll] using z
        exact fun w => (List.mem_append.mp w).elim (m1 q.1) (m2 q.2)
end
end
def rShowT : List V → Hp → VK → Prop := fun xs H Q => ∃ x d, xs = [x] ∧ Tk H x d ∧ Fine d ∧ Q (.str d.shown) H
theorem u_showT {X : Cx} (hq : Quiet X.A) (hu : X.A.units + 64 < cLine) : CallR X (.builtin "repr") rShowT := by
  rintro pins s σ H xs us Q I r ⟨x, d, rfl, hd, hf, q⟩
  have hlen := hf.len
  have hs := gd_showable d hf.good
  have hdep := hf.depth
  have hm := hf.mix
  cases r with
  | cons rx rn =>
    rename_i u us
    cases rn
    obtain ⟨as, rd, ns⟩ := tk_reads I d x u hd rx
    have ns2 : d.hasDict = true → sysModules ∉ as := fun z => ns (hm z)
    have fin : ∀ t k, EP X pins σ Q (.str d.shown t) { s with toks := k } := fun t k => ⟨V.str d.shown, H, I.tok _, ⟨t, rfl⟩, q⟩
    have fin2 : ∀ h' t k, (∀ b o, s.heap.get? b = some o → h'.get? b = some o) → EP X pins σ Q (.str d.shown t) { s with heap := h', toks := k } := fun h' t tk k => ⟨V.str _, H, I.kept k, ⟨t, rfl⟩, q⟩
    cases rd with
    | none => exact PySem.P.repr_of_none (fin _ _)
    | bool b => exact PySem.P.repr_of_bool (fin _ _)
    | int i t => exact PySem.P.repr_of_int (by simpa [PyData.showable] using hs) (fin _ _)
    | str y t => exact PySem.P.repr_of_str (fin _ _) hlen
    | list h1 h2 h3 h4 => exact repr_of_reads' (h₀ := s.heap) (.list h1 h2 h3 h4) hs ns2 hq (by omega) (fun _ _ e => e) fin2 hlen
    | tuple h1 h2 h3 h4 => exact repr_of_reads' (h₀ := s.heap) (.tuple h1 h2 h3 h4) hs ns2 hq (by omega) (fun _ _ e => e) fin2 hlen
    | dict h1 h2 h3 h4 h5 => exact repr_of_reads' (h₀ := s.heap) (.dict h1 h2 h3 h4 h5) hs ns2 hq (by omega) (fun _ _ e => e) fin2 hlen
end EL

/- part T2 -/
/-! t[::-1] of a tuple -/
namespace EL
open PySem PySem.Spec PyProof.Rows L2
open PySem.W (Frag)
theorem rev_adjust (n : Nat) : Builtin.Slice.sliceAdjust none none (-1) (n : Int) = ((n : Int) - 1, -1) := by
  unfold Builtin.Slice.sliceAdjust
  rfl
theorem rev_places (n : Nat) : Builtin.Slice.slicePlaces ((n : Int) - 1) (-1) (-1) = n := by
  unfold Builtin.Slice.slicePlaces
  have h1 : ¬ ((-1 : Int) > 0) := by omega
  rw [if_neg h1]
  by_cases h : (n : Int) - 1 > -1
  · rw [if_pos h, show (- -1 : Int) = 1 by decide, Int.ediv_one]
    omega
  · rw [if_neg h]
    omega
theorem fm_congr {α β : Type} {f g : α → Option β} : ∀ (l : List α), (∀ x ∈ l, f x = g x) → l.filterMap f = l.filterMap g
  | [], _ => rfl
  | a :: l, h => by rw [List.filterMap_cons, List.filterMap_cons, h a (List.mem_cons_self ..), fm_congr l fun x hx => h x (List.mem_cons_of_mem _ hx)]
theorem rev_pick (xs : Array Value) : ((List.range xs.size).filterMap fun (k : Nat) => xs[((xs.size : Int) - 1 + (k : Int) * (-1)).toNat]?).toArray = xs.toList.reverse.toArray := by
  have e : (List.range xs.size).filterMap (fun (k : Nat) => xs[((xs.size : Int) - 1 + (k : Int) * (-1)).toNat]?) = ((List.range xs.size).map fun k => xs.size - 1 - k).filterMap (xs[·]?) := by
    rw [List.filterMap_map]
    apply fm_congr
    intro k hk
    have := List.mem_range.mp hk
    have q : ((xs.size : Int) - 1 + (k : Int) * (-1)).toNat = xs.size - 1 - k := by omega
    show xs[((xs.size : Int) - 1 + (k : Int) * (-1)).toNat]? = xs[xs.size - 1 - k]?
    rw [q]
  rw [e, PySem.W.krv_range, List.filterMap_reverse, PySem.W.krv_all]
section
variable {prog : Program} {w : World} {A : Around} {E : Value → Shared → Prop} {s : Shared}
open HT in
theorem getItem_tuple_rev {t sl : Addr} {items : Array Value} {vl vu vs : Value} {Q : Value → Shared → Prop} (ht : IsTup s.heap t items) (hs : s.heap.IsSliceOf sl vl vu vs) (pl : IsPart vl none) (pu : IsPart vu none) (ps : IsPart vs (some (-1)))
    (h : Q (.ref s.heap.objs.size) { s with heap := s.heap.push { cls := .type "tuple", data := .seq items.toList.reverse.toArray } }) (hsz : items.size ≤ sizeLine) : wpAny (model prog w) A (getItem (.ref t) (.ref sl)) Q E s := by
  have htake : sizeOk (.seq items.toList.reverse.toArray) := by
    show items.toList.reverse.toArray.size ≤ sizeLine
    rw [List.size_toArray, List.length_reverse, Array.length_toList]
    exact hsz
  obtain ⟨os, hos, hcs, hds⟩ := id hs
  have hTs : s.TypeIs (.ref sl) "slice" := ⟨os, hos, hcs⟩
  unfold getItem
  try with_reducible refine wpAny_holding ?_
  first | refine wpAny_bind (wpAny_pure ?_) | skip
  refine wpAny_bind (wpAny_sequenceKey ht.typeIs (by decide) ?_)
  refine wpAny_bind (wpAny_callSpecial?_slot (name := Str.ofString "__getitem__") ht.typeIs PyProof.Rows.slot_tuple_getitem
    (wpAny_call_entry PyProof.Rows.slot_tuple_getitem ht.typeIs entry_tuple_getitem ?_ (args_tuple_getitem _ _)))
  show wpAny _ _ (Builtin.Tuple.tupleItemsOf (.ref t) >>= _) _ _ s
  refine wpAny_bind (tupleItemsOf_ ht ?_)
  refine wpAny_bind (wpAny_typeOf hTs ?_)
  rw [if_pos (by decide)]
  have ap : ∀ {R : Int × Int × Nat → Shared → Prop}, R ((items.size : Int) - 1, -1, items.size) s → wpAny (model prog w) A.in1 (Builtin.Slice.sliceApplied (.ref sl) (pure (items.size : Int))) R E s := by
    intro R hR
    unfold Builtin.Slice.sliceApplied Builtin.Slice.sliceFields
    refine wpAny_bind (wpAny_bind (wpAny_field hos hds (x := vl) rfl (wpAny_bind (wpAny_field hos hds (x := vu) rfl (wpAny_bind (wpAny_field hos hds (x := vs) rfl (wpAny_pure ?_)))))))
    refine wpAny_bind (slicePart_ ps ?_)
    show wpAny _ _ (if ((-1 : Int) == 0) = true then _ else _) _ _ s
    rw [if_neg (by decide)]
    refine wpAny_bind (slicePart_ pl (wpAny_bind (slicePart_ pu (wpAny_bind (wpAny_pure ?_)))))
    show wpAny _ _ (match Builtin.Slice.sliceAdjust none none (-1) (items.size : Int) with | (lo, hi) => pure (lo, (-1 : Int), Builtin.Slice.slicePlaces lo hi (-1))) _ _ s
    rw [rev_adjust]
    show wpAny _ _ (pure ((items.size : Int) - 1, (-1 : Int), Builtin.Slice.slicePlaces ((items.size : Int) - 1) (-1) (-1))) _ _ s
    rw [rev_places]
    exact wpAny_pure hR
  refine wpAny_bind (ap ?_)
  have hno : ¬ ((((items.size : Int) - 1) == 0 && (-1 : Int) == 1 && items.size == items.size) = true) := by
    intro q
    rw [Bool.and_eq_true, Bool.and_eq_true] at q
    exact absurd q.1.2 (by decide)
  show wpAny _ _ (if (((items.size : Int) - 1) == 0 && (-1 : Int) == 1 && items.size == items.size) = true then _ else _) _ _ s
  rw [if_neg hno, rev_pick]
  first
    | exact wpAny_bind (m := Builtin.Tuple.tupleExact _) (wpAny_newObj_type (wpAny_pure ⟨_, rfl, wpAny_pure h⟩) htake)
    | exact wpAny_bind (m := Builtin.Tuple.tupleExact _) (wpAny_newObj_type (wpAny_bind (wpAny_pure (wpAny_pure ⟨_, rfl, wpAny_pure h⟩))) htake)
    | exact wpAny_bind (wpAny_bind (m := Builtin.Tuple.tupleExact _) (wpAny_newObj_type (wpAny_pure (wpAny_pure ⟨_, rfl, wpAny_pure h⟩)) htake))
    | exact wpAny_bind (wpAny_bind (m := Builtin.Tuple.tupleExact _) (wpAny_newObj_type (wpAny_pure ⟨_, rfl, wpAny_pure h⟩) htake))
end
section
variable {X : Cx}
def tRevT (K : Frag) (te : TE) : TE := fun σ H Q => te σ H fun x H1 => ∃ a xs, x = .ref a ∧ SqT K H1 a xs ∧ ∀ p, H1 p = none → Q (.ref p) (upd H1 p (.tup xs.reverse))
theorem pe_revT {e : Expr} {te : TE} {k : Nat} {p1 p2 p3 pos : Pos} (he : PE X e te) : PE X (.Subscript e (.Slice none none (some (.UnaryOp .USub (.Constant (.int 1) k p1) p2)) p3) pos) (tRevT X.K te) := by
  refine ⟨fun pins s σ H Q I h => ?_⟩
  refine Subscript_ (thn (he.run pins s σ H _ I h) fun v s1 ⟨x, H1, I1, r1, q1⟩ => ?_)
  obtain ⟨a, xs, ex, hx, q⟩ := q1
  subst ex
  cases r1
  have hst : PO X (some (.UnaryOp .USub (.Constant (.int 1) k p1) p2)) (tPart (tUn (rU fun i => .int (-i)) (tC (.int 1)))) := po_some (pe_un un_neg pe_int)
  refine wpAny_Slice (thn (po_none.run pins s1 σ H1 (fun o H2 => o = none ∧ H2 = H1) I1 ⟨rfl, rfl⟩) fun vl s2 ⟨l, H2, I2, pl, el, e2⟩ => ?_)
  subst el e2
  refine thn (po_none.run pins s2 σ H2 (fun o H3 => o = none ∧ H3 = H2) I2 ⟨rfl, rfl⟩) fun vu s3 ⟨u, H3, I3, pu, eu, e3⟩ => ?_
  subst eu e3
  refine thn (hst.run pins s3 σ H3 (fun o H4 => o = some (-1) ∧ H4 = H3) I3 ⟨1, rfl, -1, rfl, rfl, rfl⟩) fun vs s4 ⟨o, H4, I4, ps, eo, e4⟩ => ?_
  subst eo e4
  have I5 : Inv X pins σ H4 { s4 with heap := s4.heap.push { cls := .type "slice", data := .fields #[vl, vu, vs] } } := I4.kept (t' := s4.toks) fun b ob q => Heap.get?_push_of_some _ q
  obtain ⟨its, r, ht, hz⟩ := I5.tuple hx
  have hlen := r.length
  show wpAny (model X.prog X.w) X.A (subscriptTail e (.Slice none none (some (.UnaryOp .USub (.Constant (.int 1) k p1) p2)) p3) (.ref a) (.ref s4.heap.objs.size)) (EP X pins σ Q) X.xe { s4 with heap := s4.heap.push { cls := .type "slice", data := .fields #[vl, vu, vs] } }
  refine tail_any (ops := [.ref a, .ref s4.heap.objs.size]) ht.typeIs (PyProof.Rows.slot_tuple_getitem.lookup) ?_ (by with_unfolding_all rfl)
  refine getItem_tuple_rev ht (Heap.IsSliceOf.new _ vl vu vs) pl pu ps ?_ (by rw [List.size_toArray]; omega)
  refine ⟨.ref _, _, I5.laid (t' := s4.toks) (o := .tup xs.reverse) (fun b ob q => Heap.get?_push_of_some _ q) (Nat.le_refl _) ?_, rfl, q _ (I5.hok.fresh (Nat.le_refl _))⟩
  exact ⟨by rw [List.length_reverse]; exact hz, _, r.reverse, IsTup.new _ _⟩
end
end EL

/- part T3 -/
/-! data of a size; parts of tuples -/
namespace EL
open PySem PySem.Spec PyProof.Rows L2
open PySem.W (Frag)
/-- no dict, so big, so deep -/
structure Sz (n k : Nat) (d : PyData) : Prop where
  good : gd d = true
  bulk : d.bulk ≤ n
  depth : d.depth ≤ k
  nod : d.hasDict = false
theorem Sz.le {n k n' k' : Nat} {d : PyData} (h : Sz n k d) (a : n ≤ n') (b : k ≤ k') : Sz n' k' d := ⟨h.good, Nat.le_trans h.bulk a, Nat.le_trans h.depth b, h.nod⟩
theorem Sz.fine {n k : Nat} {d : PyData} (h : Sz n k d) (a : n ≤ 300000) (b : k ≤ 40) : Fine d := ⟨h.good, Nat.le_trans h.bulk a, Nat.le_trans h.depth b, fun z => by rw [h.nod] at z; cases z⟩
theorem sz_all {n k : Nat} : ∀ {ds : List PyData}, (∀ d ∈ ds, Sz n k d) → gdAll ds = true ∧ PyData.bulkAll ds ≤ ds.length * (n + 1) ∧ PyData.depthAll ds ≤ k ∧ PyData.hasDictAll ds = false
  | [], _ => ⟨rfl, Nat.zero_le _, Nat.zero_le _, rfl⟩
  | d :: ds, h => by
    have q := h d (List.mem_cons_self ..)
    obtain ⟨a, b, c, e⟩ := sz_all fun x hx => h x (List.mem_cons_of_mem _ hx)
    refine ⟨?_, ?_, ?_, ?_⟩
    · show (gd d && gdAll ds) = true
      rw [q.good, a]; rfl
    · show d.bulk + 1 + PyData.bulkAll ds ≤ (ds.length + 1) * (n + 1)
      have := q.bulk
      rw [Nat.add_mul, Nat.one_mul]
      omega
    · show max d.depth (PyData.depthAll ds) ≤ k
      exact Nat.max_le.mpr ⟨q.depth, c⟩
    · show (d.hasDict || PyData.hasDictAll ds) = false
      rw [q.nod, e]; rfl
theorem sz_tup {n k : Nat} {ds : List PyData} (h : ∀ d ∈ ds, Sz n k d) : Sz (ds.length * (n + 1)) (k + 1) (.tuple ds) := by
  obtain ⟨a, b, c, e⟩ := sz_all h
  exact ⟨a, b, Nat.succ_le_succ c, e⟩
theorem sz_lst {n k : Nat} {ds : List PyData} (h : ∀ d ∈ ds, Sz n k d) : Sz (ds.length * (n + 1)) (k + 1) (.list ds) := by
  obtain ⟨a, b, c, e⟩ := sz_all h
  exact ⟨a, b, Nat.succ_le_succ c, e⟩
theorem sz_non : Sz 0 0 .none := ⟨rfl, Nat.le_refl _, Nat.le_refl _, rfl⟩
theorem sz_bl {b : Bool} : Sz 0 0 (.bool b) := ⟨rfl, Nat.le_refl _, Nat.le_refl _, rfl⟩
theorem sz_int {i : Int} (h : i.natAbs < 10 ^ 40) : Sz 0 0 (.int i) := ⟨by show decide _ = true; exact decide_eq_true h, Nat.le_refl _, Nat.le_refl _, rfl⟩
theorem sz_str {s : Str} (h : gd (.str s) = true) : Sz s.cps.size 0 (.str s) := ⟨h, Nat.le_refl _, Nat.le_refl _, rfl⟩
/-- a value that is known apart from the bag, of a size -/
def NiS (n k : Nat) (b : Addr) (H : Hp) (v : V) : Prop := ∃ d, TkB b H v d ∧ Sz n k d
/-- a value that is known apart from the bag, and can be shown -/
def Nice (b : Addr) (H : Hp) (v : V) : Prop := ∃ d, TkB b H v d ∧ Fine d
section
variable {n k : Nat} {b : Addr} {H H' : Hp} {v : V}
theorem NiS.le {n' k' : Nat} (h : NiS n k b H v) (a : n ≤ n') (c : k ≤ k') : NiS n' k' b H v := by
  obtain ⟨d, t, z⟩ := h
  exact ⟨d, t, z.le a c⟩
theorem NiS.nice (h : NiS n k b H v) (a : n ≤ 300000) (c : k ≤ 40) : Nice b H v := by
  obtain ⟨d, t, z⟩ := h
  exact ⟨d, t, z.fine a c⟩
theorem NiS.kp (h : NiS n k b H v) (q : Kp b H H') : NiS n k b H' v := by
  obtain ⟨d, t, z⟩ := h
  exact ⟨d, t.kp q, z⟩
theorem Nice.kp (h : Nice b H v) (q : Kp b H H') : Nice b H' v := by
  obtain ⟨d, t, z⟩ := h
  exact ⟨d, t.kp q, z⟩
theorem NiS.same (h : NiS n k b H v) (q : Same H H') : NiS n k b H' v := h.kp (same_kp q)
theorem Nice.same (h : Nice b H v) (q : Same H H') : Nice b H' v := h.kp (same_kp q)
theorem ni_non : NiS 0 0 b H .non := ⟨_, .non, sz_non⟩
theorem ni_bl {x : Bool} : NiS 0 0 b H (.bl x) := ⟨_, .bl x, sz_bl⟩
theorem ni_int {i : Int} (h : i.natAbs < 10 ^ 40) : NiS 0 0 b H (.int i) := ⟨_, .int i, sz_int h⟩
theorem ni_str {s : Str} (h : gd (.str s) = true := by decide +kernel) : NiS s.cps.size 0 b H (.str s) := ⟨_, .str s, sz_str h⟩
theorem tk_pick {P : PyData → Prop} : ∀ {xs : List V}, (∀ v ∈ xs, ∃ d, TkB b H v d ∧ P d) → ∃ ds, TkAll (wo b H) xs ds ∧ ds.length = xs.length ∧ ∀ d ∈ ds, P d
  | [], _ => ⟨[], .nil, rfl, fun _ h => nomatch h⟩
  | x :: xs, h => by
    obtain ⟨ds, t, l, p⟩ := tk_pick fun v hv => h v (List.mem_cons_of_mem _ hv)
    obtain ⟨d, t1, p1⟩ := h x (List.mem_cons_self ..)
    exact ⟨d :: ds, .cons t1 t, by rw [List.length_cons, List.length_cons, l], fun y hy => (List.mem_cons.mp hy).elim (fun e => e ▸ p1) (p y)⟩
theorem ni_tup {p : Addr} {xs : List V} (hp : H p = some (.tup xs)) (nb : p ≠ b) (h : ∀ v ∈ xs, NiS n k b H v) : NiS (xs.length * (n + 1)) (k + 1) b H (.ref p) := by
  obtain ⟨ds, t, l, q⟩ := tk_pick (P := Sz n k) h
  exact ⟨.tuple ds, .tup (wo_ne nb hp) t, l ▸ sz_tup q⟩
theorem ni_lst {p : Addr} {xs : List V} (hp : H p = some (.lst xs)) (nb : p ≠ b) (h : ∀ v ∈ xs, NiS n k b H v) : NiS (xs.length * (n + 1)) (k + 1) b H (.ref p) := by
  obtain ⟨ds, t, l, q⟩ := tk_pick (P := Sz n k) h
  exact ⟨.list ds, .lst (wo_ne nb hp) t, l ▸ sz_lst q⟩
theorem nice_dct {p : Addr} (hp : H p = some (.dK [])) (nb : p ≠ b) : Nice b H (.ref p) := ⟨_, .dct (wo_ne nb hp), ⟨rfl, by decide, by decide, fun _ => rfl⟩⟩
/-- the items of a known tuple -/
theorem ni_at {p : Addr} {xs : List V} (h : NiS n (k + 1) b H (.ref p)) (hp : H p = some (.tup xs)) : ∀ v ∈ xs, NiS n k b H v := by
  obtain ⟨d, t, z⟩ := h
  cases t with
  | lst e _ => rw [wo_same _ _ e] at hp; cases hp
  | dct e => rw [wo_same _ _ e] at hp; cases hp
  | @tup _ ys ds e t =>
    rw [wo_same _ _ e] at hp
    cases hp
    intro v hv
    obtain ⟨d, hd, q⟩ := t.mem v hv
    refine ⟨d, q, ?_⟩
    have a : ∀ {ds : List PyData}, d ∈ ds → gdAll ds = true → PyData.bulkAll ds ≤ n → PyData.depthAll ds ≤ k → PyData.hasDictAll ds = false → Sz n k d := by
      intro ds
      induction ds with
      | nil => intro h; cases h
      | cons e r ih =>
        intro hm h1 h2 h3 h4
        have g1 : gd e = true ∧ gdAll r = true := by simpa [gdAll] using h1
        have g2 : e.bulk + 1 + PyData.bulkAll r ≤ n := h2
        have g3 : max e.depth (PyData.depthAll r) ≤ k := h3
        have g4 : e.hasDict = false ∧ PyData.hasDictAll r = false := by simpa [PyData.hasDictAll] using h4
        have g5 := Nat.max_le.mp g3
        rcases List.mem_cons.mp hm with rfl | hm
        · exact ⟨g1.1, by omega, g5.1, g4.1⟩
        · exact ih hm g1.2 (by omega) g5.2 g4.2
    have z3 : PyData.depthAll ds + 1 ≤ k + 1 := z.depth
    exact a hd z.good z.bulk (by omega) z.nod
end
/-! ### parts of tuples, joined tuples -/
section
variable {K : Frag} {H : Hp} {Q : VK}
theorem n_catT {a b : Addr} {xs ys : List V} (ha : H a = some (.tup xs)) (hb : H b = some (.tup ys)) (z : xs.length + ys.length ≤ sizeLine) (q : ∀ p H', Same H H' → H' p = some (.tup (xs ++ ys)) → Q (.ref p) H') : rAdd K (.ref a) (.ref b) H Q := by
  refine .inr (.inr ⟨a, b, xs, ys, rfl, rfl, SqT.of ha, SqT.of hb, z, fun e => ?_, fun e1 e2 => ?_, fun _ _ p hp => q p _ (L2.Same.nw (Same.refl _) hp) upd_same⟩)
  · subst e
    exact q b H (Same.refl _) hb
  · subst e2
    exact q a H (Same.refl _) (by rw [List.append_nil]; exact ha)
theorem n_slT {a : Addr} {xs : List V} {lo hi : Option Int} (ha : H a = some (.tup xs)) (q : ∀ p H', Same H H' → H' p = some (.tup (cutV xs lo hi)) → Q (.ref p) H') : rSlice K (.ref a) lo hi H Q := by
  refine .inr ⟨a, xs, rfl, SqT.of ha, fun e => ?_, fun _ p hp => q p _ (L2.Same.nw (Same.refl _) hp) upd_same⟩
  refine q a H (Same.refl _) ?_
  have w : cutV xs lo hi = xs := by
    unfold cutV
    rw [e.1, e.2, List.drop_zero, Nat.sub_zero, List.take_length]
  rw [w]
  exact ha
theorem a_spar3 {σ : L2.St} {D : Ends} {u : TS} {ta : TA} {i j l : Nat} (q : ta σ H fun vs H1 => ∃ x y z, vs = [x, y, z] ∧ u D (((σ.set i (some x)).set j (some y)).set l (some z)) H1) : tSeq (tPar3 i j l ta) u D σ H := q
theorem a_par3 {σ : L2.St} {D : Ends} {ta : TA} {i j l : Nat} (q : ta σ H fun vs H1 => ∃ x y z, vs = [x, y, z] ∧ D.nx (((σ.set i (some x)).set j (some y)).set l (some z)) H1) : tPar3 i j l ta D σ H := q
theorem a_three {R : V → V → V → Prop} {a b c : V} (q : R a b c) : ∃ x y z, [a, b, c] = [x, y, z] ∧ R x y z := ⟨a, b, c, rfl, q⟩
theorem a_revT {σ : L2.St} {te : TE} (q : te σ H fun x H1 => ∃ a xs, x = .ref a ∧ SqT K H1 a xs ∧ ∀ p, H1 p = none → Q (.ref p) (upd H1 p (.tup xs.reverse))) : tRevT K te σ H Q := q
end
theorem cut_mem {xs : List V} {lo hi : Option Int} {v : V} (h : v ∈ cutV xs lo hi) : v ∈ xs := by
  unfold cutV at h
  exact List.mem_of_mem_drop (List.mem_of_mem_take h)
theorem cut_le (xs : List V) (lo hi : Option Int) : (cutV xs lo hi).length ≤ xs.length := by
  unfold cutV
  rw [List.length_take, List.length_drop]
  omega
end EL

/- part A -/
namespace EL
open PySem PySem.Spec PyProof.Rows L2
open PySem.W (Frag)
def top (i : Nat) : Stmt := PySem.Challenge.pw_earlyorlate_k14_books_refused.main.body.getD i (.Pass ⟨0, 0, 0, 0⟩)
abbrev s_take : Stmt := top 29
abbrev N_take : List Str := ["_law_bag_here", "_law_many", "_law_cell", "_law_mixed_here", "_law_drawn", "_law_early", "_law_second"]
theorem sc_take : FnScope N_take ["_law_bag_here", "_law_many"] (defScope s_take) := ⟨rfl, rfl, rfl, by decide +kernel, rfl, by decide +kernel, by decide +kernel⟩
structure Tb (mg : Str → Option Value) : Prop where
  b : Bi mg
local macro_rules | `(tactic| walk_at "el1") => `(tactic| with_reducible first
  | refine a_sasg ?_ | refine a_sdrop ?_ | refine a_saugS ?_ | refine a_spar ?_ | refine a_seq ?_ | refine a_asg ?_ | refine a_drop ?_ | refine a_ret ?_ | refine a_if ?_ | refine a_next ?_
  | refine a_op ?_ | refine a_cons ?_ | refine a_nil ?_ | refine a_cb ?_ | refine a_call ?_ | refine a_c ?_ | refine a_gn ?_ | refine a_nx ?_ | refine a_rt ?_ | refine a_un ?_
  | refine a_test ?_ | refine a_B ?_ | refine a_bl ?_ | refine a_and ?_ | refine a_or ?_ | refine a_not ?_ | refine a_andV ?_ | refine a_orV ?_ | refine a_notV ?_ | refine a_ifx ?_ | refine a_chain ?_
  | refine a_nT ?_ | refine a_nF ?_ | refine a_fld ?_ | refine a_getF ?_ | refine a_T ?_ | refine a_F ?_ | refine a_tup ?_ | refine a_lst ?_ | refine a_sub ?_ | refine a_augS ?_ | refine a_two ?_ | refine a_I0 ?_ | refine a_U ?_ | refine n_add ?_ | refine n_int ?_ | refine n_ib ?_ | refine a_ip ?_ | refine a_rng1 ?_ | refine a_rng2 ?_ | refine a_bm ?_ | refine a_abs ?_ | refine a_pairs ?_ | refine a_pairs0 ?_ | refine a_bk ?_ | refine a_prp ?_ | refine a_lc ?_ | refine a_yes ?_ | refine a_sl ?_ | refine a_nop ?_ | refine a_prt ?_ | refine a_ex1 ?_ | refine a_for ?_ | refine a_sfor ?_ | refine a_iE1 ?_ | refine a_iEs ?_ | refine a_iEz ?_ | refine a_iEnum ?_ | refine a_iTup ?_ | refine a_iList ?_ | refine a_gcons ?_ | refine a_gnil ?_ | refine a_revT ?_ | refine a_spar3 ?_ | refine a_par3 ?_ | refine a_three ?_)
local macro_rules | `(tactic| walk_at "el2") => `(tactic| first
  | (refine a_var (by rfl) ?_)
  | (refine n_ixL (SqL.of (by assumption)) (by rfl) ?_) | (refine n_ixT (SqT.of (by assumption)) (by rfl) ?_) | (refine n_eq (by rfl) ?_) | (refine n_ne (by rfl) ?_)
  | (refine n_isN ?_) | (refine n_notN ?_) | (refine n_isB ?_) | (refine n_notB ?_) | (refine n_isBI ?_) | (refine n_notBI ?_) | (refine n_len (.inl (SqL.of (by assumption))) ?_) | (refine n_len (.inr (SqT.of (by assumption))) ?_)
  | (refine a_getL (SqL.of (by assumption)) (by rfl) ?_)
  | (refine n_isInt (by assumption) ?_) | (refine n_isBool (by assumption) ?_) | (refine n_isStr (by assumption) ?_) | (refine n_isTup (by assumption) ?_) | (refine n_isLst (by assumption) ?_))
local macro_rules | `(tactic| walk_at "el") => `(tactic| repeat (first | walk_at "el1" | walk_at "el2"))

/-! ### the bag -/
def Bag (H : Hp) (b c : Addr) : Prop := ∃ (i j k : Int) (cs : List Int), H b = some (.lst [.int i, .int j, .int k, .ref c]) ∧ H c = some (.lst (cs.map V.int)) ∧ c ≠ b ∧ 0 ≤ i ∧ 0 ≤ j ∧ j < 2147483647 ∧ 0 ≤ k ∧ ∀ x ∈ cs, 0 ≤ x
/-- a draw: a number from 0 to many - 1, the bag changed -/
def spTake : Sp := fun vs H Q _ => ∃ (b c : Addr) (m : Int), vs = [.ref b, .int m] ∧ Bag H b c ∧ 0 < m ∧ m ≤ 1000000000 ∧ ∀ (r : Int) H', 0 ≤ r → r < m → Bag H' b c → Kp b H H' → Q (.int r) H'
theorem cell_at {cs : List Int} {k : Int} (h0 : 0 ≤ k) (h1 : k < (cs.map V.int).length) (hc : ∀ x ∈ cs, (0 : Int) ≤ x) : ∃ x, atI (cs.map V.int) k = some (V.int x) ∧ 0 ≤ x := by
  obtain ⟨n, rfl⟩ : ∃ n : Nat, k = n := ⟨k.toNat, by omega⟩
  have hn : n < cs.length := by rw [List.length_map] at h1; omega
  refine ⟨cs[n], atI_nat (by rw [List.getElem?_map, List.getElem?_eq_getElem hn]; rfl), hc _ (List.getElem_mem hn)⟩
section
variable {P : Program} {w : World} {K : Frag} {mg : Str → Option Value} {base : Heap} {f : Addr} {fd : FuncData}
theorem ok_take (F : Fun K "_law_take" "_law_take" s_take f fd) (T : Tb mg) : FnOk P w K mg base CX0 1 f fd ["_law_bag_here", "_law_many"] spTake := by
  refine F.ok sc_take (fun vs H Q E h => ?_) (fun cdv A outer s H vs Q E hr h => ?_)
  · obtain ⟨b, c, m, rfl, _⟩ := h
    rfl
  · obtain ⟨b, c, m, rfl, hB, hm0, hm1, k⟩ := h
    refine ⟨_, (Evl.pss_cut (ps_if (pt_cmpR (u_eq hr.units) (pe_ix ix_seq (pv 0) pe_int (fun _ _ => rfl)) pe_int (nomark _))
    (pss_cons (ps_set (i := 2) sc_take.nd rfl (Or.inl rfl) pe_int)
  (Evl.pss_cut (ps_if (pt_cmpR op_lt (pe_ix ix_seq (pv 0) pe_int (fun _ _ => rfl)) (pe_callB u_len rfl T.b.len_ boot_len (pa_cons (pe_ix ix_seq (pv 0) pe_int (fun _ _ => rfl)) pa_nil)) (nomark _))
    (pss_one (ps_set (i := 2) sc_take.nd rfl (Or.inl rfl) (pe_ix ix_seq (pe_ix ix_seq (pv 0) pe_int (fun _ _ => rfl)) (pe_ix ix_seq (pv 0) pe_int (fun _ _ => rfl)) (fun _ _ => rfl))))
    pss_nil)
  (pss_cons (ps_augS (pv 0) pe_int get_list pe_int ip_add set_list)
  (Evl.pss_cut (ps_if (pt_cmpR op_ge (pv 2) pe_int (nomark _))
    (pss_one (ps_asg (pv 2) (pg_sub (pv 0) pe_int set_list)))
    pss_nil)
  (pss_cons (ps_set (i := 3) sc_take.nd rfl (Or.inl rfl) (pe_op u_add (pe_op u_add (pe_op u_mul (pe_ix ix_seq (pv 0) pe_int (fun _ _ => rfl)) pe_int) (pe_op op_mod (pe_callTy u_int rfl T.b.int_ (by decide +kernel) (pa_cons (pv 2) pa_nil)) pe_int)) (pe_op u_mul pe_int (pe_ix ix_seq (pv 0) pe_int (fun _ _ => rfl)))))
  (pss_one (ps_asg (pe_op op_mod (pe_callTy u_int rfl T.b.int_ (by decide +kernel) (pa_cons (pv 3) pa_nil)) pe_int) (pg_sub (pv 0) pe_int set_list))))))))
    pss_nil)
  (pss_cons (ps_if (pt_cmpR op_gt (pe_ix ix_seq (pv 0) pe_int (fun _ _ => rfl)) pe_int (nomark _))
    (pss_cons (ps_set (i := 4) sc_take.nd rfl (Or.inl rfl) (pe_op op_mod (pe_callTy u_int rfl T.b.int_ (by decide +kernel) (pa_cons (pe_ix ix_seq (pv 0) pe_int (fun _ _ => rfl)) pa_nil)) (pv 1)))
  (pss_cons (ps_asg (pe_op op_fdiv (pe_callTy u_int rfl T.b.int_ (by decide +kernel) (pa_cons (pe_ix ix_seq (pv 0) pe_int (fun _ _ => rfl)) pa_nil)) (pv 1)) (pg_sub (pv 0) pe_int set_list))
  (pss_one (ps_ret (pv 4)))))
    pss_nil)
  (pss_cons (ps_set (i := 5) sc_take.nd rfl (Or.inl rfl) (pe_op op_mod (pe_callTy u_int rfl T.b.int_ (by decide +kernel) (pa_cons (pe_op u_mul (pe_op u_add (pe_ix ix_seq (pv 0) pe_int (fun _ _ => rfl)) pe_int) pe_int) pa_nil)) pe_int))
  (pss_cons (ps_set (i := 6) sc_take.nd rfl (Or.inl rfl) (pe_op op_mod (pe_callTy u_int rfl T.b.int_ (by decide +kernel) (pa_cons (pe_op u_mul (pe_op op_mod (pe_callTy u_int rfl T.b.int_ (by decide +kernel) (pa_cons (pe_op u_mul (pv 5) (pv 5)) pa_nil)) pe_int) pe_int) pa_nil)) pe_int))
  (pss_one (ps_ret (pe_op op_mod (pe_callTy u_int rfl T.b.int_ (by decide +kernel) (pa_cons (pe_op op_fdiv (pv 6) pe_int) pa_nil)) (pv 1)))))))), ?_⟩
    obtain ⟨i, j, n, cs, hb, hc, hcb, hi, hj, hj2, hn, hcs⟩ := hB
    -- the bag fed, or not
    refine a_cut (fun σ' H' => ∃ v2 v3, σ' = [some (.ref b), some (.int m), v2, v3, none, none, none] ∧ Bag H' b c ∧ Kp b H H') ?_ ?_
    · walk_at "el"
      walk_at "el"
      refine ite2 (fun h0 => ?_) (fun h0 => ?_)
      · walk_at "el"
        refine a_cut (fun σ' H' => ∃ x : Int, 0 ≤ x ∧ σ' = [some (.ref b), some (.int m), some (.int x), none, none, none, none] ∧ H' = H) ?_ ?_
        · walk_at "el"
          walk_at "el"
          refine ite2 (fun h1 => ?_) (fun h1 => ?_)
          · obtain ⟨x, hx, x0⟩ := cell_at hn (of_decide_eq_true h1) hcs
            walk_at "el"
            refine n_ixL (SqL.of hc) hx ?_
            walk_at "el"
            exact ⟨x, x0, rfl, rfl⟩
          · walk_at "el"
            exact ⟨0, by decide, rfl, rfl⟩
        · rintro σ' H' ⟨x, x0, rfl, rfl⟩
          walk_at "el"
          refine a_set hb rfl ?_
          refine a_cut (fun σ' H1 => ∃ i', 0 ≤ i' ∧ σ' = [some (.ref b), some (.int m), some (.int x), none, none, none, none] ∧ H1 b = some (.lst [.int i', .int j, .int (n + 1), .ref c]) ∧ ∀ a, a ≠ b → H1 a = H' a) ?_ ?_
          · walk_at "el"
            refine ite2 (fun h1 => ?_) (fun h1 => ?_)
            · walk_at "el"
              refine a_set upd_same rfl ?_
              walk_at "el"
              exact ⟨x, x0, rfl, upd_same, fun a h => by rw [upd_ne h, upd_ne h]⟩
            · walk_at "el"
              exact ⟨i, hi, rfl, upd_same, fun a h => upd_ne h⟩
          · rintro σ' H1 ⟨i', hi', rfl, hb', ho⟩
            have hc' : H1 c = some (.lst (cs.map V.int)) := (ho c hcb).trans hc
            walk_at "el"
            refine n_mul (.inr (by decide)) ?_
            walk_at "el"
            refine a_I (by show (0 : Int) < 2147483647; decide) ?_
            walk_at "el"
            refine n_mul (.inl (by decide)) ?_
            walk_at "el"
            refine a_I (by show (0 : Int) < 2147483647; decide) ?_
            walk_at "el"
            refine a_set hb' rfl ?_
            walk_at "el"
            refine ⟨_, _, rfl, ⟨i', _, n + 1, cs, upd_same, by rw [upd_ne hcb]; exact hc', hcb, hi', Int.emod_nonneg _ (by decide), Int.emod_lt_of_pos _ (by decide), by omega, hcs⟩, fun a o h e => ?_⟩
            rw [upd_ne h, ho a h]
            exact e
      · walk_at "el"
        exact ⟨_, _, rfl, ⟨i, j, n, cs, hb, hc, hcb, hi, hj, hj2, hn, hcs⟩, Kp.refl b H⟩
    · clear hb hc hcb hi hj hj2 hn hcs
      rintro σ' H1 ⟨v2, v3, rfl, ⟨i, j, n, cs, hb, hc, hcb, hi, hj, hj2, hn, hcs⟩, k1⟩
      walk_at "el"
      refine ite2 (fun h0 => ?_) (fun h0 => ?_)
      · walk_at "el"
        walk_at "el"
        refine a_I hm0 ?_
        walk_at "el"
        refine a_I ⟨hm0, by omega⟩ ?_
        walk_at "el"
        refine a_set hb rfl ?_
        walk_at "el"
        refine k _ _ (Int.emod_nonneg _ (by omega)) (Int.emod_lt_of_pos _ hm0) ?_ k1.bag
        exact ⟨_, j, n, cs, upd_same, by rw [upd_ne hcb]; exact hc, hcb, Int.ediv_nonneg hi (by omega), hj, hj2, hn, hcs⟩
      · walk_at "el"
        walk_at "el"
        refine n_mul (.inr (by decide)) ?_
        walk_at "el"
        refine a_I (by show (0 : Int) < 1000000007; decide) ?_
        have e0 := Int.emod_nonneg ((j + 1) * 39373) (show (1000000007 : Int) ≠ 0 by decide)
        have e1 := Int.emod_lt_of_pos ((j + 1) * 39373) (show (0 : Int) < 1000000007 by decide)
        walk_at "el"
        refine n_mul (.inl ⟨by omega, by omega⟩) ?_
        walk_at "el"
        refine a_I (by show (0 : Int) < 998244353; decide) ?_
        walk_at "el"
        refine n_mul (.inr (by decide)) ?_
        walk_at "el"
        refine a_I (by show (0 : Int) < 998244353; decide) ?_
        walk_at "el"
        refine a_I ⟨by decide, by decide⟩ ?_
        walk_at "el"
        refine a_I hm0 ?_
        walk_at "el"
        exact k _ _ (Int.emod_nonneg _ (by omega)) (Int.emod_lt_of_pos _ hm0) ⟨i, j, n, cs, hb, hc, hcb, hi, hj, hj2, hn, hcs⟩ k1
end
end EL

/- part B -/
namespace EL
open PySem PySem.Spec PyProof.Rows L2
open PySem.W (Frag)
abbrev s_is_integer : Stmt := top 8
abbrev N_is_integer : List Str := ["thing"]
theorem sc_is_integer : FnScope N_is_integer ["thing"] (defScope s_is_integer) := ⟨rfl, rfl, rfl, by decide +kernel, rfl, by decide +kernel, by decide +kernel⟩
abbrev s_is_number : Stmt := top 9
abbrev N_is_number : List Str := ["thing"]
theorem sc_is_number : FnScope N_is_number ["thing"] (defScope s_is_number) := ⟨rfl, rfl, rfl, by decide +kernel, rfl, by decide +kernel, by decide +kernel⟩
abbrev s_is_kind : Stmt := top 10
abbrev N_is_kind : List Str := ["thing"]
theorem sc_is_kind : FnScope N_is_kind ["thing"] (defScope s_is_kind) := ⟨rfl, rfl, rfl, by decide +kernel, rfl, by decide +kernel, by decide +kernel⟩
abbrev s_is_tuple : Stmt := top 11
abbrev N_is_tuple : List Str := ["thing", "many"]
theorem sc_is_tuple : FnScope N_is_tuple ["thing", "many"] (defScope s_is_tuple) := ⟨rfl, rfl, rfl, by decide +kernel, rfl, by decide +kernel, by decide +kernel⟩
structure Wo (K : Frag) (mg : Str → Option Value) : Prop where
  b : Bi mg
  k_GREATEST_NUMBER : ∃ u, mg "GREATEST_NUMBER" = some u ∧ L2.RelV (.int 1000000000000000) u
local macro_rules | `(tactic| walk_at "el1") => `(tactic| with_reducible first
  | refine a_sasg ?_ | refine a_sdrop ?_ | refine a_saugS ?_ | refine a_spar ?_ | refine a_seq ?_ | refine a_asg ?_ | refine a_drop ?_ | refine a_ret ?_ | refine a_if ?_ | refine a_next ?_
  | refine a_op ?_ | refine a_cons ?_ | refine a_nil ?_ | refine a_cb ?_ | refine a_call ?_ | refine a_c ?_ | refine a_gn ?_ | refine a_nx ?_ | refine a_rt ?_ | refine a_un ?_
  | refine a_test ?_ | refine a_B ?_ | refine a_bl ?_ | refine a_and ?_ | refine a_or ?_ | refine a_not ?_ | refine a_andV ?_ | refine a_orV ?_ | refine a_notV ?_ | refine a_ifx ?_ | refine a_chain ?_
  | refine a_nT ?_ | refine a_nF ?_ | refine a_fld ?_ | refine a_getF ?_ | refine a_T ?_ | refine a_F ?_ | refine a_tup ?_ | refine a_lst ?_ | refine a_sub ?_ | refine a_augS ?_ | refine a_two ?_ | refine a_I0 ?_ | refine a_U ?_ | refine n_add ?_ | refine n_int ?_ | refine n_ib ?_ | refine a_ip ?_ | refine a_rng1 ?_ | refine a_rng2 ?_ | refine a_bm ?_ | refine a_abs ?_ | refine a_pairs ?_ | refine a_pairs0 ?_ | refine a_bk ?_ | refine a_prp ?_ | refine a_lc ?_ | refine a_yes ?_ | refine a_sl ?_ | refine a_nop ?_ | refine a_prt ?_ | refine a_ex1 ?_ | refine a_for ?_ | refine a_sfor ?_ | refine a_iE1 ?_ | refine a_iEs ?_ | refine a_iEz ?_ | refine a_iEnum ?_ | refine a_iTup ?_ | refine a_iList ?_ | refine a_gcons ?_ | refine a_gnil ?_ | refine a_revT ?_ | refine a_spar3 ?_ | refine a_par3 ?_ | refine a_three ?_)
local macro_rules | `(tactic| walk_at "el2") => `(tactic| first
  | (refine a_var (by rfl) ?_)
  | (refine n_ixL (SqL.of (by assumption)) (by rfl) ?_) | (refine n_ixT (SqT.of (by assumption)) (by rfl) ?_) | (refine n_eq (by rfl) ?_) | (refine n_ne (by rfl) ?_)
  | (refine n_isN ?_) | (refine n_notN ?_) | (refine n_isB ?_) | (refine n_notB ?_) | (refine n_isBI ?_) | (refine n_notBI ?_) | (refine n_len (.inl (SqL.of (by assumption))) ?_) | (refine n_len (.inr (SqT.of (by assumption))) ?_)
  | (refine a_getL (SqL.of (by assumption)) (by rfl) ?_)
  | (refine n_isInt (by assumption) ?_) | (refine n_isBool (by assumption) ?_) | (refine n_isStr (by assumption) ?_) | (refine n_isTup (by assumption) ?_) | (refine n_isLst (by assumption) ?_))
local macro_rules | `(tactic| walk_at "el") => `(tactic| repeat (first | walk_at "el1" | walk_at "el2"))

/-! ### what the words mean -/
def intB : V → Bool | .int _ => true | _ => false
def numB : V → Bool | .int i => decide (-1000000000000000 ≤ i) && decide (i ≤ 1000000000000000) | _ => false
def kindB : V → Bool | .str s => decide (s = "early") || decide (s = "late") | _ => false
def otherK (s : Str) : Str := if s = "early" then "late" else "early"
def spB (f : V → Bool) (K : Frag) : Sp := fun vs H Q _ => ∃ x, vs = [x] ∧ Th K H x ∧ ∀ H', Same H H' → Q (.bl (f x)) H'
theorem intB_eq (x : V) : (if isI x = true then !isB x else false) = intB x := by cases x <;> rfl
/-- a tuple of so many -/
def tupN (H : Hp) (x : V) (n : Int) : Prop := ∃ a xs, x = .ref a ∧ H a = some (.tup xs) ∧ (xs.length : Int) = n
def spTu (K : Frag) : Sp := fun vs H Q _ => ∃ (x : V) (n : Int), vs = [x, .int n] ∧ Th K H x ∧ ∀ b, (b = true ↔ tupN H x n) → Q (.bl b) H
theorem isT_tup {K : Frag} {H : Hp} {x : V} (th : Th K H x) (e : isT H x = true) : ∃ a xs, x = .ref a ∧ H a = some (.tup xs) := by
  cases th with
  | tup h => exact ⟨_, _, rfl, h⟩
  | @lst a xs h => (exfalso; have q : obT (H a) = true := e; rw [h] at q; cases q)
  | @dct a xs h => (exfalso; have q : obT (H a) = true := e; rw [h] at q; cases q)
  | @ins a C dx fs h c => (exfalso; have q : obT (H a) = true := e; rw [h] at q; cases q)
  | @dtt a kvs h => (exfalso; have q : obT (H a) = true := e; rw [h] at q; cases q)
  | _ => cases e
theorem isT_of {H : Hp} {a : Addr} {xs : List V} (h : H a = some (.tup xs)) : isT H (.ref a) = true := by show obT (H a) = true; rw [h]; rfl
section
variable {P : Program} {w : World} {K : Frag} {mg : Str → Option Value} {base : Heap} {f : Addr} {fd : FuncData}
theorem ok_is_tuple (F : Fun K "is_tuple" "is_tuple" s_is_tuple f fd) (T : Wo K mg) : FnOk P w K mg base CX0 1 f fd ["thing", "many"] (spTu K) := by
  refine F.ok sc_is_tuple (fun vs H Q E h => ?_) (fun cdv A outer s H vs Q E hr h => ?_)
  · obtain ⟨x, n, rfl, _⟩ := h
    rfl
  · obtain ⟨x, n, rfl, hx, k⟩ := h
    refine ⟨_, (pss_one (ps_ret (pe_and (pe_callB u_isi rfl T.b.isinstance_ boot_isinstance (pa_cons (pv 0) (pa_cons (pe_bltn (v := V.ty "tuple") rfl T.b.tuple_ (by decide +kernel) rfl) pa_nil))) (pe_one (pe_cmpR (u_eq hr.units) (pe_callB u_len rfl T.b.len_ boot_len (pa_cons (pv 0) pa_nil)) (pv 1) (nomark _)))))), ?_⟩
    obtain ⟨t, kt⟩ := hx.kit
    walk_at "el"
    refine ite2 (fun h0 => ?_) (fun h0 => ?_)
    · obtain ⟨a, xs, rfl, ha⟩ := isT_tup hx h0
      walk_at "el"
      refine k _ ⟨fun z => ⟨a, xs, rfl, ha, by simpa using z⟩, ?_⟩
      rintro ⟨a', xs', e, ha', hl⟩
      cases e
      rw [ha] at ha'
      cases ha'
      simpa using hl
    · walk_at "el"
      refine k _ ⟨(fun h => nomatch h), ?_⟩
      rintro ⟨a, xs, rfl, ha, _⟩
      rw [isT_of ha] at h0
      exact absurd rfl h0
/-- a tuple of this word and one value more -/
def spHd (K : Frag) : Sp := fun vs H Q _ => ∃ (x : V) (wd : Str), vs = [x, .str wd] ∧ Th K H x ∧ (∀ q xs, x = .ref q → H q = some (.tup xs) → ∀ y ∈ xs, Th K H y) ∧ ∀ b, (b = true ↔ ∃ a y, x = .ref a ∧ H a = some (.tup [.str wd, y])) → Q (.bl b) H
theorem ok_is_integer (F : Fun K "is_integer" "is_integer" s_is_integer f fd) (T : Wo K mg) : FnOk P w K mg base CX0 1 f fd ["thing"] (spB intB K) := by
  refine F.ok sc_is_integer (fun vs H Q E h => ?_) (fun cdv A outer s H vs Q E hr h => ?_)
  · obtain ⟨x, rfl, _⟩ := h
    rfl
  · obtain ⟨x, rfl, hx, k⟩ := h
    refine ⟨_, (pss_one (ps_ret (pe_and (pe_callB u_isi rfl T.b.isinstance_ boot_isinstance (pa_cons (pv 0) (pa_cons (pe_bltn (v := V.ty "int") rfl T.b.int_ (by decide +kernel) rfl) pa_nil))) (pe_one (pe_not (pe_callB u_isi rfl T.b.isinstance_ boot_isinstance (pa_cons (pv 0) (pa_cons (pe_bltn (v := V.ty "bool") rfl T.b.bool_ (by decide +kernel) rfl) pa_nil)))))))), ?_⟩
    obtain ⟨t, kt⟩ := hx.kit
    walk_at "el"
    refine ite2 (fun h0 => ?_) (fun h0 => ?_)
    · walk_at "el"
      rw [← intB_eq, if_pos h0] at k
      exact k _ (Same.refl _)
    · walk_at "el"
      rw [← intB_eq, if_neg h0] at k
      exact k _ (Same.refl _)
theorem ok_is_number (F : Fun K "is_number" "is_number" s_is_number f fd) (T : Wo K mg) (c_is_integer : Cal P w K mg base CX0 1 "is_integer" ["thing"] (spB intB K)) : FnOk P w K mg base CX0 2 f fd ["thing"] (spB numB K) := by
  refine F.ok sc_is_number (fun vs H Q E h => ?_) (fun cdv A outer s H vs Q E hr h => ?_)
  · obtain ⟨x, rfl, _⟩ := h
    rfl
  · obtain ⟨x, rfl, hx, k⟩ := h
    refine ⟨_, (pss_one (ps_ret (pe_and (pe_cal c_is_integer (hr.mono (by decide)) pass0 (pa_cons (pv 0) pa_nil)) (pe_one (pe_chain op_le op_le (pe_un un_neg (pe_gc (v := .int 1000000000000000) rfl T.k_GREATEST_NUMBER)) (pv 0) (pe_gc (v := .int 1000000000000000) rfl T.k_GREATEST_NUMBER)))))), ?_⟩
    walk_at "el"
    refine ⟨x, rfl, hx, fun H1 s1 => ?_⟩
    walk_at "el"
    refine ite2 (fun h0 => ?_) (fun h0 => ?_)
    · obtain ⟨i, rfl⟩ : ∃ i, x = .int i := by cases x <;> first | exact ⟨_, rfl⟩ | cases h0
      walk_at "el"
      refine ite2 (fun h1 => ?_) (fun h1 => ?_)
      · walk_at "el"
        have e : numB (.int i) = decide (i ≤ 1000000000000000) := by show (decide _ && decide _) = _; rw [h1]; rfl
        rw [e] at k
        exact k _ s1
      · walk_at "el"
        have e : numB (.int i) = false := by show (decide _ && decide _) = _; rw [Bool.not_eq_true _ |>.mp h1]; rfl
        rw [e] at k
        exact k _ s1
    · walk_at "el"
      have e : numB x = false := by cases x <;> first | rfl | exact absurd rfl h0
      rw [e] at k
      exact k _ s1
theorem ok_is_kind (F : Fun K "is_kind" "is_kind" s_is_kind f fd) (T : Wo K mg) : FnOk P w K mg base CX0 1 f fd ["thing"] (spB kindB K) := by
  refine F.ok sc_is_kind (fun vs H Q E h => ?_) (fun cdv A outer s H vs Q E hr h => ?_)
  · obtain ⟨x, rfl, _⟩ := h
    rfl
  · obtain ⟨x, rfl, hx, k⟩ := h
    refine ⟨_, (pss_one (ps_ret (pe_and (pe_callB u_isi rfl T.b.isinstance_ boot_isinstance (pa_cons (pv 0) (pa_cons (pe_bltn (v := V.ty "str") rfl T.b.str_ (by decide +kernel) rfl) pa_nil))) (pe_one (pe_cmpR u_in (pv 0) (pe_tup (pa_cons pe_str (pa_cons pe_str pa_nil))) rfl))))), ?_⟩
    obtain ⟨t, kt⟩ := hx.kit
    walk_at "el"
    refine ite2 (fun h0 => ?_) (fun h0 => ?_)
    · obtain ⟨i, rfl⟩ : ∃ i, x = .str i := by cases x <;> first | exact ⟨_, rfl⟩ | cases h0
      walk_at "el"
      refine ⟨by decide, fun p hp => n_inT upd_same rfl rfl ?_⟩
      walk_at "el"
      have e : kindB (.str i) = inV (.str i) [.str "early", .str "late"] := by
        show (decide _ || decide _) = (_ == _ || (_ == _ || false))
        rw [Bool.or_false]
        congr 1 <;> (rw [Bool.eq_iff_iff, decide_eq_true_iff, beq_iff_eq]; exact ⟨fun h => h.symm, fun h => h.symm⟩)
      rw [e] at k
      exact k _ (L2.Same.nw (Same.refl _) hp)
    · walk_at "el"
      have e : kindB x = false := by cases x <;> first | rfl | exact absurd rfl h0
      rw [e] at k
      exact k _ (Same.refl _)
def spTl : Sp := fun vs H Q _ => ∃ p x s, vs = [.ref p] ∧ H p = some (.tup [x, .str s]) ∧ ∀ r, H r = none → Q (.ref r) (upd H r (.tup [x, .str (otherK s)]))
end
end EL

/- part C -/
namespace EL
open PySem PySem.Spec PyProof.Rows L2
open PySem.W (Frag)
abbrev s_is_below : Stmt := top 15
abbrev N_is_below : List Str := ["thing", "many"]
theorem sc_is_below : FnScope N_is_below ["thing", "many"] (defScope s_is_below) := ⟨rfl, rfl, rfl, by decide +kernel, rfl, by decide +kernel, by decide +kernel⟩
abbrev s_is_side : Stmt := top 16
abbrev N_is_side : List Str := ["thing"]
theorem sc_is_side : FnScope N_is_side ["thing"] (defScope s_is_side) := ⟨rfl, rfl, rfl, by decide +kernel, rfl, by decide +kernel, by decide +kernel⟩
abbrev s_first_wrong : Stmt := top 17
abbrev N_first_wrong : List Str := ["part", "values", "events", "witnesses", "place", "word"]
theorem sc_first_wrong : FnScope N_first_wrong ["part", "values", "events", "witnesses"] (defScope s_first_wrong) := ⟨rfl, rfl, rfl, by decide +kernel, rfl, by decide +kernel, by decide +kernel⟩
abbrev s__can_stand : Stmt := top 18
abbrev N__can_stand : List Str := ["word", "values", "place", "events", "witnesses", "thing"]
theorem sc__can_stand : FnScope N__can_stand ["word", "values", "place", "events", "witnesses"] (defScope s__can_stand) := ⟨rfl, rfl, rfl, by decide +kernel, rfl, by decide +kernel, by decide +kernel⟩
abbrev s_is_item : Stmt := top 19
abbrev N_is_item : List Str := ["part", "thing", "events", "witnesses"]
theorem sc_is_item : FnScope N_is_item ["part", "thing", "events", "witnesses"] (defScope s_is_item) := ⟨rfl, rfl, rfl, by decide +kernel, rfl, by decide +kernel, by decide +kernel⟩
local macro_rules | `(tactic| walk_at "el1") => `(tactic| with_reducible first
  | refine a_sasg ?_ | refine a_sdrop ?_ | refine a_saugS ?_ | refine a_spar ?_ | refine a_seq ?_ | refine a_asg ?_ | refine a_drop ?_ | refine a_ret ?_ | refine a_if ?_ | refine a_next ?_
  | refine a_op ?_ | refine a_cons ?_ | refine a_nil ?_ | refine a_cb ?_ | refine a_call ?_ | refine a_c ?_ | refine a_gn ?_ | refine a_nx ?_ | refine a_rt ?_ | refine a_un ?_
  | refine a_test ?_ | refine a_B ?_ | refine a_bl ?_ | refine a_and ?_ | refine a_or ?_ | refine a_not ?_ | refine a_andV ?_ | refine a_orV ?_ | refine a_notV ?_ | refine a_ifx ?_ | refine a_chain ?_
  | refine a_nT ?_ | refine a_nF ?_ | refine a_fld ?_ | refine a_getF ?_ | refine a_T ?_ | refine a_F ?_ | refine a_tup ?_ | refine a_lst ?_ | refine a_sub ?_ | refine a_augS ?_ | refine a_two ?_ | refine a_I0 ?_ | refine a_U ?_ | refine n_add ?_ | refine n_int ?_ | refine n_ib ?_ | refine a_ip ?_ | refine a_rng1 ?_ | refine a_rng2 ?_ | refine a_bm ?_ | refine a_abs ?_ | refine a_pairs ?_ | refine a_pairs0 ?_ | refine a_bk ?_ | refine a_prp ?_ | refine a_lc ?_ | refine a_yes ?_ | refine a_sl ?_ | refine a_nop ?_ | refine a_prt ?_ | refine a_ex1 ?_ | refine a_for ?_ | refine a_sfor ?_ | refine a_iE1 ?_ | refine a_iEs ?_ | refine a_iEz ?_ | refine a_iEnum ?_ | refine a_iTup ?_ | refine a_iList ?_ | refine a_gcons ?_ | refine a_gnil ?_ | refine a_revT ?_ | refine a_spar3 ?_ | refine a_par3 ?_ | refine a_three ?_)
local macro_rules | `(tactic| walk_at "el2") => `(tactic| first
  | (refine a_var (by rfl) ?_)
  | (refine n_ixL (SqL.of (by assumption)) (by rfl) ?_) | (refine n_ixT (SqT.of (by assumption)) (by rfl) ?_) | (refine n_eq (by rfl) ?_) | (refine n_ne (by rfl) ?_)
  | (refine n_isN ?_) | (refine n_notN ?_) | (refine n_isB ?_) | (refine n_notB ?_) | (refine n_isBI ?_) | (refine n_notBI ?_) | (refine n_len (.inl (SqL.of (by assumption))) ?_) | (refine n_len (.inr (SqT.of (by assumption))) ?_)
  | (refine a_getL (SqL.of (by assumption)) (by rfl) ?_)
  | (refine n_isInt (by assumption) ?_) | (refine n_isBool (by assumption) ?_) | (refine n_isStr (by assumption) ?_) | (refine n_isTup (by assumption) ?_) | (refine n_isLst (by assumption) ?_))
local macro_rules | `(tactic| walk_at "el") => `(tactic| repeat (first | walk_at "el1" | walk_at "el2"))

/-! ### items -/
inductive Pt | tel | gap | sur | cla
  deriving DecidableEq
def Pt.name : Pt → Str | .tel => "tellings" | .gap => "gaps" | .sur => "sure" | .cla => "clauses"
def Pt.form : Pt → List Str
  | .tel => ["witness", "event", "number"]
  | .gap => ["event", "another event", "number"]
  | .sur => ["event", "side", "number"]
  | .cla => ["witness", "kind", "witness", "kind"]
def belowB (x : V) (n : Int) : Bool := match x with | .int i => decide (0 ≤ i) && decide (i < n) | _ => false
def sideB : V → Bool | .str s => decide (s = "least") || decide (s = "most") | _ => false
def turnS (s : Str) : Str := if s = "least" then "most" else "least"
structure It4 (K : Frag) (w : World) (mg : Str → Option Value) (aForms aParts : Addr) : Prop where
  b : Bi mg
  gForms : mg "FORMS" = some (.ref aForms)
  gParts : mg "PARTS" = some (.ref aParts)
  forms : ∀ p : Pt, ∃ a, KDct K w aForms p.name (.ref a) ∧ ∀ H, SqT K H a (p.form.map V.str)
  parts : ∀ H, SqT K H aParts [.str "tellings", .str "gaps", .str "sure", .str "clauses"]
def spBelow (K : Frag) : Sp := fun vs H Q _ => ∃ x n, vs = [x, .int n] ∧ Th K H x ∧ ∀ H', Same H H' → Q (.bl (belowB x n)) H'
section
variable {P : Program} {w : World} {K : Frag} {mg : Str → Option Value} {base : Heap} {f : Addr} {fd : FuncData} {aForms aParts : Addr}
theorem ok_is_below (F : Fun K "is_below" "is_below" s_is_below f fd) (c_is_integer : Cal P w K mg base CX0 1 "is_integer" ["thing"] (spB intB K)) : FnOk P w K mg base CX0 2 f fd ["thing", "many"] (spBelow K) := by
  refine F.ok sc_is_below (fun vs H Q E h => ?_) (fun cdv A outer s H vs Q E hr h => ?_)
  · obtain ⟨x, n, rfl, _⟩ := h
    rfl
  · obtain ⟨x, n, rfl, hx, k⟩ := h
    refine ⟨_, (pss_one (ps_ret (pe_and (pe_cal c_is_integer (hr.mono (by decide)) pass0 (pa_cons (pv 0) pa_nil)) (pe_one (pe_chain op_le op_lt pe_int (pv 0) (pv 1)))))), ?_⟩
    walk_at "el"
    refine ⟨x, rfl, hx, fun H1 s1 => ?_⟩
    walk_at "el"
    refine ite2 (fun h0 => ?_) (fun h0 => ?_)
    · obtain ⟨i, rfl⟩ : ∃ i, x = .int i := by cases x <;> first | exact ⟨_, rfl⟩ | cases h0
      walk_at "el"
      refine ite2 (fun h1 => ?_) (fun h1 => ?_)
      · walk_at "el"
        have e : belowB (.int i) n = decide (i < n) := by show (decide _ && decide _) = _; rw [h1]; rfl
        rw [e] at k
        exact k _ s1
      · walk_at "el"
        have e : belowB (.int i) n = false := by show (decide _ && decide _) = _; rw [Bool.not_eq_true _ |>.mp h1]; rfl
        rw [e] at k
        exact k _ s1
    · walk_at "el"
      have e : belowB x n = false := by cases x <;> first | rfl | exact absurd rfl h0
      rw [e] at k
      exact k _ s1
theorem ok_is_side (F : Fun K "is_side" "is_side" s_is_side f fd) (T : It4 K w mg aForms aParts) : FnOk P w K mg base CX0 1 f fd ["thing"] (spB sideB K) := by
  refine F.ok sc_is_side (fun vs H Q E h => ?_) (fun cdv A outer s H vs Q E hr h => ?_)
  · obtain ⟨x, rfl, _⟩ := h
    rfl
  · obtain ⟨x, rfl, hx, k⟩ := h
    refine ⟨_, (pss_one (ps_ret (pe_and (pe_callB u_isi rfl T.b.isinstance_ boot_isinstance (pa_cons (pv 0) (pa_cons (pe_bltn (v := V.ty "str") rfl T.b.str_ (by decide +kernel) rfl) pa_nil))) (pe_one (pe_cmpR u_in (pv 0) (pe_tup (pa_cons pe_str (pa_cons pe_str pa_nil))) rfl))))), ?_⟩
    obtain ⟨t, kt⟩ := hx.kit
    walk_at "el"
    refine ite2 (fun h0 => ?_) (fun h0 => ?_)
    · obtain ⟨i, rfl⟩ : ∃ i, x = .str i := by cases x <;> first | exact ⟨_, rfl⟩ | cases h0
      walk_at "el"
      refine ⟨by decide, fun p hp => n_inT upd_same rfl rfl ?_⟩
      walk_at "el"
      have e : sideB (.str i) = inV (.str i) [.str "least", .str "most"] := by
        show (decide _ || decide _) = (_ == _ || (_ == _ || false))
        rw [Bool.or_false]
        congr 1 <;> (rw [Bool.eq_iff_iff, decide_eq_true_iff, beq_iff_eq]; exact ⟨fun h => h.symm, fun h => h.symm⟩)
      rw [e] at k
      exact k _ (L2.Same.nw (Same.refl _) hp)
    · walk_at "el"
      have e : sideB x = false := by cases x <;> first | rfl | exact absurd rfl h0
      rw [e] at k
      exact k _ (Same.refl _)
/-- what may stand at a place -/
def standB (word : Str) (xs : List V) (i : Nat) (x : V) (ev wi : Int) : Bool :=
  if word = "witness" then belowB x wi else if word = "event" then belowB x ev else if word = "another event" then belowB x ev && !decide (some x = xs[i - 1]?)
  else if word = "side" then sideB x else if word = "kind" then kindB x else numB x
def spCan (K : Frag) : Sp := fun vs H Q _ => ∃ (word : Str) (a : Addr) (xs : List V) (i : Nat) (x : V) (ev wi : Int), vs = [.str word, .ref a, .int i, .int ev, .int wi] ∧ H a = some (.tup xs) ∧ xs[i]? = some x ∧ Th K H x ∧
  (word = "another event" → 1 ≤ i ∧ ∃ j, xs[i - 1]? = some (.int j)) ∧ ∀ H', Same H H' → Q (.bl (standB word xs i x ev wi)) H'
theorem ok_can_stand (F : Fun K "_can_stand" "_can_stand" s__can_stand f fd) (c_is_below : Cal P w K mg base CX0 2 "is_below" ["thing", "many"] (spBelow K)) (c_is_side : Cal P w K mg base CX0 1 "is_side" ["thing"] (spB sideB K))
    (c_is_kind : Cal P w K mg base CX0 1 "is_kind" ["thing"] (spB kindB K)) (c_is_number : Cal P w K mg base CX0 2 "is_number" ["thing"] (spB numB K)) :
    FnOk P w K mg base CX0 3 f fd ["word", "values", "place", "events", "witnesses"] (spCan K) := by
  refine F.ok sc__can_stand (fun vs H Q E h => ?_) (fun cdv A outer s H vs Q E hr h => ?_)
  · obtain ⟨_, _, _, _, _, _, _, rfl, _⟩ := h
    rfl
  · obtain ⟨word, a, xs, i, x, ev, wi, rfl, ha, hx, th, hp, k⟩ := h
    refine ⟨_, (pss_cons (ps_set (i := 5) sc__can_stand.nd rfl (Or.inl rfl) (pe_ix ix_seq (pv 1) (pv 2) (fun _ _ => rfl)))
  (pss_cons (ps_if (pt_cmpR (u_eq hr.units) (pv 0) pe_str (nomark _))
    (pss_one (ps_ret (pe_cal c_is_below (hr.mono (by decide)) pass0 (pa_cons (pv 5) (pa_cons (pv 4) pa_nil)))))
    pss_nil)
  (pss_cons (ps_if (pt_cmpR (u_eq hr.units) (pv 0) pe_str (nomark _))
    (pss_one (ps_ret (pe_cal c_is_below (hr.mono (by decide)) pass0 (pa_cons (pv 5) (pa_cons (pv 3) pa_nil)))))
    pss_nil)
  (pss_cons (ps_if (pt_cmpR (u_eq hr.units) (pv 0) pe_str (nomark _))
    (pss_one (ps_ret (pe_and (pe_cal c_is_below (hr.mono (by decide)) pass0 (pa_cons (pv 5) (pa_cons (pv 3) pa_nil))) (pe_one (pe_cmpR (u_ne hr.units) (pv 5) (pe_ix ix_seq (pv 1) (pe_op op_sub (pv 2) pe_int) (fun _ _ => rfl)) (nomark _))))))
    pss_nil)
  (pss_cons (ps_if (pt_cmpR (u_eq hr.units) (pv 0) pe_str (nomark _))
    (pss_one (ps_ret (pe_cal c_is_side (hr.mono (by decide)) pass0 (pa_cons (pv 5) pa_nil))))
    pss_nil)
  (pss_cons (ps_if (pt_cmpR (u_eq hr.units) (pv 0) pe_str (nomark _))
    (pss_one (ps_ret (pe_cal c_is_kind (hr.mono (by decide)) pass0 (pa_cons (pv 5) pa_nil))))
    pss_nil)
  (pss_one (ps_ret (pe_cal c_is_number (hr.mono (by decide)) pass0 (pa_cons (pv 5) pa_nil)))))))))), ?_⟩
    unfold standB at k
    walk_at "el"
    refine n_ixT (SqT.of ha) (atI_nat hx) ?_
    walk_at "el"
    refine ite2 (fun h0 => ?_) (fun h0 => ?_)
    · rw [if_pos (by simpa using h0)] at k
      walk_at "el"
      exact ⟨x, wi, rfl, th, fun H1 s1 => k _ s1⟩
    rw [if_neg (by simpa using h0)] at k
    walk_at "el"
    refine ite2 (fun h0 => ?_) (fun h0 => ?_)
    · rw [if_pos (by simpa using h0)] at k
      walk_at "el"
      exact ⟨x, ev, rfl, th, fun H1 s1 => k _ s1⟩
    rw [if_neg (by simpa using h0)] at k
    walk_at "el"
    refine ite2 (fun h0 => ?_) (fun h0 => ?_)
    · rw [if_pos (by simpa using h0)] at k
      obtain ⟨i1, j, hj⟩ := hp (by simpa using h0)
      walk_at "el"
      refine ⟨x, ev, rfl, th, fun H1 s1 => ?_⟩
      walk_at "el"
      refine ite2 (fun h1 => ?_) (fun h1 => ?_)
      · obtain ⟨z, rfl⟩ : ∃ z, x = .int z := by cases x <;> first | exact ⟨_, rfl⟩ | cases h1
        walk_at "el"
        have ei : (i : Int) - 1 = ((i - 1 : Nat) : Int) := by omega
        refine n_ixT (SqT.of (s1 _ _ ha)) (by rw [ei]; exact atI_nat hj) ?_
        walk_at "el"
        have e : (belowB (.int z) ev && !decide (some (.int z) = xs[i - 1]?)) = !decide (V.int z = V.int j) := by
          rw [h1, hj, Bool.true_and]
          congr 1
          rw [Bool.eq_iff_iff, decide_eq_true_iff, decide_eq_true_iff]
          exact ⟨fun h => Option.some.inj h, fun h => congrArg some h⟩
        rw [e] at k
        exact k _ s1
      · walk_at "el"
        rw [Bool.not_eq_true _ |>.mp h1, Bool.false_and] at k
        exact k _ s1
    rw [if_neg (by simpa using h0)] at k
    walk_at "el"
    refine ite2 (fun h0 => ?_) (fun h0 => ?_)
    · rw [if_pos (by simpa using h0)] at k
      walk_at "el"
      exact ⟨x, rfl, th, fun H1 s1 => k _ s1⟩
    rw [if_neg (by simpa using h0)] at k
    walk_at "el"
    refine ite2 (fun h0 => ?_) (fun h0 => ?_)
    · rw [if_pos (by simpa using h0)] at k
      walk_at "el"
      exact ⟨x, rfl, th, fun H1 s1 => k _ s1⟩
    rw [if_neg (by simpa using h0)] at k
    walk_at "el"
    exact ⟨x, rfl, th, fun H1 s1 => k _ s1⟩
/-- the values that may stand in an item -/
def StandsTo (p : Pt) (xs : List V) (ev wi : Int) (n : Nat) : Prop := ∀ j, j < n → ∀ wd x, p.form[j]? = some wd → xs[j]? = some x → standB wd xs j x ev wi = true
def spFw (K : Frag) : Sp := fun vs H Q _ => ∃ (p : Pt) (a : Addr) (xs : List V) (ev wi : Int), vs = [.str p.name, .ref a, .int ev, .int wi] ∧ H a = some (.tup xs) ∧ xs.length = p.form.length ∧ (∀ x ∈ xs, Th K H x) ∧
  (StandsTo p xs ev wi p.form.length → ∀ H', Same H H' → Q .non H') ∧
  (∀ i wd x, StandsTo p xs ev wi i → p.form[i]? = some wd → xs[i]? = some x → standB wd xs i x ev wi = false → ∀ H', Same H H' → Q (.int i) H')
theorem another_at {p : Pt} {i : Nat} (h : p.form[i]? = some ("another event" : Str)) : p = .gap ∧ i = 1 := by
  cases p <;> (rcases i with _ | _ | _ | _ | i) <;> first | exact ⟨rfl, rfl⟩ | (exfalso; revert h; decide) | cases h
theorem below_int {x : V} {n : Int} (h : belowB x n = true) : ∃ j, x = .int j ∧ 0 ≤ j ∧ j < n := by
  cases x with
  | int j =>
    have q : (decide (0 ≤ j) && decide (j < n)) = true := h
    rw [Bool.and_eq_true, decide_eq_true_iff, decide_eq_true_iff] at q
    exact ⟨j, rfl, q⟩
  | _ => cases h
theorem stands_prev {p : Pt} {xs : List V} {ev wi : Int} {i : Nat} (hl : xs.length = p.form.length) (h : StandsTo p xs ev wi i) (hw : p.form[i]? = some ("another event" : Str)) : 1 ≤ i ∧ ∃ j, xs[i - 1]? = some (.int j) := by
  obtain ⟨rfl, rfl⟩ := another_at hw
  have l0 : 0 < xs.length := by rw [hl]; decide
  have e0 : xs[0]? = some xs[0] := List.getElem?_eq_getElem l0
  have q := h 0 (by decide) "event" _ rfl e0
  obtain ⟨j, hj, _⟩ := below_int (x := xs[0]) (n := ev) (by
    unfold standB at q
    rw [if_neg (by decide), if_pos rfl] at q
    exact q)
  exact ⟨by decide, j, by rw [← hj]; exact e0⟩
theorem ok_first_wrong (F : Fun K "first_wrong" "first_wrong" s_first_wrong f fd) (T : It4 K w mg aForms aParts) (c__can_stand : Cal P w K mg base CX0 3 "_can_stand" ["word", "values", "place", "events", "witnesses"] (spCan K)) :
    FnOk P w K mg base CX0 4 f fd ["part", "values", "events", "witnesses"] (spFw K) := by
  refine F.ok sc_first_wrong (fun vs H Q E h => ?_) (fun cdv A outer s H vs Q E hr h => ?_)
  · obtain ⟨_, _, _, _, _, rfl, _⟩ := h
    rfl
  · obtain ⟨p, a, xs, ev, wi, rfl, ha, hl, th, kn, ki⟩ := h
    refine ⟨_, (pss_cons (ps_for PassesOwn.never rfl (pi_e1 rfl T.b.enumerate_ (pa_cons (pe_ix ix_kdict (pe_glob (v := .ref aForms) rfl T.gForms rfl) (pv 0) (fun _ _ => rfl)) pa_nil)) (pg_tup rfl (pgs_cons (pg_name (i := 4) sc_first_wrong.nd rfl (Or.inl rfl)) (pgs_cons (pg_name (i := 5) sc_first_wrong.nd rfl (Or.inl rfl)) pgs_nil)))
    (pss_one (ps_if (pt_not (pt_val (pe_cal c__can_stand (hr.mono (by decide)) pass0 (pa_cons (pv 5) (pa_cons (pv 1) (pa_cons (pv 4) (pa_cons (pv 2) (pa_cons (pv 3) pa_nil))))))))
    (pss_one (ps_ret (pv 4)))
    pss_nil)))
  (pss_one (ps_ret pe_non))), ?_⟩
    obtain ⟨aF, hF, sF⟩ := T.forms p
    walk_at "el"
    refine ⟨_, _, _, rfl, rfl, hF, ?_⟩
    walk_at "el"
    refine ⟨aF, _, rfl, sF _, ?_⟩
    refine lp_it (walk_es (xs := p.form.map V.str)) (fun i σ H1 => Same H H1 ∧ StandsTo p xs ev wi i ∧ ∃ v4 v5, σ = [some (.str p.name), some (.ref a), some (.int ev), some (.int wi), v4, v5]) ⟨Same.refl _, fun j h => absurd h (Nat.not_lt_zero j), _, _, rfl⟩ (fun i σ H1 hi h => sF _) ?_ ?_
    · rintro i x σ H1 H2 hi ⟨s1, hst, v4, v5, rfl⟩ ⟨t, _, rfl, ht, rfl, hwd⟩
      rw [List.length_map] at hi
      have hi2 : i < xs.length := by omega
      rw [List.getElem?_map, List.getElem?_eq_getElem hi] at hwd
      cases hwd
      have ew : p.form[i]? = some p.form[i] := List.getElem?_eq_getElem hi
      have ex : xs[i]? = some xs[i] := List.getElem?_eq_getElem hi2
      have s2 := L2.Same.nw (o := .tup [.int ((0 : Int) + i), .str p.form[i]]) s1 ht
      refine a_gtup (SqT.of upd_same) rfl ?_
      walk_at "el"
      refine ⟨p.form[i], a, xs, i, xs[i], ev, wi, by rw [Int.zero_add], s2 _ _ ha, ex, (th _ (List.getElem_mem hi2)).same s2, fun hn => stands_prev hl hst (by rw [ew, hn]), fun H3 s3 => ?_⟩
      walk_at "el"
      refine ite2 (fun h0 => ?_) (fun h0 => ?_)
      · walk_at "el"
        rw [Int.zero_add]
        exact ki i _ _ hst ew ex (by simpa using h0) _ (s2.trans s3)
      · walk_at "el"
        refine ⟨s2.trans s3, fun j hj wd x hw hx => ?_, _, _, rfl⟩
        by_cases e : j = i
        · subst e
          rw [ew] at hw; cases hw
          rw [ex] at hx; cases hx
          simpa using h0
        · exact hst j (by omega) wd x hw hx
    · rintro σ H1 ⟨s1, hst, v4, v5, rfl⟩
      rw [List.length_map] at hst
      walk_at "el"
      exact kn hst _ s1
/-- an item of a part -/
def ItemOk (p : Pt) (H : Hp) (x : V) (ev wi : Int) : Prop := ∃ a xs, x = .ref a ∧ H a = some (.tup xs) ∧ xs.length = p.form.length ∧ StandsTo p xs ev wi p.form.length
def spItem (K : Frag) : Sp := fun vs H Q _ => ∃ (p : Pt) (x : V) (ev wi : Int), vs = [.str p.name, x, .int ev, .int wi] ∧ Th K H x ∧ (∀ a xs, x = .ref a → H a = some (.tup xs) → ∀ y ∈ xs, Th K H y) ∧ ∀ H' b, Same H H' → (b = true ↔ ItemOk p H x ev wi) → Q (.bl b) H'
theorem ok_is_item (F : Fun K "is_item" "is_item" s_is_item f fd) (T : It4 K w mg aForms aParts) (c_is_tuple : Cal P w K mg base CX0 1 "is_tuple" ["thing", "many"] (spTu K)) (c_first_wrong : Cal P w K mg base CX0 4 "first_wrong" ["part", "values", "events", "witnesses"] (spFw K)) :
    FnOk P w K mg base CX0 5 f fd ["part", "thing", "events", "witnesses"] (spItem K) := by
  refine F.ok sc_is_item (fun vs H Q E h => ?_) (fun cdv A outer s H vs Q E hr h => ?_)
  · obtain ⟨_, _, _, _, rfl, _⟩ := h
    rfl
  · obtain ⟨p, x, ev, wi, rfl, th, te, k⟩ := h
    refine ⟨_, (pss_one (ps_ret (pe_and (pe_cal c_is_tuple (hr.mono (by decide)) pass0 (pa_cons (pv 1) (pa_cons (pe_callB u_len rfl T.b.len_ boot_len (pa_cons (pe_ix ix_kdict (pe_glob (v := .ref aForms) rfl T.gForms rfl) (pv 0) (fun _ _ => rfl)) pa_nil)) pa_nil))) (pe_one (pe_cmpR u_is (pe_cal c_first_wrong (hr.mono (by decide)) pass0 (pa_cons (pv 0) (pa_cons (pv 1) (pa_cons (pv 2) (pa_cons (pv 3) pa_nil))))) pe_non (nomark _)))))), ?_⟩
    obtain ⟨t, kt⟩ := th.kit
    obtain ⟨aF, hF, sF⟩ := T.forms p
    walk_at "el"
    refine ⟨_, _, _, rfl, rfl, hF, ?_⟩
    walk_at "el"
    refine n_len (.inr (sF _)) ?_
    walk_at "el"
    rw [List.length_map]
    refine ⟨x, _, rfl, th, fun b hb => ?_⟩
    rcases b with _ | _
    · walk_at "el"
      refine k _ false (Same.refl _) ⟨(fun h => nomatch h), ?_⟩
      rintro ⟨a, xs, rfl, ha, hl, _⟩
      exact absurd (hb.mpr ⟨a, xs, rfl, ha, by rw [hl]⟩) (by decide)
    · obtain ⟨a, xs, rfl, ha, hl'⟩ := hb.mp rfl
      have hl : xs.length = p.form.length := by omega
      walk_at "el"
      refine ⟨p, a, xs, ev, wi, rfl, ha, hl, te a xs rfl ha, fun hs H1 s1 => ?_, fun i wd x hs hw hx hb H1 s1 => ?_⟩
      · walk_at "el"
        exact k _ _ s1 ⟨fun _ => ⟨a, xs, rfl, ha, hl, hs⟩, fun _ => by decide⟩
      · walk_at "el"
        refine k _ _ s1 ⟨(fun h => by cases h), ?_⟩
        rintro ⟨a', xs', e, ha', hl', hs'⟩
        cases e
        rw [ha] at ha'
        cases ha'
        have hi : i < p.form.length := (List.getElem?_eq_some_iff.mp hw).1
        rw [hs' i hi wd x hw hx] at hb
        cases hb
end
end EL

/- part D -/
namespace EL
open PySem PySem.Spec PyProof.Rows L2
open PySem.W (Frag)
abbrev s__check_arguments : Stmt := top 24
abbrev N__check_arguments : List Str := ["events", "witnesses", "parts", "place", "items"]
theorem sc__check_arguments : FnScope N__check_arguments ["events", "witnesses", "parts"] (defScope s__check_arguments) := ⟨rfl, rfl, rfl, by decide +kernel, rfl, by decide +kernel, by decide +kernel⟩
abbrev s__check_items : Stmt := top 25
abbrev N__check_items : List Str := ["place", "part", "items", "events", "witnesses", "index", "item"]
theorem sc__check_items : FnScope N__check_items ["place", "part", "items", "events", "witnesses"] (defScope s__check_items) := ⟨rfl, rfl, rfl, by decide +kernel, rfl, by decide +kernel, by decide +kernel⟩
abbrev s_Book_init : Stmt := inClass (top 26) 0
abbrev N_Book_init : List Str := ["self", "events", "witnesses", "tellings", "gaps", "sure", "clauses", "parts", "place", "part", "items"]
theorem sc_Book_init : FnScope N_Book_init ["self", "events", "witnesses", "tellings", "gaps", "sure", "clauses"] (defScope s_Book_init) := ⟨rfl, rfl, rfl, by decide +kernel, rfl, by decide +kernel, by decide +kernel⟩
local macro_rules | `(tactic| walk_at "el1") => `(tactic| with_reducible first
  | refine a_sasg ?_ | refine a_sdrop ?_ | refine a_saugS ?_ | refine a_spar ?_ | refine a_seq ?_ | refine a_asg ?_ | refine a_drop ?_ | refine a_ret ?_ | refine a_if ?_ | refine a_next ?_
  | refine a_op ?_ | refine a_cons ?_ | refine a_nil ?_ | refine a_cb ?_ | refine a_call ?_ | refine a_c ?_ | refine a_gn ?_ | refine a_nx ?_ | refine a_rt ?_ | refine a_un ?_
  | refine a_test ?_ | refine a_B ?_ | refine a_bl ?_ | refine a_and ?_ | refine a_or ?_ | refine a_not ?_ | refine a_andV ?_ | refine a_orV ?_ | refine a_notV ?_ | refine a_ifx ?_ | refine a_chain ?_
  | refine a_nT ?_ | refine a_nF ?_ | refine a_fld ?_ | refine a_getF ?_ | refine a_T ?_ | refine a_F ?_ | refine a_tup ?_ | refine a_lst ?_ | refine a_sub ?_ | refine a_augS ?_ | refine a_two ?_ | refine a_I0 ?_ | refine a_U ?_ | refine n_add ?_ | refine n_int ?_ | refine n_ib ?_ | refine a_ip ?_ | refine a_rng1 ?_ | refine a_rng2 ?_ | refine a_bm ?_ | refine a_abs ?_ | refine a_pairs ?_ | refine a_pairs0 ?_ | refine a_bk ?_ | refine a_prp ?_ | refine a_lc ?_ | refine a_yes ?_ | refine a_sl ?_ | refine a_nop ?_ | refine a_prt ?_ | refine a_ex1 ?_ | refine a_for ?_ | refine a_sfor ?_ | refine a_iE1 ?_ | refine a_iEs ?_ | refine a_iEz ?_ | refine a_iEnum ?_ | refine a_iTup ?_ | refine a_iList ?_ | refine a_gcons ?_ | refine a_gnil ?_ | refine a_revT ?_ | refine a_spar3 ?_ | refine a_par3 ?_ | refine a_three ?_)
local macro_rules | `(tactic| walk_at "el2") => `(tactic| first
  | (refine a_var (by rfl) ?_)
  | (refine n_ixL (SqL.of (by assumption)) (by rfl) ?_) | (refine n_ixT (SqT.of (by assumption)) (by rfl) ?_) | (refine n_eq (by rfl) ?_) | (refine n_ne (by rfl) ?_)
  | (refine n_isN ?_) | (refine n_notN ?_) | (refine n_isB ?_) | (refine n_notB ?_) | (refine n_isBI ?_) | (refine n_notBI ?_) | (refine n_len (.inl (SqL.of (by assumption))) ?_) | (refine n_len (.inr (SqT.of (by assumption))) ?_)
  | (refine a_getL (SqL.of (by assumption)) (by rfl) ?_)
  | (refine n_isInt (by assumption) ?_) | (refine n_isBool (by assumption) ?_) | (refine n_isStr (by assumption) ?_) | (refine n_isTup (by assumption) ?_) | (refine n_isLst (by assumption) ?_))
local macro_rules | `(tactic| walk_at "el") => `(tactic| repeat (first | walk_at "el1" | walk_at "el2"))

/-! ### books -/
structure Bo (mg : Str → Option Value) : Prop where
  k_MOST_EVENTS : ∃ u, mg "MOST_EVENTS" = some u ∧ L2.RelV (.int 8) u
  k_MOST_WITNESSES : ∃ u, mg "MOST_WITNESSES" = some u ∧ L2.RelV (.int 8) u
  k_MOST_ITEMS : ∃ u, mg "MOST_ITEMS" = some u ∧ L2.RelV (.int 24) u
structure BoT (K : Frag) (w : World) (mg : Str → Option Value) (aForms aParts : Addr) : Prop extends It4 K w mg aForms aParts, Bo mg
theorem stand_th {K : Frag} {H : Hp} {wd : Str} {xs : List V} {j : Nat} {x : V} {ev wi : Int} (h : standB wd xs j x ev wi = true) : Th K H x := by
  cases x with
  | int i => exact .int i
  | str s => exact .str s
  | _ => (exfalso; simp [standB, belowB, sideB, kindB, numB] at h)
theorem ItemOk.th {K : Frag} {p : Pt} {H : Hp} {x : V} {ev wi : Int} (h : ItemOk p H x ev wi) : Th K H x ∧ ∀ a xs, x = .ref a → H a = some (.tup xs) → ∀ y ∈ xs, Th K H y := by
  obtain ⟨a, xs, rfl, ha, hl, hs⟩ := h
  refine ⟨.tup ha, fun a' xs' e ha' y hy => ?_⟩
  cases e
  rw [ha] at ha'
  cases ha'
  obtain ⟨j, hj, rfl⟩ := List.getElem_of_mem hy
  have h2 : j < p.form.length := by omega
  exact stand_th (hs j h2 _ _ (List.getElem?_eq_getElem h2) (List.getElem?_eq_getElem hj))
theorem ItemOk.same {p : Pt} {H H' : Hp} {x : V} {ev wi : Int} (h : ItemOk p H x ev wi) (s : Same H H') : ItemOk p H' x ev wi := by
  obtain ⟨a, xs, rfl, ha, hl, hs⟩ := h
  exact ⟨a, xs, rfl, s _ _ ha, hl, hs⟩
/-- a part that a book may have -/
structure PartOk (K : Frag) (p : Pt) (H : Hp) (a : Addr) (xs : List V) (ev wi : Int) : Prop where
  seq : SqA K H a xs
  len : xs.length ≤ 24
  items : ∀ x ∈ xs, ItemOk p H x ev wi
theorem PartOk.same {K : Frag} {p : Pt} {H H' : Hp} {a : Addr} {xs : List V} {ev wi : Int} (h : PartOk K p H a xs ev wi) (s : Same H H') : PartOk K p H' a xs ev wi := ⟨h.seq.same s, h.len, fun x hx => (h.items x hx).same s⟩
def spCa (K : Frag) : Sp := fun vs H Q _ => ∃ (ev wi : Int) (q t g s c : Addr) (ts gs ss cs : List V), vs = [.int ev, .int wi, .ref q] ∧ H q = some (.tup [.ref t, .ref g, .ref s, .ref c]) ∧ 0 ≤ ev ∧ ev ≤ 8 ∧ 0 ≤ wi ∧ wi ≤ 8 ∧ SqA K H t ts ∧ SqA K H g gs ∧ SqA K H s ss ∧ SqA K H c cs ∧ ∀ H', Same H H' → Q .non H'
def spCi (K : Frag) : Sp := fun vs H Q _ => ∃ (n : Int) (p : Pt) (a : Addr) (xs : List V) (ev wi : Int), vs = [.int n, .str p.name, .ref a, .int ev, .int wi] ∧ PartOk K p H a xs ev wi ∧ ∀ H', Same H H' → Q .non H'
section
variable {P : Program} {w : World} {K : Frag} {mg : Str → Option Value} {base : Heap} {f : Addr} {fd : FuncData} {aForms aParts : Addr}
theorem below_true {i n : Int} (h0 : 0 ≤ i) (h1 : i < n) : belowB (.int i) n = true := by show (decide _ && decide _) = true; rw [decide_eq_true h0, decide_eq_true h1]; rfl
theorem ok_check_arguments (F : Fun K "_check_arguments" "_check_arguments" s__check_arguments f fd) (T : BoT K w mg aForms aParts) (c_is_below : Cal P w K mg base CX0 2 "is_below" ["thing", "many"] (spBelow K)) :
    FnOk P w K mg base CX0 3 f fd ["events", "witnesses", "parts"] (spCa K) := by
  refine F.ok sc__check_arguments (fun vs H Q E h => ?_) (fun cdv A outer s H vs Q E hr h => ?_)
  · obtain ⟨_, _, _, _, _, _, _, _, _, _, _, rfl, _⟩ := h
    rfl
  · obtain ⟨ev, wi, q, t, g, s, c, ts, gs, ss, cs, rfl, hq, e0, e8, w0, w8, ht, hg, hs, hc, k⟩ := h
    refine ⟨_, (pss_cons (ps_if (pt_not (pt_val (pe_cal c_is_below (hr.mono (by decide)) pass0 (pa_cons (pv 0) (pa_cons (pe_op u_add (pe_gc (v := .int 8) rfl T.k_MOST_EVENTS) pe_int) pa_nil)))))
    (pss_one ps_never)
    pss_nil)
  (pss_cons (ps_if (pt_not (pt_val (pe_cal c_is_below (hr.mono (by decide)) pass0 (pa_cons (pv 1) (pa_cons (pe_op u_add (pe_gc (v := .int 8) rfl T.k_MOST_WITNESSES) pe_int) pa_nil)))))
    (pss_one ps_never)
    pss_nil)
  (pss_one (ps_for PassesOwn.never rfl (pi_es rfl T.b.enumerate_ (pa_cons (pv 2) pa_nil) (by decide) (by decide)) (pg_tup rfl (pgs_cons (pg_name (i := 3) sc__check_arguments.nd rfl (Or.inl rfl)) (pgs_cons (pg_name (i := 4) sc__check_arguments.nd rfl (Or.inl rfl)) pgs_nil)))
    (pss_one (ps_if (pt_not (pt_val (pe_callB u_isi rfl T.b.isinstance_ boot_isinstance (pa_cons (pv 4) (pa_cons (pe_tup (pa_cons (pe_bltn (v := V.ty "list") rfl T.b.list_ (by decide +kernel) rfl) (pa_cons (pe_bltn (v := V.ty "tuple") rfl T.b.tuple_ (by decide +kernel) rfl) pa_nil))) pa_nil)))))
    (pss_one ps_never)
    pss_nil)))))), ?_⟩
    walk_at "el"
    refine ⟨.int ev, 9, rfl, .int ev, fun H1 s1 => ?_⟩
    rw [below_true e0 (by omega)]
    walk_at "el"
    refine ⟨.int wi, 9, rfl, .int wi, fun H2 s2 => ?_⟩
    rw [below_true w0 (by omega)]
    walk_at "el"
    have s12 := s1.trans s2
    refine ⟨q, _, rfl, SqT.of (s12 _ _ hq), ?_⟩
    have all : ∀ (i : Nat) (x : V), [V.ref t, V.ref g, V.ref s, V.ref c][i]? = some x → ∃ a xs, x = .ref a ∧ SqA K H a xs := by
      intro i x hx
      rcases i with _ | _ | _ | _ | i <;> cases hx
      · exact ⟨_, _, rfl, ht⟩
      · exact ⟨_, _, rfl, hg⟩
      · exact ⟨_, _, rfl, hs⟩
      · exact ⟨_, _, rfl, hc⟩
    refine lp_it walk_es (fun i σ H3 => Same H H3 ∧ ∃ v3 v4, σ = [some (.int ev), some (.int wi), some (.ref q), v3, v4]) ⟨s12, _, _, rfl⟩ (fun i σ H3 hi h => SqT.of (h.1 _ _ hq)) ?_ ?_
    · rintro i x σ H3 H4 hi ⟨s3, v3, v4, rfl⟩ ⟨r, y, rfl, hr, rfl, hy⟩
      obtain ⟨a, xs, rfl, ha⟩ := all i y hy
      have s4 := L2.Same.nw (o := .tup [.int ((2 : Int) + i), .ref a]) s3 hr
      refine a_gtup (SqT.of upd_same) rfl ?_
      walk_at "el"
      refine ⟨by show 2 ≤ sizeLine; decide, fun r2 hr2 => ?_⟩
      have s5 := L2.Same.nw (o := .tup [.ty "list", .ty "tuple"]) s4 hr2
      walk_at "el"
      refine (ha.same s5).isLT upd_same ?_
      walk_at "el"
      exact ⟨s5, _, _, rfl⟩
    · rintro σ H3 ⟨s3, v3, v4, rfl⟩
      exact k _ s3
theorem ok_check_items (F : Fun K "_check_items" "_check_items" s__check_items f fd) (T : BoT K w mg aForms aParts) (c_is_item : Cal P w K mg base CX0 5 "is_item" ["part", "thing", "events", "witnesses"] (spItem K)) :
    FnOk P w K mg base CX0 6 f fd ["place", "part", "items", "events", "witnesses"] (spCi K) := by
  refine F.ok sc__check_items (fun vs H Q E h => ?_) (fun cdv A outer s H vs Q E hr h => ?_)
  · obtain ⟨_, _, _, _, _, _, rfl, _⟩ := h
    rfl
  · obtain ⟨n, p, a, xs, ev, wi, rfl, hp, k⟩ := h
    refine ⟨_, (pss_cons (ps_if (pt_cmpR op_gt (pe_callB u_len rfl T.b.len_ boot_len (pa_cons (pv 2) pa_nil)) (pe_gc (v := .int 24) rfl T.k_MOST_ITEMS) (nomark _))
    (pss_one ps_never)
    pss_nil)
  (pss_one (ps_for PassesOwn.never rfl (PI.alt (pi_enum rfl T.b.enumerate_ (pa_cons (pv 2) pa_nil)) (pi_e1 rfl T.b.enumerate_ (pa_cons (pv 2) pa_nil))) (pg_tup rfl (pgs_cons (pg_name (i := 5) sc__check_items.nd rfl (Or.inl rfl)) (pgs_cons (pg_name (i := 6) sc__check_items.nd rfl (Or.inl rfl)) pgs_nil)))
    (pss_one (ps_if (pt_not (pt_val (pe_cal c_is_item (hr.mono (by decide)) pass0 (pa_cons (pv 1) (pa_cons (pv 6) (pa_cons (pv 3) (pa_cons (pv 4) pa_nil)))))))
    (pss_one ps_never)
    pss_nil))))), ?_⟩
    walk_at "el"
    refine n_len hp.seq.len ?_
    walk_at "el"
    have hn : decide ((xs.length : Int) > 24) = false := decide_eq_false (by have q := hp.len; omega)
    rw [hn]
    walk_at "el"
    rcases hp.seq with ha | ha
    · refine Or.inl ?_
      walk_at "el"
      refine ⟨a, xs, rfl, SqL.of ha, ?_⟩
      refine lp_it walk_enum (fun i σ H3 => Same H H3 ∧ ∃ v3 v4, σ = [some (.int n), some (.str p.name), some (.ref a), some (.int ev), some (.int wi), v3, v4]) ⟨Same.refl _, _, _, rfl⟩ (fun i σ H3 hi h => SqL.of (h.1 _ _ ha)) ?_ ?_
      · rintro i x σ H3 H4 hi ⟨s3, v3, v4, rfl⟩ ⟨r, _, y, rfl, hr, rfl, ei, hy⟩
        cases ei
        have s4 := L2.Same.nw (o := .tup [.int i, y]) s3 hr
        have io := (hp.items y (List.mem_of_getElem? hy)).same s4
        refine a_gtup (SqT.of upd_same) rfl ?_
        walk_at "el"
        refine ⟨p, y, ev, wi, rfl, io.th.1, io.th.2, fun H5 b s5 hb => ?_⟩
        rw [hb.mpr io]
        walk_at "el"
        exact ⟨s4.trans s5, _, _, rfl⟩
      · rintro σ H3 ⟨s3, v3, v4, rfl⟩
        exact k _ s3
    · refine Or.inr ?_
      walk_at "el"
      refine ⟨a, xs, rfl, ha, ?_⟩
      refine lp_it walk_es (fun i σ H3 => Same H H3 ∧ ∃ v3 v4, σ = [some (.int n), some (.str p.name), some (.ref a), some (.int ev), some (.int wi), v3, v4]) ⟨Same.refl _, _, _, rfl⟩ (fun i σ H3 hi h => ha.same h.1) ?_ ?_
      · rintro i x σ H3 H4 hi ⟨s3, v3, v4, rfl⟩ ⟨r, y, rfl, hr, rfl, hy⟩
        have s4 := L2.Same.nw (o := .tup [.int ((0 : Int) + i), y]) s3 hr
        have io := (hp.items y (List.mem_of_getElem? hy)).same s4
        refine a_gtup (SqT.of upd_same) rfl ?_
        walk_at "el"
        refine ⟨p, y, ev, wi, rfl, io.th.1, io.th.2, fun H5 b s5 hb => ?_⟩
        rw [hb.mpr io]
        walk_at "el"
        exact ⟨s4.trans s5, _, _, rfl⟩
      · rintro σ H3 ⟨s3, v3, v4, rfl⟩
        exact k _ s3
/-- a book, its parts told by their addresses -/
def bookO (C dx : Addr) (ev wi : Int) (t g s c : Addr) : HO := .ins C dx [("_events", .int ev), ("_witnesses", .int wi), ("_tellings", .ref t), ("_gaps", .ref g), ("_sure", .ref s), ("_clauses", .ref c)]
structure BkC (K : Frag) (C : Addr) : Prop where
  own : OwnC K C
  n0 : NoAttr K C "_events"
  n1 : NoAttr K C "_witnesses"
  n2 : NoAttr K C "_tellings"
  n3 : NoAttr K C "_gaps"
  n4 : NoAttr K C "_sure"
  n5 : NoAttr K C "_clauses"
def spInit (K : Frag) (C : Addr) : Sp := fun vs H Q _ => ∃ (o dx : Addr) (ev wi : Int) (t g s c : Addr) (ts gs ss cs : List V), vs = [.ref o, .int ev, .int wi, .ref t, .ref g, .ref s, .ref c] ∧ H o = some (.ins C dx []) ∧ 0 ≤ ev ∧ ev ≤ 8 ∧ 0 ≤ wi ∧ wi ≤ 8 ∧
  PartOk K .tel H t ts ev wi ∧ PartOk K .gap H g gs ev wi ∧ PartOk K .sur H s ss ev wi ∧ PartOk K .cla H c cs ev wi ∧
  ∀ H' t' g' s' c', Kp o H H' → H' o = some (bookO C dx ev wi t' g' s' c') → SqT K H' t' ts → SqT K H' g' gs → SqT K H' s' ss → SqT K H' c' cs → Q .non H'
theorem ok_init {dvs : List V} {C : Addr} (F : FunD K "__init__" "Book.__init__" (defArgs s_Book_init) (defBody s_Book_init) (defScope s_Book_init) dvs [] f fd) (T : BoT K w mg aForms aParts) (B : BkC K C)
    (c__check_arguments : Cal P w K mg base CX0 3 "_check_arguments" ["events", "witnesses", "parts"] (spCa K)) (c__check_items : Cal P w K mg base CX0 6 "_check_items" ["place", "part", "items", "events", "witnesses"] (spCi K)) :
    FnOk P w K mg base CX0 7 f fd ["self", "events", "witnesses", "tellings", "gaps", "sure", "clauses"] (spInit K C) := by
  refine F.ok sc_Book_init (fun vs H Q E h => ?_) (fun cdv A outer s H vs Q E hr h => ?_)
  · obtain ⟨_, _, _, _, _, _, _, _, _, _, _, _, rfl, _⟩ := h
    rfl
  · obtain ⟨o, dx, ev, wi, t, g, s, c, ts, gs, ss, cs, rfl, ho, e0, e8, w0, w8, ht, hg, hs, hc, k⟩ := h
    refine ⟨_, PSs.nox (pss_cons (ps_set (i := 7) sc_Book_init.nd rfl (Or.inl rfl) (pe_tup (pa_cons (pv 3) (pa_cons (pv 4) (pa_cons (pv 5) (pa_cons (pv 6) pa_nil))))))
  (pss_cons (ps_expr (pe_cal c__check_arguments (hr.mono (by decide)) pass0 (pa_cons (pv 1) (pa_cons (pv 2) (pa_cons (pv 7) pa_nil)))))
  (pss_cons (ps_for PassesOwn.never rfl (pi_ez rfl T.b.enumerate_ rfl T.b.zip_ (pa_cons (pe_glob (v := .ref aParts) rfl T.gParts rfl) (pa_cons (pv 7) pa_nil)) (by decide) (by decide)) (pg_tup rfl (pgs_cons (pg_name (i := 8) sc_Book_init.nd rfl (Or.inl rfl)) (pgs_cons (pg_tup rfl (pgs_cons (pg_name (i := 9) sc_Book_init.nd rfl (Or.inl rfl)) (pgs_cons (pg_name (i := 10) sc_Book_init.nd rfl (Or.inl rfl)) pgs_nil))) pgs_nil)))
    (pss_one (ps_expr (pe_cal c__check_items (hr.mono (by decide)) pass0 (pa_cons (pv 8) (pa_cons (pv 9) (pa_cons (pv 10) (pa_cons (pv 1) (pa_cons (pv 2) pa_nil)))))))))
  (pss_cons (ps_fld (pv 0) (pv 1) rfl)
  (pss_cons (ps_fld (pv 0) (pv 2) rfl)
  (pss_cons (ps_fld (pv 0) (pe_callTy u_tuple rfl T.b.tuple_ (by decide +kernel) (pa_cons (pv 3) pa_nil)) rfl)
  (pss_cons (ps_fld (pv 0) (pe_callTy u_tuple rfl T.b.tuple_ (by decide +kernel) (pa_cons (pv 4) pa_nil)) rfl)
  (pss_cons (ps_fld (pv 0) (pe_callTy u_tuple rfl T.b.tuple_ (by decide +kernel) (pa_cons (pv 5) pa_nil)) rfl)
  (pss_one (ps_fld (pv 0) (pe_callTy u_tuple rfl T.b.tuple_ (by decide +kernel) (pa_cons (pv 6) pa_nil)) rfl)))))))))), ?_⟩
    walk_at "el"
    refine ⟨by show 4 ≤ sizeLine; decide, fun q hq => ?_⟩
    have s1 := L2.Same.nw (o := .tup [.ref t, .ref g, .ref s, .ref c]) (Same.refl H) hq
    walk_at "el"
    refine ⟨ev, wi, q, t, g, s, c, ts, gs, ss, cs, rfl, upd_same, e0, e8, w0, w8, ht.seq.same s1, hg.seq.same s1, hs.seq.same s1, hc.seq.same s1, fun H2 s2 => ?_⟩
    have hq2 : H2 q = some (.tup [.ref t, .ref g, .ref s, .ref c]) := s2 _ _ upd_same
    have s12 := s1.trans s2
    clear s1 s2
    walk_at "el"
    refine ⟨aParts, q, _, _, rfl, T.parts _, SqT.of hq2, ?_⟩
    have all : ∀ (i : Nat) (x y : V), [V.str "tellings", V.str "gaps", V.str "sure", V.str "clauses"][i]? = some x → [V.ref t, V.ref g, V.ref s, V.ref c][i]? = some y → ∃ p a xs, x = .str (Pt.name p) ∧ y = .ref a ∧ PartOk K p H a xs ev wi := by
      intro i x y hx hy
      rcases i with _ | _ | _ | _ | i <;> cases hx <;> cases hy
      · exact ⟨.tel, _, _, rfl, rfl, ht⟩
      · exact ⟨.gap, _, _, rfl, rfl, hg⟩
      · exact ⟨.sur, _, _, rfl, rfl, hs⟩
      · exact ⟨.cla, _, _, rfl, rfl, hc⟩
    refine lp_it (walk_ez (xs := [.str "tellings", .str "gaps", .str "sure", .str "clauses"]) (ys := [.ref t, .ref g, .ref s, .ref c]) rfl) (fun i σ H3 => Same H H3 ∧ H3 q = some (.tup [.ref t, .ref g, .ref s, .ref c]) ∧ ∃ v3 v4 v5, σ = [some (.ref o), some (.int ev), some (.int wi), some (.ref t), some (.ref g), some (.ref s), some (.ref c), some (.ref q), v3, v4, v5]) ⟨s12, hq2, _, _, _, rfl⟩ (fun i σ H3 hi h => ⟨T.parts _, SqT.of h.2.1⟩) ?_ ?_
    · rintro i x σ H3 H4 hi ⟨s3, hq3, v3, v4, v5, rfl⟩ ⟨r0, r1, x0, y0, rfl, hr0, hr1, ne, rfl, hx, hy⟩
      obtain ⟨p, a, xs, rfl, rfl, hp⟩ := all i _ _ hx hy
      have s4 := L2.Same.nw (o := .tup [.str p.name, .ref a]) (Same.refl H3) hr0
      have s5 := L2.Same.nw (H1 := upd H3 r0 (.tup [.str p.name, .ref a])) (o := .tup [.int ((2 : Int) + i), .ref r0]) s4 (by rw [upd_ne (Ne.symm ne)]; exact hr1)
      have s35 := s3.trans s5
      refine a_gtup (SqT.of upd_same) rfl ?_
      walk_at "el"
      refine a_gtup (SqT.of (by rw [upd_ne ne]; exact upd_same)) rfl ?_
      walk_at "el"
      refine ⟨_, p, a, xs, ev, wi, rfl, hp.same s35, fun H6 s6 => ?_⟩
      walk_at "el"
      exact ⟨s35.trans s6, s6 _ _ (s5 _ _ hq3), _, _, _, rfl⟩
    · rintro σ H3 ⟨s3, _, v3, v4, v5, rfl⟩
      have o3 := s3 _ _ ho
      have k0 : Kp o H H3 := same_kp s3
      clear all hq2 s12
      walk_at "el"
      refine ⟨o, C, dx, _, rfl, o3, B.own.cl, B.n0, by decide, ?_⟩
      walk_at "el"
      refine ⟨o, C, dx, _, rfl, upd_same, B.own.cl, B.n1, by show 1 < 1000; decide, ?_⟩
      walk_at "el"
      have k1 : Kp o H (upd (upd H3 o (.ins C dx (putF "_events" (.int ev) []))) o (.ins C dx (putF "_witnesses" (.int wi) (putF "_events" (.int ev) [])))) := k0.bag.bag
      refine n_tuple (ht.seq.kp ho k1) fun t' H4 s4 ht' => ?_
      have o4 := s4 _ _ upd_same
      have k2 := k1.trans (same_kp s4)
      clear k1 s4 o3 k0
      walk_at "el"
      refine ⟨o, C, dx, _, rfl, o4, B.own.cl, B.n2, by show 2 < 1000; decide, ?_⟩
      walk_at "el"
      have k3 := k2.bag (o := .ins C dx (putF "_tellings" (.ref t') (putF "_witnesses" (.int wi) (putF "_events" (.int ev) []))))
      have ht1 := SqT.kp ht' o4 (Kp.bag (Kp.refl o H4) (o := .ins C dx (putF "_tellings" (.ref t') (putF "_witnesses" (.int wi) (putF "_events" (.int ev) [])))))
      refine n_tuple (hg.seq.kp ho k3) fun g' H5 s5 hg' => ?_
      have o5 := s5 _ _ upd_same
      have k4 := k3.trans (same_kp s5)
      have ht2 := ht1.same s5
      clear k3 s5 o4 k2 ht1 ht'
      walk_at "el"
      refine ⟨o, C, dx, _, rfl, o5, B.own.cl, B.n3, by show 3 < 1000; decide, ?_⟩
      walk_at "el"
      generalize hfs : putF "_gaps" (.ref g') (putF "_tellings" (.ref t') (putF "_witnesses" (.int wi) (putF "_events" (.int ev) []))) = fs4
      have k5 := k4.bag (o := .ins C dx fs4)
      have kk := Kp.bag (Kp.refl o H5) (o := .ins C dx fs4)
      refine n_tuple (hs.seq.kp ho k5) fun s' H6 s6 hs' => ?_
      have o6 := s6 _ _ upd_same
      have k6 := k5.trans (same_kp s6)
      have ht3 := (SqT.kp ht2 o5 kk).same s6
      have hg3 := (SqT.kp hg' o5 kk).same s6
      clear k5 s6 o5 k4 ht2 hg' kk
      walk_at "el"
      refine ⟨o, C, dx, _, rfl, o6, B.own.cl, B.n4, by subst hfs; show 4 < 1000; decide, ?_⟩
      walk_at "el"
      generalize hfs5 : putF "_sure" (.ref s') fs4 = fs5
      have k7 := k6.bag (o := .ins C dx fs5)
      have kk := Kp.bag (Kp.refl o H6) (o := .ins C dx fs5)
      refine n_tuple (hc.seq.kp ho k7) fun c' H7 s7 hc' => ?_
      have o7 := s7 _ _ upd_same
      have k8 := k7.trans (same_kp s7)
      have ht4 := (SqT.kp ht3 o6 kk).same s7
      have hg4 := (SqT.kp hg3 o6 kk).same s7
      have hs4 := (SqT.kp hs' o6 kk).same s7
      clear k7 s7 o6 k6 ht3 hg3 hs' kk
      walk_at "el"
      refine ⟨o, C, dx, _, rfl, o7, B.own.cl, B.n5, by subst hfs5; subst hfs; show 5 < 1000; decide, ?_⟩
      walk_at "el"
      have kk := Kp.bag (Kp.refl o H7) (o := .ins C dx (putF "_clauses" (.ref c') fs5))
      refine k _ t' g' s' c' (k8.trans kk) ?_ (SqT.kp ht4 o7 kk) (SqT.kp hg4 o7 kk) (SqT.kp hs4 o7 kk) (SqT.kp hc' o7 kk)
      rw [upd_same]
      subst hfs5
      subst hfs
      rfl
end
end EL

/- part L -/
namespace EL
open PySem PySem.Spec PyProof.Rows L2
open PySem.W (Frag)
abbrev s_bag : Stmt := top 28
abbrev N_bag : List Str := ["_law_script", "_law_cell"]
theorem sc_bag : FnScope N_bag ["_law_script"] (defScope s_bag) := ⟨rfl, rfl, rfl, by decide +kernel, rfl, by decide +kernel, by decide +kernel⟩
abbrev s_one : Stmt := top 30
abbrev N_one : List Str := ["_law_bag_here", "_law_menu"]
theorem sc_one : FnScope N_one ["_law_bag_here", "_law_menu"] (defScope s_one) := ⟨rfl, rfl, rfl, by decide +kernel, rfl, by decide +kernel, by decide +kernel⟩
local macro_rules | `(tactic| walk_at "el1") => `(tactic| with_reducible first
  | refine a_sasg ?_ | refine a_sdrop ?_ | refine a_saugS ?_ | refine a_spar ?_ | refine a_seq ?_ | refine a_asg ?_ | refine a_drop ?_ | refine a_ret ?_ | refine a_if ?_ | refine a_next ?_
  | refine a_op ?_ | refine a_cons ?_ | refine a_nil ?_ | refine a_cb ?_ | refine a_call ?_ | refine a_c ?_ | refine a_gn ?_ | refine a_nx ?_ | refine a_rt ?_ | refine a_un ?_
  | refine a_test ?_ | refine a_B ?_ | refine a_bl ?_ | refine a_and ?_ | refine a_or ?_ | refine a_not ?_ | refine a_andV ?_ | refine a_orV ?_ | refine a_notV ?_ | refine a_ifx ?_ | refine a_chain ?_
  | refine a_nT ?_ | refine a_nF ?_ | refine a_fld ?_ | refine a_getF ?_ | refine a_T ?_ | refine a_F ?_ | refine a_tup ?_ | refine a_lst ?_ | refine a_sub ?_ | refine a_augS ?_ | refine a_two ?_ | refine a_I0 ?_ | refine a_U ?_ | refine n_add ?_ | refine n_int ?_ | refine n_ib ?_ | refine a_ip ?_ | refine a_rng1 ?_ | refine a_rng2 ?_ | refine a_bm ?_ | refine a_abs ?_ | refine a_pairs ?_ | refine a_pairs0 ?_ | refine a_bk ?_ | refine a_prp ?_ | refine a_lc ?_ | refine a_yes ?_ | refine a_sl ?_ | refine a_nop ?_ | refine a_prt ?_ | refine a_ex1 ?_ | refine a_for ?_ | refine a_sfor ?_ | refine a_iE1 ?_ | refine a_iEs ?_ | refine a_iEz ?_ | refine a_iEnum ?_ | refine a_iTup ?_ | refine a_iList ?_ | refine a_gcons ?_ | refine a_gnil ?_ | refine a_revT ?_ | refine a_spar3 ?_ | refine a_par3 ?_ | refine a_three ?_)
local macro_rules | `(tactic| walk_at "el2") => `(tactic| first
  | (refine a_var (by rfl) ?_)
  | (refine n_ixL (SqL.of (by assumption)) (by rfl) ?_) | (refine n_ixT (SqT.of (by assumption)) (by rfl) ?_) | (refine n_eq (by rfl) ?_) | (refine n_ne (by rfl) ?_)
  | (refine n_isN ?_) | (refine n_notN ?_) | (refine n_isB ?_) | (refine n_notB ?_) | (refine n_isBI ?_) | (refine n_notBI ?_) | (refine n_len (.inl (SqL.of (by assumption))) ?_) | (refine n_len (.inr (SqT.of (by assumption))) ?_)
  | (refine a_getL (SqL.of (by assumption)) (by rfl) ?_)
  | (refine n_isInt (by assumption) ?_) | (refine n_isBool (by assumption) ?_) | (refine n_isStr (by assumption) ?_) | (refine n_isTup (by assumption) ?_) | (refine n_isLst (by assumption) ?_))
local macro_rules | `(tactic| walk_at "el") => `(tactic| repeat (first | walk_at "el1" | walk_at "el2"))

/-! ### the bag is made; one of a menu -/
def spBag (K : Frag) : Sp := fun vs H Q _ => ∃ (a : Addr) (ns : List Int), vs = [.ref a] ∧ SqL K H a (ns.map V.int) ∧ ∀ b c H', H b = none → H c = none → Bag H' b c → Same H H' → Q (.ref b) H'
def spOne (K : Frag) : Sp := fun vs H Q _ => ∃ (b c m : Addr) (xs : List V), vs = [.ref b, .ref m] ∧ Bag H b c ∧ m ≠ b ∧ SqA K H m xs ∧ 0 < xs.length ∧ xs.length ≤ 1000000000 ∧ ∀ x H', x ∈ xs → Bag H' b c → Kp b H H' → Q x H'
theorem cut_map {α : Type} (f : α → V) (ns : List α) (lo hi : Option Int) : ∃ ms : List α, cutV (ns.map f) lo hi = ms.map f ∧ ms.length ≤ ns.length := by
  unfold cutV
  refine ⟨(ns.drop (HT.sIx (ns.map f).length 0 lo)).take (HT.sIx (ns.map f).length (ns.map f).length hi - HT.sIx (ns.map f).length 0 lo), by rw [List.map_take, List.map_drop], ?_⟩
  rw [List.length_take, List.length_drop]
  omega
theorem atI_mem {xs : List V} {k : Int} {x : V} (h : atI xs k = some x) : x ∈ xs := by
  obtain ⟨j, h1, h2, _⟩ := atI_get h
  exact List.mem_of_getElem? h2
theorem cut_len63 (xs : List V) : (cutV xs none (some 63)).length ≤ 63 := by
  unfold cutV
  rw [List.length_take]
  refine Nat.le_trans (Nat.min_le_left _ _) ?_
  show min (63 : Int).toNat xs.length - 0 ≤ 63
  have q : (63 : Int).toNat = 63 := rfl
  omega
section
variable {P : Program} {w : World} {K : Frag} {mg : Str → Option Value} {base : Heap} {f : Addr} {fd : FuncData}
theorem ok_bag (F : Fun K "_law_bag" "_law_bag" s_bag f fd) (T : Tb mg) : FnOk P w K mg base CX0 1 f fd ["_law_script"] (spBag K) := by
  refine F.ok sc_bag (fun vs H Q E h => ?_) (fun cdv A outer s H vs Q E hr h => ?_)
  · obtain ⟨_, _, rfl, _⟩ := h
    rfl
  · obtain ⟨a, ns, rfl, ha, k⟩ := h
    refine ⟨_, (pss_one (ps_ret (pe_lst (pa_cons pe_int (pa_cons pe_int (pa_cons pe_int (pa_cons (pe_lc (own := [("_law_cell", 1)]) rfl sc_bag.nd (u_iter (pe_slice u_slice (pv 0) po_none (po_some pe_int))) (blkOk_by (own := [("_law_cell", 1)]) (N := N_bag) (sc := defScope s_bag) (by decide +kernel)) (fun _ _ _ _ _ => (pg_name (i := 1) sc_bag.nd rfl (Or.inl rfl))) (fun _ _ _ _ _ => pts_nil) (fun _ _ _ _ _ => (pe_callB call_abs rfl T.b.abs_ (by decide +kernel) (pa_cons (pv 1) pa_nil)))) pa_nil))))))), ?_⟩
    walk_at "el"
    refine a_iSeq (.inl ?_)
    walk_at "el"
    refine .inl ⟨a, _, rfl, ha, fun p hp => ?_⟩
    obtain ⟨ms, em, lm⟩ := cut_map V.int ns none (some 63)
    have l63 := cut_len63 (ns.map V.int)
    rw [em] at l63 ⊢
    rw [List.length_map] at l63
    have s1 := L2.Same.nw (o := .lst (ms.map V.int)) (Same.refl H) hp
    refine ⟨p, rfl, ⟨_, SqL.of upd_same⟩, fun D hD => ?_⟩
    have hDp : D ≠ p := fun z => by subst z; rw [upd_same] at hD; cases hD
    have hD0 : H D = none := s1.free hD
    refine lc_of (walk_list (xs := ms.map V.int)) (fun i H3 => Same H H3 ∧ H3 p = some (.lst (ms.map V.int)) ∧ ∃ cs : List Int, H3 D = some (.lst (cs.map V.int)) ∧ cs.length = i ∧ ∀ x ∈ cs, 0 ≤ x) ⟨s1.nw hD, by rw [upd_ne hDp.symm]; exact upd_same, [], upd_same, rfl, fun _ h => nomatch h⟩ (fun i H3 hi h => SqL.of h.2.1) ?_ ?_
    · rintro i x H3 H4 hi ⟨s3, hp3, cs, hD3, hl, hc⟩ ⟨rfl, hx⟩
      rw [List.length_map] at hi
      rw [List.getElem?_map, List.getElem?_eq_getElem hi] at hx
      cases hx
      walk_at "el"
      refine ⟨rfl, ?_⟩
      walk_at "el"
      refine ⟨_, hD3, by rw [List.length_map, hl]; exact Nat.lt_of_lt_of_le (m := 63) (by omega) (by decide), ?_⟩
      refine ⟨s3.mu hD0, by rw [upd_ne hDp.symm]; exact hp3, cs ++ [if ms[i] < 0 then -ms[i] else ms[i]], by rw [upd_same, List.map_append]; rfl, by rw [List.length_append, hl]; rfl, ?_⟩
      intro x hx
      rcases List.mem_append.mp hx with h | h
      · exact hc x h
      · cases List.mem_singleton.mp h
        split <;> omega
    · rintro H3 ⟨s3, hp3, cs, hD3, hl, hc⟩
      walk_at "el"
      refine ⟨by show 4 ≤ sizeLine; decide, fun b hb => ?_⟩
      have hbD : D ≠ b := fun z => by subst z; rw [hD3] at hb; cases hb
      exact k b D _ (s3.free hb) hD0 ⟨0, 1234567891, 0, cs, upd_same, by rw [upd_ne hbD]; exact hD3, hbD, by decide, by decide, by decide, by decide, hc⟩ (s3.nw hb)
theorem ok_one (F : Fun K "_law_one" "_law_one" s_one f fd) (T : Tb mg) (c_take : Cal P w K mg base CX0 1 "_law_take" ["_law_bag_here", "_law_many"] spTake) : FnOk P w K mg base CX0 2 f fd ["_law_bag_here", "_law_menu"] (spOne K) := by
  refine F.ok sc_one (fun vs H Q E h => ?_) (fun cdv A outer s H vs Q E hr h => ?_)
  · obtain ⟨_, _, _, _, rfl, _⟩ := h
    rfl
  · obtain ⟨b, c, m, xs, rfl, hb, hm, hs, h0, h1, k⟩ := h
    refine ⟨_, (pss_one (ps_ret (pe_ix ix_seq (pv 1) (pe_cal c_take (hr.mono (by decide)) pass0 (pa_cons (pv 0) (pa_cons (pe_callB u_len rfl T.b.len_ boot_len (pa_cons (pv 1) pa_nil)) pa_nil))) (fun _ _ => rfl)))), ?_⟩
    walk_at "el"
    refine n_len hs.len ?_
    walk_at "el"
    refine ⟨b, c, xs.length, rfl, hb, by omega, by omega, fun r H1 r0 r1 hb1 k1 => ?_⟩
    obtain ⟨x, hx⟩ : ∃ x, atI xs r = some x := by
      obtain ⟨n, rfl⟩ : ∃ n : Nat, r = n := ⟨r.toNat, by omega⟩
      have hn : n < xs.length := by omega
      exact ⟨xs[n], atI_nat (List.getElem?_eq_getElem hn)⟩
    have hm1 : SqA K H1 m xs := by
      rcases hs with h | (h | ⟨o, h⟩) | h
      · exact .inl (k1 _ _ hm h)
      · exact .inr (.inl (.inl (k1 _ _ hm h)))
      · exact .inr (.inl (.inr ⟨o, k1 _ _ hm h⟩))
      · exact .inr (.inr h)
    walk_at "el"
    rcases hm1 with h | h
    · refine n_ixL (SqL.of h) hx ?_
      exact k x _ (atI_mem hx) hb1 k1
    · refine n_ixT h hx ?_
      exact k x _ (atI_mem hx) hb1 k1
end
end EL

/- part G -/
namespace EL
open PySem PySem.Spec PyProof.Rows L2
open PySem.W (Frag)
/-! ### Book(..) as a call -/
abbrev psBook : List Str := ["self", "events", "witnesses", "tellings", "gaps", "sure", "clauses"]
structure BookD where
  f : Addr
  fd : FuncData
  d1 : Addr
  d2 : Addr
  d3 : Addr
  d4 : Addr
  ds : List Value
  ds4 : List Value
  ds3 : List Value
structure BookG (P : Program) (w : World) (K : Frag) (mg : Str → Option Value) (base : Heap) (C : Addr) (D : BookD) : Prop where
  made : Mk K C D.f
  fn : FnOk P w K mg base CX0 7 D.f D.fd psBook (spInit K C)
  b6 : L2.Binds K D.fd psBook []
  v2 : Vals [.ref D.d1, .ref D.d2, .ref D.d3, .ref D.d4] D.ds
  b2 : L2.Binds K D.fd psBook D.ds
  v4 : Vals [.ref D.d3, .ref D.d4] D.ds4
  b4 : L2.Binds K D.fd psBook D.ds4
  v3 : Vals [.ref D.d2, .ref D.d3, .ref D.d4] D.ds3
  b3 : L2.Binds K D.fd psBook D.ds3
  dflt : ∀ H, SqT K H D.d1 [] ∧ SqT K H D.d2 [] ∧ SqT K H D.d3 [] ∧ SqT K H D.d4 []
  g : mg "Book" = some (.ref C)
  c : BkC K C
/-- a new book, its parts tuples -/
def NewBook (K : Frag) (C : Addr) (ev wi : Int) (ts gs ss cs : List V) (H1 : Hp) (Q : VK) : Prop :=
  ∀ o dx t g s c H', Same H1 H' → H1 o = none → H' o = some (bookO C dx ev wi t g s c) → SqT K H' t ts → SqT K H' g gs → SqT K H' s ss → SqT K H' c cs → Q (.ref o) H'
theorem made_same {H1 H' : Hp} {x dx C : Addr} (nx : H1 x = none) (nd : H1 dx = none) (k : Kp x (upd (upd H1 dx (.own x)) x (.ins C dx [])) H') : Same H1 H' := fun a o e =>
  k a o (ne_of_none e nx) (by rw [upd_ne (ne_of_none e nx), upd_ne (ne_of_none e nd)]; exact e)
/-- what a making asks -/
def MkB (K : Frag) (C : Addr) (dvs vs : List V) (H1 : Hp) (Q : VK) : Prop := ∀ x dx, H1 x = none → H1 dx = none → dx ≠ x → spInit K C (.ref x :: (vs ++ dvs)) (upd (upd H1 dx (.own x)) x (.ins C dx [])) (fun v H2 => v = .non ∧ Q (.ref x) H2) E0
def tBk (K : Frag) (C : Addr) (dvs : List V) (t : TA) : TE := fun σ H Q => t σ H fun vs H1 => MkB K C dvs vs H1 Q
section
variable {X : Cx} {C : Addr} {D : BookD} {pos p : Pos} {e : Expr} {es : List Expr} {t : TA}
theorem pe_bk2 (B : BookG X.prog X.w X.K X.mg X.base C D) (hr : Room 8 X.A) (hg : Gl X "Book") (ha : PA X (e :: es) t) (he : starEach (e :: es) X.env = (false, eval e X.env) :: starEach es X.env := by rfl) (hpl : (backTo pos (starEach es X.env)).any (·.1) = false := by rfl) :
    PE X (.Call (.Name "Book" p) (e :: es) [] pos) (tBk X.K C [.ref D.d1, .ref D.d2, .ref D.d3, .ref D.d4] t) := pe_make (p := p) (pos := pos) B.made B.fn hr hg B.g B.b2 B.v2 pass0 ha (by decide) he hpl
theorem pe_bk6 (B : BookG X.prog X.w X.K X.mg X.base C D) (hr : Room 8 X.A) (hg : Gl X "Book") (ha : PA X (e :: es) t) (he : starEach (e :: es) X.env = (false, eval e X.env) :: starEach es X.env := by rfl) (hpl : (backTo pos (starEach es X.env)).any (·.1) = false := by rfl) :
    PE X (.Call (.Name "Book" p) (e :: es) [] pos) (tBk X.K C [] t) := pe_make (p := p) (pos := pos) B.made B.fn hr hg B.g B.b6 .nil pass0 ha (by decide) he hpl
theorem pe_bk4 (B : BookG X.prog X.w X.K X.mg X.base C D) (hr : Room 8 X.A) (hg : Gl X "Book") (ha : PA X (e :: es) t) (he : starEach (e :: es) X.env = (false, eval e X.env) :: starEach es X.env := by rfl) (hpl : (backTo pos (starEach es X.env)).any (·.1) = false := by rfl) :
    PE X (.Call (.Name "Book" p) (e :: es) [] pos) (tBk X.K C [.ref D.d3, .ref D.d4] t) := pe_make (p := p) (pos := pos) B.made B.fn hr hg B.g B.b4 B.v4 pass0 ha (by decide) he hpl
theorem pe_bk3 (B : BookG X.prog X.w X.K X.mg X.base C D) (hr : Room 8 X.A) (hg : Gl X "Book") (ha : PA X (e :: es) t) (he : starEach (e :: es) X.env = (false, eval e X.env) :: starEach es X.env := by rfl) (hpl : (backTo pos (starEach es X.env)).any (·.1) = false := by rfl) :
    PE X (.Call (.Name "Book" p) (e :: es) [] pos) (tBk X.K C [.ref D.d2, .ref D.d3, .ref D.d4] t) := pe_make (p := p) (pos := pos) B.made B.fn hr hg B.g B.b3 B.v3 pass0 ha (by decide) he hpl
end
section
variable {K : Frag} {C : Addr} {σ : L2.St} {H : Hp} {Q : VK} {dvs : List V} {t : TA}
theorem a_bk (q : t σ H fun vs H1 => MkB K C dvs vs H1 Q) : tBk K C dvs t σ H Q := q
theorem PartOk.nil {p : Pt} {a : Addr} {ev wi : Int} (h : SqT K H a []) : PartOk K p H a [] ev wi := ⟨.inr h, by decide, fun _ h => nomatch h⟩
theorem new_same {x dx : Addr} (nx : H x = none) (nd : H dx = none) (ne : dx ≠ x) : Same H (upd (upd H dx (.own x)) x (.ins C dx [])) := L2.Same.nw (L2.Same.nw (Same.refl H) nd) (by rw [upd_ne ne.symm]; exact nx)
theorem n_bk6 {ev wi : Int} {t g s c : Addr} {ts gs ss cs : List V} (e0 : 0 ≤ ev) (e8 : ev ≤ 8) (w0 : 0 ≤ wi) (w8 : wi ≤ 8) (ht : PartOk K .tel H t ts ev wi) (hg : PartOk K .gap H g gs ev wi) (hs : PartOk K .sur H s ss ev wi) (hc : PartOk K .cla H c cs ev wi)
    (q : NewBook K C ev wi ts gs ss cs H Q) : MkB K C [] [.int ev, .int wi, .ref t, .ref g, .ref s, .ref c] H Q := fun x dx nx nd ne => by
  have s0 := new_same (C := C) nx nd ne
  exact ⟨x, dx, ev, wi, t, g, s, c, ts, gs, ss, cs, rfl, upd_same, e0, e8, w0, w8, ht.same s0, hg.same s0, hs.same s0, hc.same s0, fun H' t' g' s' c' k ho h1 h2 h3 h4 => ⟨rfl, q x dx t' g' s' c' H' (made_same nx nd k) nx ho h1 h2 h3 h4⟩⟩
theorem n_bk4 {D : BookD} {ev wi : Int} {t g : Addr} {ts gs : List V} (hd : ∀ H, SqT K H D.d1 [] ∧ SqT K H D.d2 [] ∧ SqT K H D.d3 [] ∧ SqT K H D.d4 []) (e0 : 0 ≤ ev) (e8 : ev ≤ 8) (w0 : 0 ≤ wi) (w8 : wi ≤ 8) (ht : PartOk K .tel H t ts ev wi) (hg : PartOk K .gap H g gs ev wi)
    (q : NewBook K C ev wi ts gs [] [] H Q) : MkB K C [.ref D.d3, .ref D.d4] [.int ev, .int wi, .ref t, .ref g] H Q := fun x dx nx nd ne => by
  have s0 := new_same (C := C) nx nd ne
  exact ⟨x, dx, ev, wi, t, g, D.d3, D.d4, ts, gs, [], [], rfl, upd_same, e0, e8, w0, w8, ht.same s0, hg.same s0, .nil (hd _).2.2.1, .nil (hd _).2.2.2,
    fun H' t' g' s' c' k ho h1 h2 h3 h4 => ⟨rfl, q x dx t' g' s' c' H' (made_same nx nd k) nx ho h1 h2 h3 h4⟩⟩
theorem n_bk3 {D : BookD} {ev wi : Int} {t : Addr} {ts : List V} (hd : ∀ H, SqT K H D.d1 [] ∧ SqT K H D.d2 [] ∧ SqT K H D.d3 [] ∧ SqT K H D.d4 []) (e0 : 0 ≤ ev) (e8 : ev ≤ 8) (w0 : 0 ≤ wi) (w8 : wi ≤ 8) (ht : PartOk K .tel H t ts ev wi)
    (q : NewBook K C ev wi ts [] [] [] H Q) : MkB K C [.ref D.d2, .ref D.d3, .ref D.d4] [.int ev, .int wi, .ref t] H Q := fun x dx nx nd ne => by
  have s0 := new_same (C := C) nx nd ne
  exact ⟨x, dx, ev, wi, t, D.d2, D.d3, D.d4, ts, [], [], [], rfl, upd_same, e0, e8, w0, w8, ht.same s0, .nil (hd _).2.1, .nil (hd _).2.2.1, .nil (hd _).2.2.2,
    fun H' t' g' s' c' k ho h1 h2 h3 h4 => ⟨rfl, q x dx t' g' s' c' H' (made_same nx nd k) nx ho h1 h2 h3 h4⟩⟩
theorem n_bk2 {D : BookD} {ev wi : Int} (hd : ∀ H, SqT K H D.d1 [] ∧ SqT K H D.d2 [] ∧ SqT K H D.d3 [] ∧ SqT K H D.d4 []) (e0 : 0 ≤ ev) (e8 : ev ≤ 8) (w0 : 0 ≤ wi) (w8 : wi ≤ 8)
    (q : NewBook K C ev wi [] [] [] [] H Q) : MkB K C [.ref D.d1, .ref D.d2, .ref D.d3, .ref D.d4] [.int ev, .int wi] H Q := fun x dx nx nd ne => by
  exact ⟨x, dx, ev, wi, D.d1, D.d2, D.d3, D.d4, [], [], [], [], rfl, upd_same, e0, e8, w0, w8, .nil (hd _).1, .nil (hd _).2.1, .nil (hd _).2.2.1, .nil (hd _).2.2.2,
    fun H' t' g' s' c' k ho h1 h2 h3 h4 => ⟨rfl, q x dx t' g' s' c' H' (made_same nx nd k) nx ho h1 h2 h3 h4⟩⟩
end
theorem Bag.same {H H' : Hp} {b c : Addr} (h : Bag H b c) (s : Same H H') : Bag H' b c := by
  obtain ⟨i, j, k, cs, h1, h2, r⟩ := h
  exact ⟨i, j, k, cs, s _ _ h1, s _ _ h2, r⟩
theorem Bag.ne {H : Hp} {b c p : Addr} (h : Bag H b c) (hp : H p = none) : p ≠ b := fun z => by
  obtain ⟨i, j, k, cs, h1, _⟩ := h
  subst z
  rw [h1] at hp
  cases hp
theorem Th.kp {K : Frag} {b c : Addr} {H H' : Hp} {x : V} (h : Th K H x) (hb : Bag H b c) (hb' : Bag H' b c) (k : Kp b H H') : Th K H' x := by
  obtain ⟨_, _, _, _, h1, _⟩ := hb
  obtain ⟨_, _, _, _, h2, _⟩ := hb'
  exact h.stay h1 h2 k
theorem all_nil {α : Type} {p : α → Prop} : ∀ x ∈ ([] : List α), p x := fun _ h => nomatch h
theorem all_cons {α : Type} {p : α → Prop} {a : α} {l : List α} (h : p a) (t : ∀ x ∈ l, p x) : ∀ x ∈ a :: l, p x := fun x hx => (List.mem_cons.mp hx).elim (fun e => e ▸ h) (t x)
theorem all_app {α : Type} {p : α → Prop} {l m : List α} (h : ∀ x ∈ l, p x) (t : ∀ x ∈ m, p x) : ∀ x ∈ l ++ m, p x := fun x hx => (List.mem_append.mp hx).elim (h x) (t x)
/-- what is new -/
def Nw (H : Hp) (p : Addr) : Prop := ∀ o, Same H (upd H p o)
theorem nw_of {H : Hp} {p : Addr} (h : H p = none) : Nw H p := fun o => L2.Same.nw (Same.refl H) h
theorem Nw.to {H : Hp} {p a : Addr} {o u : HO} (n : Nw H p) (h : H a = some u) : upd H p o a = some u := n o a u h
theorem Th.kpK {K : Frag} {b c : Addr} {H H' : Hp} {x : V} (k : Kp b H H') (hb' : Bag H' b c) (hb : Bag H b c) (h : Th K H x) : Th K H' x := h.kp hb hb' k
theorem Kp.into {b : Addr} {H H1 H2 : Hp} (q : Kp b H1 H2) (p : Same H H1) : Kp b H H2 := (same_kp p).trans q
theorem eqv_is (r : Int) (s : Str) : PyData.eqv (.tuple [.int r, .str s]) (.tuple [.int r, .str s]) = true := by simp [PyData.eqv, PyData.eqvAll]
theorem shp_is {r : Int} {s : Str} (h : PyData.strOk s = true) : SeqAt.shaped (.tuple [.int r, .str s]) = true := by
  simp [SeqAt.shaped, PyData.canLay0, PyData.canLayAll0, PyData.depth, PyData.depthAll]
  exact h
/-- what a law promises: True for each script -/
def spLaw (K : Frag) : Sp := fun vs H Q _ => ∃ (a : Addr) (ns : List Int), vs = [.ref a] ∧ SqL K H a (ns.map V.int) ∧ ∀ H', Q (.bl true) H'
theorem walk_all {l : PySem.W.OpenLaw} {k : Nat} {q : Program} {loose : List Str} {XP : (Str → Option Value) → Heap → Prop} {YP : World → Heap → Prop} {d : DefRec} {K : Params → Frag} (hn : l.most = some 63) (hdf : d.params.defaults = []) (hr : Room k PySem.callerA)
    (hY : ∀ (w : World) (h : Heap), YP w h → (K w.params).In h)
    (F : ∀ (w : World) (mg : Str → Option Value) (fa : Addr) (h : Heap), (K w.params).In h → h.Ns mainGlobals mg → mg d.name = some (.ref fa) →
      ∃ fd : FuncData, (∀ (s : Shared) (u : Value), BindsTo s fd ⟨[u], []⟩ [("_law_script", u)]) ∧ ∀ base : Heap, (K w.params).In base → base.Ns mainGlobals mg → FnG l.prog w (K w.params) mg base CX0 k fa fd ["_law_script"] (spLaw (K w.params))) :
    PySem.W.WalkO q loose XP YP l.row.toRowW d [] (fun f vs => PySem.call f vs) :=
  walk_law (n := 63) (x := "_law_script") (CX := fun _ => CX0) (sp := fun w => spLaw (K w.params)) hn (by decide) hdf hr hY F (fun _ _ a ns hl _ hS => ⟨a, ns, rfl, hS, fun _ => rfl⟩) fun _ _ _ _ _ z => z
theorem own_kit {K : PySem.W.Frag} {C : Addr} {T : String} (hm : PySem.W.kitMeta T = true) (h : PySem.W.mroIn K C (.type T) = some false) : PySem.W.kitOne K (.ref C) (.type T) = some false := by
  unfold PySem.W.kitOne
  rw [if_neg (by simp)]
  show (if PySem.W.kitMeta T = true then PySem.W.subIn K (.ref C) (.type T) else none) = _
  rw [if_pos hm]
  exact h
/-! ### the properties of a book -/
def spGet (C : Addr) (fld : Str) : Sp := fun vs H Q _ => ∃ (a dx : Addr) (fs : List (Str × V)) (v : V), vs = [.ref a] ∧ H a = some (.ins C dx fs) ∧ fs.lookup fld = some v ∧ Q v H
structure PrpG (P : Program) (w : World) (K : Frag) (mg : Str → Option Value) (base : Heap) (C : Addr) (f fld : Str) : Prop where
  ex : ∃ p g fd, PropOf K C f p g ∧ FnOk P w K mg base CX0 1 g fd ["self"] (spGet C fld) ∧ L2.Binds K fd ["self"] []
  cl : Cls K C
theorem pe_prp {X : Cx} {C : Addr} {f fld : Str} {e : Expr} {ta : TE} {pos : Pos} (G : PrpG X.prog X.w X.K X.mg X.base C f fld) (hr : Room 2 X.A) (ha : PE X e ta) (hab : attributeBase e f X.env (eval e X.env) = eval e X.env := by rfl) :
    PE X (.Attribute e f pos) (tProp C (spGet C fld) [] E0 ta) := by
  obtain ⟨p, g, fd, hp, F, hb⟩ := G.ex
  exact pe_prop ha G.cl hp F hr hb .nil pass0 hab
def PrpR (C : Addr) (fld : Str) (x : V) (H : Hp) (Q : VK) : Prop := ∃ a dx fs, x = V.ref a ∧ H a = some (.ins C dx fs) ∧ spGet C fld (V.ref a :: []) H Q E0
theorem a_prp {C : Addr} {fld : Str} {ta : TE} {σ : L2.St} {H : Hp} {Q : VK} (q : ta σ H fun x H1 => PrpR C fld x H1 Q) : tProp C (spGet C fld) [] E0 ta σ H Q := q
theorem n_prp {C a dx : Addr} {fld : Str} {fs : List (Str × V)} {v : V} {H : Hp} {Q : VK} (h : H a = some (.ins C dx fs)) (hv : fs.lookup fld = some v) (q : Q v H) : PrpR C fld (.ref a) H Q := ⟨a, dx, fs, rfl, h, a, dx, fs, v, rfl, h, hv, q⟩
theorem nn {H : Hp} {a q : Addr} {o : HO} (h : upd H a o q = none) : q ≠ a ∧ H q = none := by
  by_cases e : q = a
  · subst e
    rw [upd_same] at h
    cases h
  · rw [upd_ne e] at h
    exact ⟨e, h⟩
theorem isI_cases {x : V} (h : isI x = true) : (∃ z, x = .int z) ∨ ∃ z, x = .bl z := by
  cases x with
  | int z => exact .inl ⟨z, rfl⟩
  | bl z => exact .inr ⟨z, rfl⟩
  | _ => cases h
theorem shp_ints : ∀ (js : List Int), SeqAt.shaped (.list (js.map PyData.int)) = true := by
  intro js
  simp only [SeqAt.shaped, Bool.and_eq_true, decide_eq_true_iff]
  refine ⟨?_, ?_⟩
  · show PyData.canLayAll0 (js.map PyData.int) = true
    induction js with
    | nil => rfl
    | cons j r ih => simp only [List.map_cons, PyData.canLayAll0, PyData.canLay0, ih, Bool.and_true]
  · have q : PyData.depthAll (js.map PyData.int) ≤ 1 := by
      induction js with
      | nil => decide
      | cons j r ih => simp [PyData.depthAll, PyData.depth]; omega
    simp [PyData.depth]; omega
theorem eqv_nil (ds : List PyData) : PyData.eqv (.list ds) (.list []) = decide (ds = []) := by
  cases ds with
  | nil => simp [PyData.eqv, PyData.eqvAll]
  | cons d r => simp [PyData.eqv, PyData.eqvAll]
theorem dp_ints {K : Frag} {H : Hp} : ∀ (js : List Int), DpAll K H (js.map V.int) (js.map PyData.int)
  | [] => .nil
  | j :: r => .cons (.int j) (dp_ints r)
/-! ### data stays -/
mutual
theorem dp_same {K : Frag} {H H' : Hp} (s : Same H H') : ∀ (d : PyData) (v : V), Dp K H v d → Dp K H' v d
  | .none, _, h => by cases h; exact .non
  | .bool _, _, h => by cases h; exact .bl _
  | .int _, _, h => by cases h; exact .int _
  | .str _, _, h => by cases h; exact .str _
  | .list ds, _, h => by
    cases h with
    | lst a ha => exact .lst (Same.seq s a) (dp_sameAll s ds _ ha)
  | .tuple ds, _, h => by
    cases h with
    | tup a ha => exact .tup (a.same s) (dp_sameAll s ds _ ha)
  | .dict _, _, h => by cases h
theorem dp_sameAll {K : Frag} {H H' : Hp} (s : Same H H') : ∀ (ds : List PyData) (vs : List V), DpAll K H vs ds → DpAll K H' vs ds
  | [], _, h => by cases h; exact .nil
  | d :: ds, _, h => by
    cases h with
    | cons h1 h2 => exact .cons (dp_same s d _ h1) (dp_sameAll s ds _ h2)
end
end EL

/- part R -/
namespace EL
open PySem PySem.Spec PyProof.Rows L2
open PySem.W (Frag)
abbrev s_Book_events : Stmt := inClass (top 26) 1
abbrev N_Book_events : List Str := ["self"]
theorem sc_Book_events : FnScope N_Book_events ["self"] (defScope s_Book_events) := ⟨rfl, rfl, rfl, by decide +kernel, rfl, by decide +kernel, by decide +kernel⟩
abbrev s_Book_witnesses : Stmt := inClass (top 26) 2
abbrev N_Book_witnesses : List Str := ["self"]
theorem sc_Book_witnesses : FnScope N_Book_witnesses ["self"] (defScope s_Book_witnesses) := ⟨rfl, rfl, rfl, by decide +kernel, rfl, by decide +kernel, by decide +kernel⟩
abbrev s_Book_tellings : Stmt := inClass (top 26) 3
abbrev N_Book_tellings : List Str := ["self"]
theorem sc_Book_tellings : FnScope N_Book_tellings ["self"] (defScope s_Book_tellings) := ⟨rfl, rfl, rfl, by decide +kernel, rfl, by decide +kernel, by decide +kernel⟩
abbrev s_Book_gaps : Stmt := inClass (top 26) 4
abbrev N_Book_gaps : List Str := ["self"]
theorem sc_Book_gaps : FnScope N_Book_gaps ["self"] (defScope s_Book_gaps) := ⟨rfl, rfl, rfl, by decide +kernel, rfl, by decide +kernel, by decide +kernel⟩
abbrev s_Book_sure : Stmt := inClass (top 26) 5
abbrev N_Book_sure : List Str := ["self"]
theorem sc_Book_sure : FnScope N_Book_sure ["self"] (defScope s_Book_sure) := ⟨rfl, rfl, rfl, by decide +kernel, rfl, by decide +kernel, by decide +kernel⟩
abbrev s_Book_clauses : Stmt := inClass (top 26) 6
abbrev N_Book_clauses : List Str := ["self"]
theorem sc_Book_clauses : FnScope N_Book_clauses ["self"] (defScope s_Book_clauses) := ⟨rfl, rfl, rfl, by decide +kernel, rfl, by decide +kernel, by decide +kernel⟩
local macro_rules | `(tactic| walk_at "el1") => `(tactic| with_reducible first
  | refine a_sasg ?_ | refine a_sdrop ?_ | refine a_saugS ?_ | refine a_spar ?_ | refine a_seq ?_ | refine a_asg ?_ | refine a_drop ?_ | refine a_ret ?_ | refine a_if ?_ | refine a_next ?_
  | refine a_op ?_ | refine a_cons ?_ | refine a_nil ?_ | refine a_cb ?_ | refine a_call ?_ | refine a_c ?_ | refine a_gn ?_ | refine a_nx ?_ | refine a_rt ?_ | refine a_un ?_
  | refine a_test ?_ | refine a_B ?_ | refine a_bl ?_ | refine a_and ?_ | refine a_or ?_ | refine a_not ?_ | refine a_andV ?_ | refine a_orV ?_ | refine a_notV ?_ | refine a_ifx ?_ | refine a_chain ?_
  | refine a_nT ?_ | refine a_nF ?_ | refine a_fld ?_ | refine a_getF ?_ | refine a_T ?_ | refine a_F ?_ | refine a_tup ?_ | refine a_lst ?_ | refine a_sub ?_ | refine a_augS ?_ | refine a_two ?_ | refine a_I0 ?_ | refine a_U ?_ | refine n_add ?_ | refine n_int ?_ | refine n_ib ?_ | refine a_ip ?_ | refine a_rng1 ?_ | refine a_rng2 ?_ | refine a_bm ?_ | refine a_abs ?_ | refine a_pairs ?_ | refine a_pairs0 ?_ | refine a_bk ?_ | refine a_prp ?_ | refine a_lc ?_ | refine a_yes ?_ | refine a_sl ?_ | refine a_nop ?_ | refine a_prt ?_ | refine a_ex1 ?_ | refine a_for ?_ | refine a_sfor ?_ | refine a_iE1 ?_ | refine a_iEs ?_ | refine a_iEz ?_ | refine a_iEnum ?_ | refine a_iTup ?_ | refine a_iList ?_ | refine a_gcons ?_ | refine a_gnil ?_ | refine a_revT ?_ | refine a_spar3 ?_ | refine a_par3 ?_ | refine a_three ?_)
local macro_rules | `(tactic| walk_at "el2") => `(tactic| first
  | (refine a_var (by rfl) ?_)
  | (refine n_ixL (SqL.of (by assumption)) (by rfl) ?_) | (refine n_ixT (SqT.of (by assumption)) (by rfl) ?_) | (refine n_eq (by rfl) ?_) | (refine n_ne (by rfl) ?_)
  | (refine n_isN ?_) | (refine n_notN ?_) | (refine n_isB ?_) | (refine n_notB ?_) | (refine n_isBI ?_) | (refine n_notBI ?_) | (refine n_len (.inl (SqL.of (by assumption))) ?_) | (refine n_len (.inr (SqT.of (by assumption))) ?_)
  | (refine a_getL (SqL.of (by assumption)) (by rfl) ?_)
  | (refine n_isInt (by assumption) ?_) | (refine n_isBool (by assumption) ?_) | (refine n_isStr (by assumption) ?_) | (refine n_isTup (by assumption) ?_) | (refine n_isLst (by assumption) ?_))
local macro_rules | `(tactic| walk_at "el") => `(tactic| repeat (first | walk_at "el1" | walk_at "el2"))

/-! ### ways -/
/-- the gaps of a book, as numbers -/
structure GapsAre (K : Frag) (H : Hp) (g : Addr) (gs : List V) (G : List (Int × Int × Int)) : Prop where
  seq : SqA K H g gs
  len : gs.length = G.length
  at_ : ∀ (i : Nat) (v : V), gs[i]? = some v → ∃ (q : Addr) (x : Int × Int × Int), v = .ref q ∧ G[i]? = some x ∧ H q = some (.tup [.int x.1, .int x.2.1, .int x.2.2])
theorem GapsAre.same {K : Frag} {H H' : Hp} {g : Addr} {gs : List V} {G : List (Int × Int × Int)} (h : GapsAre K H g gs G) (s : Same H H') : GapsAre K H' g gs G :=
  ⟨h.seq.same s, h.len, fun i v hv => by
    obtain ⟨q, x, e, hx, hq⟩ := h.at_ i v hv
    exact ⟨q, x, e, hx, s _ _ hq⟩⟩
theorem num_int {x : V} (h : numB x = true) : ∃ n, x = .int n := by
  cases x with
  | int n => exact ⟨n, rfl⟩
  | _ => cases h
theorem item_gap_inv {H : Hp} {x : V} {ev wi : Int} (h : ItemOk .gap H x ev wi) : ∃ (q : Addr) (a e n : Int), x = .ref q ∧ H q = some (.tup [.int a, .int e, .int n]) ∧ 0 ≤ a ∧ a < ev ∧ 0 ≤ e ∧ e < ev ∧ e ≠ a := by
  obtain ⟨q, xs, rfl, hq, hl, hs⟩ := h
  match xs, hl with
  | [x0, x1, x2], _ =>
    have h0 : belowB x0 ev = true := by
      have z := hs 0 (by decide) "event" x0 rfl rfl
      unfold standB at z
      rw [if_neg (by decide), if_pos rfl] at z
      exact z
    have h1 : (belowB x1 ev && !decide (some x1 = [x0, x1, x2][1 - 1]?)) = true := by
      have z := hs 1 (by decide) "another event" x1 rfl rfl
      unfold standB at z
      rw [if_neg (by decide), if_neg (by decide), if_pos rfl] at z
      exact z
    have h2 : numB x2 = true := by
      have z := hs 2 (by decide) "number" x2 rfl rfl
      unfold standB at z
      rw [if_neg (by decide), if_neg (by decide), if_neg (by decide), if_neg (by decide), if_neg (by decide)] at z
      exact z
    rw [Bool.and_eq_true] at h1
    obtain ⟨a, rfl, a0, a1⟩ := below_int h0
    obtain ⟨e, rfl, e0, e1⟩ := below_int h1.1
    obtain ⟨n, rfl⟩ := num_int h2
    refine ⟨q, a, e, n, rfl, hq, a0, a1, e0, e1, fun z => ?_⟩
    have w := h1.2
    rw [z] at w
    simp at w
theorem gaps_of {H : Hp} {ev wi : Int} : ∀ (gs : List V), (∀ x ∈ gs, ItemOk .gap H x ev wi) → ∃ G : List (Int × Int × Int), gs.length = G.length ∧ (∀ x ∈ G, 0 ≤ x.1 ∧ x.1 < ev ∧ 0 ≤ x.2.1 ∧ x.2.1 < ev) ∧
    ∀ (i : Nat) (v : V), gs[i]? = some v → ∃ (q : Addr) (x : Int × Int × Int), v = .ref q ∧ G[i]? = some x ∧ H q = some (.tup [.int x.1, .int x.2.1, .int x.2.2])
  | [], _ => ⟨[], rfl, (fun _ h => nomatch h), fun i v h => by cases h⟩
  | y :: r, h => by
    obtain ⟨G, hl, hb, hG⟩ := gaps_of r fun x hx => h x (List.mem_cons_of_mem _ hx)
    obtain ⟨q, a, e, n, rfl, hq, a0, a1, e0, e1, _⟩ := item_gap_inv (h y (List.mem_cons_self ..))
    refine ⟨(a, e, n) :: G, by rw [List.length_cons, List.length_cons, hl], ?_, fun i v hv => ?_⟩
    · intro x hx
      rcases List.mem_cons.mp hx with rfl | hx
      · exact ⟨a0, a1, e0, e1⟩
      · exact hb x hx
    · cases i with
      | zero =>
        cases hv
        exact ⟨q, (a, e, n), rfl, rfl, hq⟩
      | succ i => exact hG i v hv
/-- one step further -/
def stepW (G : List (Int × Int × Int)) (here : Int) (v : V) : Option Int :=
  match v with
  | .int i => if 0 ≤ i ∧ i < G.length then (G[i.toNat]?).bind fun x => if x.1 = here then some x.2.1 else none else none
  | _ => none
def wayTo (G : List (Int × Int × Int)) (a : Int) (xs : List V) : Option Int := xs.foldl (fun o v => o.bind fun h => stepW G h v) (some a)
theorem way_snoc {G : List (Int × Int × Int)} {a : Int} {xs : List V} {v : V} : wayTo G a (xs ++ [v]) = (wayTo G a xs).bind fun h => stepW G h v := by
  unfold wayTo
  rw [List.foldl_append]
  rfl
theorem way_lost {G : List (Int × Int × Int)} : ∀ (xs : List V), xs.foldl (fun o v => o.bind fun h => stepW G h v) none = none
  | [] => rfl
  | _ :: r => way_lost r
theorem way_off {G : List (Int × Int × Int)} {a : Int} {xs ys : List V} (h : wayTo G a xs = none) : wayTo G a (xs ++ ys) = none := by
  unfold wayTo at h ⊢
  rw [List.foldl_append, h]
  exact way_lost ys
theorem step_off {G : List (Int × Int × Int)} {h : Int} {v : V} (q : belowB v G.length = false) : stepW G h v = none := by
  cases v with
  | int i =>
    have e : (decide (0 ≤ i) && decide (i < (G.length : Int))) = false := q
    show (if 0 ≤ i ∧ i < (G.length : Int) then _ else none) = none
    rw [if_neg]
    rintro ⟨a, b⟩
    rw [decide_eq_true a, decide_eq_true b] at e
    cases e
  | _ => rfl
theorem step_at {G : List (Int × Int × Int)} {h : Int} {j : Nat} {x : Int × Int × Int} (q : G[j]? = some x) : stepW G h (.int j) = if x.1 = h then some x.2.1 else none := by
  have l := (List.getElem?_eq_some_iff.mp q).1
  show (if 0 ≤ (j : Int) ∧ (j : Int) < (G.length : Int) then _ else none) = _
  rw [if_pos ⟨by omega, by omega⟩, Int.toNat_natCast, q]
  rfl
/-- a way between two events -/
def isWay (H : Hp) (G : List (Int × Int × Int)) (a b : Int) (x : V) : Prop := ∃ (q : Addr) (xs : List V), x = .ref q ∧ H q = some (.tup xs) ∧ wayTo G a xs = some b
def spWay (K : Frag) (C : Addr) : Sp := fun vs H Q _ => ∃ (bk dx : Addr) (ev wi : Int) (t g s c : Addr) (gs : List V) (G : List (Int × Int × Int)) (a b : Int) (x : V), vs = [.ref bk, .int a, .int b, x] ∧ H bk = some (bookO C dx ev wi t g s c) ∧ GapsAre K H g gs G ∧
  Th K H x ∧ (∀ q xs, x = .ref q → H q = some (.tup xs) → ∀ y ∈ xs, Th K H y) ∧ ∀ H' r, Same H H' → (r = true ↔ isWay H G a b x) → Q (.bl r) H'
section
variable {P : Program} {w : World} {K : Frag} {mg : Str → Option Value} {base : Heap} {f : Addr} {fd : FuncData} {C : Addr}
theorem ok_get_events (F : Fun K "events" "Book.events" s_Book_events f fd) (B : BkC K C) : FnOk P w K mg base CX0 1 f fd ["self"] (spGet C "_events") := by
  refine F.ok sc_Book_events (fun vs H Q E h => ?_) (fun cdv A outer s H vs Q E hr h => ?_)
  · obtain ⟨_, _, _, _, rfl, _⟩ := h
    rfl
  · obtain ⟨a, dx, fs, v, rfl, ha, hv, k⟩ := h
    refine ⟨_, (pss_one (ps_ret (pe_fld (pv 0) rfl))), ?_⟩
    walk_at "el"
    refine ⟨a, C, dx, fs, v, rfl, ha, B.own.cl, B.n0, hv, ?_⟩
    exact k
theorem ok_get_witnesses (F : Fun K "witnesses" "Book.witnesses" s_Book_witnesses f fd) (B : BkC K C) : FnOk P w K mg base CX0 1 f fd ["self"] (spGet C "_witnesses") := by
  refine F.ok sc_Book_witnesses (fun vs H Q E h => ?_) (fun cdv A outer s H vs Q E hr h => ?_)
  · obtain ⟨_, _, _, _, rfl, _⟩ := h
    rfl
  · obtain ⟨a, dx, fs, v, rfl, ha, hv, k⟩ := h
    refine ⟨_, (pss_one (ps_ret (pe_fld (pv 0) rfl))), ?_⟩
    walk_at "el"
    refine ⟨a, C, dx, fs, v, rfl, ha, B.own.cl, B.n1, hv, ?_⟩
    exact k
theorem ok_get_tellings (F : Fun K "tellings" "Book.tellings" s_Book_tellings f fd) (B : BkC K C) : FnOk P w K mg base CX0 1 f fd ["self"] (spGet C "_tellings") := by
  refine F.ok sc_Book_tellings (fun vs H Q E h => ?_) (fun cdv A outer s H vs Q E hr h => ?_)
  · obtain ⟨_, _, _, _, rfl, _⟩ := h
    rfl
  · obtain ⟨a, dx, fs, v, rfl, ha, hv, k⟩ := h
    refine ⟨_, (pss_one (ps_ret (pe_fld (pv 0) rfl))), ?_⟩
    walk_at "el"
    refine ⟨a, C, dx, fs, v, rfl, ha, B.own.cl, B.n2, hv, ?_⟩
    exact k
theorem ok_get_gaps (F : Fun K "gaps" "Book.gaps" s_Book_gaps f fd) (B : BkC K C) : FnOk P w K mg base CX0 1 f fd ["self"] (spGet C "_gaps") := by
  refine F.ok sc_Book_gaps (fun vs H Q E h => ?_) (fun cdv A outer s H vs Q E hr h => ?_)
  · obtain ⟨_, _, _, _, rfl, _⟩ := h
    rfl
  · obtain ⟨a, dx, fs, v, rfl, ha, hv, k⟩ := h
    refine ⟨_, (pss_one (ps_ret (pe_fld (pv 0) rfl))), ?_⟩
    walk_at "el"
    refine ⟨a, C, dx, fs, v, rfl, ha, B.own.cl, B.n3, hv, ?_⟩
    exact k
theorem ok_get_sure (F : Fun K "sure" "Book.sure" s_Book_sure f fd) (B : BkC K C) : FnOk P w K mg base CX0 1 f fd ["self"] (spGet C "_sure") := by
  refine F.ok sc_Book_sure (fun vs H Q E h => ?_) (fun cdv A outer s H vs Q E hr h => ?_)
  · obtain ⟨_, _, _, _, rfl, _⟩ := h
    rfl
  · obtain ⟨a, dx, fs, v, rfl, ha, hv, k⟩ := h
    refine ⟨_, (pss_one (ps_ret (pe_fld (pv 0) rfl))), ?_⟩
    walk_at "el"
    refine ⟨a, C, dx, fs, v, rfl, ha, B.own.cl, B.n4, hv, ?_⟩
    exact k
theorem ok_get_clauses (F : Fun K "clauses" "Book.clauses" s_Book_clauses f fd) (B : BkC K C) : FnOk P w K mg base CX0 1 f fd ["self"] (spGet C "_clauses") := by
  refine F.ok sc_Book_clauses (fun vs H Q E h => ?_) (fun cdv A outer s H vs Q E hr h => ?_)
  · obtain ⟨_, _, _, _, rfl, _⟩ := h
    rfl
  · obtain ⟨a, dx, fs, v, rfl, ha, hv, k⟩ := h
    refine ⟨_, (pss_one (ps_ret (pe_fld (pv 0) rfl))), ?_⟩
    walk_at "el"
    refine ⟨a, C, dx, fs, v, rfl, ha, B.own.cl, B.n5, hv, ?_⟩
    exact k
end
end EL

/- part N -/
namespace EL
open PySem PySem.Spec PyProof.Rows L2
open PySem.W (Frag)
abbrev s_number : Stmt := top 32
abbrev N_number : List Str := ["_law_bag_here", "_law_mode", "_law_small"]
theorem sc_number : FnScope N_number ["_law_bag_here"] (defScope s_number) := ⟨rfl, rfl, rfl, by decide +kernel, rfl, by decide +kernel, by decide +kernel⟩
abbrev s_kind : Stmt := top 33
abbrev N_kind : List Str := ["_law_bag_here"]
theorem sc_kind : FnScope N_kind ["_law_bag_here"] (defScope s_kind) := ⟨rfl, rfl, rfl, by decide +kernel, rfl, by decide +kernel, by decide +kernel⟩
abbrev s_parts : Stmt := top 34
abbrev N_parts : List Str := ["_law_bag_here", "_law_events", "_law_witnesses", "_law_most", "_law_parts_here", "_law_k", "_law_a", "_law_pair"]
theorem sc_parts : FnScope N_parts ["_law_bag_here", "_law_events", "_law_witnesses", "_law_most"] (defScope s_parts) := ⟨rfl, rfl, rfl, by decide +kernel, rfl, by decide +kernel, by decide +kernel⟩
local macro_rules | `(tactic| walk_at "el1") => `(tactic| with_reducible first
  | refine a_sasg ?_ | refine a_sdrop ?_ | refine a_saugS ?_ | refine a_spar ?_ | refine a_seq ?_ | refine a_asg ?_ | refine a_drop ?_ | refine a_ret ?_ | refine a_if ?_ | refine a_next ?_
  | refine a_op ?_ | refine a_cons ?_ | refine a_nil ?_ | refine a_cb ?_ | refine a_call ?_ | refine a_c ?_ | refine a_gn ?_ | refine a_nx ?_ | refine a_rt ?_ | refine a_un ?_
  | refine a_test ?_ | refine a_B ?_ | refine a_bl ?_ | refine a_and ?_ | refine a_or ?_ | refine a_not ?_ | refine a_andV ?_ | refine a_orV ?_ | refine a_notV ?_ | refine a_ifx ?_ | refine a_chain ?_
  | refine a_nT ?_ | refine a_nF ?_ | refine a_fld ?_ | refine a_getF ?_ | refine a_T ?_ | refine a_F ?_ | refine a_tup ?_ | refine a_lst ?_ | refine a_sub ?_ | refine a_augS ?_ | refine a_two ?_ | refine a_I0 ?_ | refine a_U ?_ | refine n_add ?_ | refine n_int ?_ | refine n_ib ?_ | refine a_ip ?_ | refine a_rng1 ?_ | refine a_rng2 ?_ | refine a_bm ?_ | refine a_abs ?_ | refine a_pairs ?_ | refine a_pairs0 ?_ | refine a_bk ?_ | refine a_prp ?_ | refine a_lc ?_ | refine a_yes ?_ | refine a_sl ?_ | refine a_nop ?_ | refine a_prt ?_ | refine a_ex1 ?_ | refine a_for ?_ | refine a_sfor ?_ | refine a_iE1 ?_ | refine a_iEs ?_ | refine a_iEz ?_ | refine a_iEnum ?_ | refine a_iTup ?_ | refine a_iList ?_ | refine a_gcons ?_ | refine a_gnil ?_ | refine a_revT ?_ | refine a_spar3 ?_ | refine a_par3 ?_ | refine a_three ?_)
local macro_rules | `(tactic| walk_at "el2") => `(tactic| first
  | (refine a_var (by rfl) ?_)
  | (refine n_ixL (SqL.of (by assumption)) (by rfl) ?_) | (refine n_ixT (SqT.of (by assumption)) (by rfl) ?_) | (refine n_eq (by rfl) ?_) | (refine n_ne (by rfl) ?_)
  | (refine n_isN ?_) | (refine n_notN ?_) | (refine n_isB ?_) | (refine n_notB ?_) | (refine n_isBI ?_) | (refine n_notBI ?_) | (refine n_len (.inl (SqL.of (by assumption))) ?_) | (refine n_len (.inr (SqT.of (by assumption))) ?_)
  | (refine a_getL (SqL.of (by assumption)) (by rfl) ?_)
  | (refine n_isInt (by assumption) ?_) | (refine n_isBool (by assumption) ?_) | (refine n_isStr (by assumption) ?_) | (refine n_isTup (by assumption) ?_) | (refine n_isLst (by assumption) ?_))
local macro_rules | `(tactic| walk_at "el") => `(tactic| repeat (first | walk_at "el1" | walk_at "el2"))

/-! ### numbers, kinds, parts as a law draws them -/
def spNum : Sp := fun vs H Q _ => ∃ b c, vs = [.ref b] ∧ Bag H b c ∧ ∀ (r : Int) H', -1000000000000 ≤ r → r ≤ 1000000000000 → Bag H' b c → Kp b H H' → Q (.int r) H'
def spKnd : Sp := fun vs H Q _ => ∃ b c, vs = [.ref b] ∧ Bag H b c ∧ ∀ (s : Str) H', s = "early" ∨ s = "late" → Bag H' b c → Kp b H H' → Q (.str s) H'
/-- the lists of four parts, new since H0 -/
structure PSt (b c p : Addr) (l : Pt → Addr) (H0 : Hp) : Prop where
  inj : ∀ t u, t ≠ u → l t ≠ l u
  lb : ∀ t, l t ≠ b
  lc : ∀ t, l t ≠ c
  pl : ∀ t, p ≠ l t
  pb : p ≠ b
  fl : ∀ t, H0 (l t) = none
  fp : H0 p = none
/-- no number in an item is near the end of the numbers -/
def Below (H : Hp) (x : V) : Prop := ∀ (q : Addr) (ys : List V) (n : Int), x = .ref q → H q = some (.tup ys) → V.int n ∈ ys → -10000000000000 ≤ n ∧ n ≤ 10000000000000
/-- the number of a gap is small -/
def GapSm (H : Hp) (x : V) : Prop := ∀ (q : Addr) (a e : V) (n : Int), x = .ref q → H q = some (.tup [a, e, .int n]) → -4 ≤ n ∧ n ≤ 4
structure PIv (b c p : Addr) (l : Pt → Addr) (H0 H : Hp) (ev wi : Int) (xs : Pt → List V) : Prop where
  bag : Bag H b c
  kp : Kp b H0 H
  hp : H p = some (.lst [.ref (l .tel), .ref (l .gap), .ref (l .sur), .ref (l .cla)])
  hl : ∀ t, H (l t) = some (.lst (xs t))
  it : ∀ t, ∀ x ∈ xs t, ItemOk t H x ev wi
  nb : ∀ t, ∀ x ∈ xs t, Below H x
  ng : ∀ x ∈ xs .gap, GapSm H x
theorem GapSm.of {H H' : Hp} {x : V} (h : GapSm H x) (hi : ∃ a ys, x = .ref a ∧ H a = some (.tup ys) ∧ H' a = some (.tup ys)) : GapSm H' x := fun q a e n ex hq => by
  obtain ⟨a', zs, ex', h1, h2⟩ := hi
  cases (ex'.symm.trans ex)
  rw [h2] at hq
  cases hq
  exact h _ _ _ n ex h1
theorem gapsm3 {H : Hp} {q : Addr} {a e x : Int} (hx : -4 ≤ x ∧ x ≤ 4) : GapSm (upd H q (.tup [.int a, .int e, .int x])) (.ref q) := fun q' a' e' n e hq => by
  cases e
  rw [upd_same] at hq
  cases hq
  exact hx
theorem Below.of {H H' : Hp} {x : V} (h : Below H x) (hi : ∃ a ys, x = .ref a ∧ H a = some (.tup ys) ∧ H' a = some (.tup ys)) : Below H' x := fun q ys n e hq hn => by
  obtain ⟨a, zs, ex, h1, h2⟩ := hi
  cases (ex.symm.trans e)
  rw [h2] at hq
  cases hq
  exact h _ _ n e h1 hn
theorem below_tup {H : Hp} {q : Addr} {ys : List V} (hq : H q = some (.tup ys)) (h : ∀ n, V.int n ∈ ys → -10000000000000 ≤ n ∧ n ≤ 10000000000000) : Below H (.ref q) := fun q' zs n e hq' hn => by
  cases e
  rw [hq] at hq'
  cases hq'
  exact h n hn
theorem below3 {H : Hp} {q : Addr} {a e x : Int} (ha : 0 ≤ a ∧ a ≤ 8) (he : 0 ≤ e ∧ e ≤ 8) (hx : -10000000000000 ≤ x ∧ x ≤ 10000000000000) : Below (upd H q (.tup [.int a, .int e, .int x])) (.ref q) := below_tup upd_same fun n hn => by
  rcases List.mem_cons.mp hn with z | hn
  · cases z; omega
  rcases List.mem_cons.mp hn with z | hn
  · cases z; omega
  cases List.mem_singleton.mp hn
  exact hx
theorem belowS {H : Hp} {q : Addr} {a x : Int} {s : Str} (ha : 0 ≤ a ∧ a ≤ 8) (hx : -10000000000000 ≤ x ∧ x ≤ 10000000000000) : Below (upd H q (.tup [.int a, .str s, .int x])) (.ref q) := below_tup upd_same fun n hn => by
  rcases List.mem_cons.mp hn with z | hn
  · cases z; omega
  rcases List.mem_cons.mp hn with z | hn
  · cases z
  cases List.mem_singleton.mp hn
  exact hx
theorem belowC {H : Hp} {q : Addr} {a v : Int} {s r : Str} (ha : 0 ≤ a ∧ a ≤ 8) (hv : 0 ≤ v ∧ v ≤ 8) : Below (upd H q (.tup [.int a, .str s, .int v, .str r])) (.ref q) := below_tup upd_same fun n hn => by
  rcases List.mem_cons.mp hn with z | hn
  · cases z; omega
  rcases List.mem_cons.mp hn with z | hn
  · cases z
  rcases List.mem_cons.mp hn with z | hn
  · cases z; omega
  cases List.mem_singleton.mp hn
theorem ItemOk.kp {t : Pt} {b c : Addr} {H H' : Hp} {x : V} {ev wi : Int} (h : ItemOk t H x ev wi) (hb : Bag H b c) (k : Kp b H H') : ItemOk t H' x ev wi := by
  obtain ⟨a, xs, rfl, ha, hl, hs⟩ := h
  refine ⟨a, xs, rfl, k _ _ (fun z => ?_) ha, hl, hs⟩
  subst z
  obtain ⟨_, _, _, _, q, _⟩ := hb
  rw [q] at ha
  cases ha
theorem ItemOk.lst {t : Pt} {a : Addr} {ys zs : List V} {H : Hp} {x : V} {ev wi : Int} (h : ItemOk t H x ev wi) (hb : H a = some (.lst ys)) : ItemOk t (upd H a (.lst zs)) x ev wi := by
  obtain ⟨c, xs, rfl, ha, hl, hs⟩ := h
  refine ⟨c, xs, rfl, ?_, hl, hs⟩
  rw [upd_ne (fun z => by subst z; rw [hb] at ha; cases ha)]
  exact ha
theorem PIv.kp' {b c p : Addr} {l : Pt → Addr} {H0 H H' : Hp} {ev wi : Int} {xs : Pt → List V} (S : PSt b c p l H0) (h : PIv b c p l H0 H ev wi xs) (hb : Bag H' b c) (k : Kp b H H') : PIv b c p l H0 H' ev wi xs :=
  ⟨hb, h.kp.trans k, k _ _ S.pb h.hp, fun t => k _ _ (S.lb t) (h.hl t), fun t x hx => (h.it t x hx).kp h.bag k, fun t x hx => (h.nb t x hx).of (by
    obtain ⟨a, ys, e, ha, _, _⟩ := h.it t x hx
    refine ⟨a, ys, e, ha, k _ _ (fun z => ?_) ha⟩
    subst z
    obtain ⟨_, _, _, _, q, _⟩ := h.bag
    rw [q] at ha
    cases ha), fun x hx => (h.ng x hx).of (by
    obtain ⟨a, ys, e, ha, _, _⟩ := h.it .gap x hx
    refine ⟨a, ys, e, ha, k _ _ (fun z => ?_) ha⟩
    subst z
    obtain ⟨_, _, _, _, q, _⟩ := h.bag
    rw [q] at ha
    cases ha)⟩
theorem PIv.nw {b c p : Addr} {l : Pt → Addr} {H0 H H' : Hp} {ev wi : Int} {xs : Pt → List V} (S : PSt b c p l H0) (h : PIv b c p l H0 H ev wi xs) (s : Same H H') : PIv b c p l H0 H' ev wi xs := h.kp' S (h.bag.same s) (same_kp s)
def setP (xs : Pt → List V) (t : Pt) (ys : List V) : Pt → List V := fun u => if u = t then ys else xs u
theorem setP_at {xs : Pt → List V} {t : Pt} {ys : List V} : setP xs t ys t = ys := if_pos rfl
theorem setP_ne {xs : Pt → List V} {t u : Pt} {ys : List V} (h : u ≠ t) : setP xs t ys u = xs u := if_neg h
theorem PIv.app {b c p : Addr} {l : Pt → Addr} {H0 H : Hp} {ev wi : Int} {xs : Pt → List V} (S : PSt b c p l H0) (h : PIv b c p l H0 H ev wi xs) (t : Pt) {x : V} (hx : ItemOk t H x ev wi) (hn : Below H x) (hg : t = .gap → GapSm H x) : PIv b c p l H0 (upd H (l t) (.lst (xs t ++ [x]))) ev wi (setP xs t (xs t ++ [x])) := by
  refine ⟨?_, h.kp.mut (S.fl t), by rw [upd_ne (S.pl t)]; exact h.hp, fun u => ?_, fun u y hy => ?_, fun u y hy => ?_, fun y hy => ?_⟩
  · obtain ⟨i, j, n, cs, h1, h2, r⟩ := h.bag
    exact ⟨i, j, n, cs, by rw [upd_ne (S.lb t).symm]; exact h1, by rw [upd_ne (S.lc t).symm]; exact h2, r⟩
  · by_cases e : u = t
    · subst e
      rw [upd_same, setP_at]
    · rw [upd_ne (S.inj u t e), setP_ne e]
      exact h.hl u
  · by_cases e : u = t
    · subst e
      rw [setP_at] at hy
      rcases List.mem_append.mp hy with q | q
      · exact (h.it u y q).lst (h.hl u)
      · cases List.mem_singleton.mp q
        exact hx.lst (h.hl u)
    · rw [setP_ne e] at hy
      exact (h.it u y hy).lst (h.hl t)
  · have mv : ∀ {v : V} {w : Pt}, ItemOk w H v ev wi → Below H v → Below (upd H (l t) (.lst (xs t ++ [x]))) v := fun {v w} hi hb => hb.of (by
      obtain ⟨a, ys, e, ha, _, _⟩ := hi
      refine ⟨a, ys, e, ha, ?_⟩
      rw [upd_ne (fun z => by rw [z, h.hl t] at ha; cases ha)]
      exact ha)
    by_cases e : u = t
    · subst e
      rw [setP_at] at hy
      rcases List.mem_append.mp hy with q | q
      · exact mv (h.it u y q) (h.nb u y q)
      · cases List.mem_singleton.mp q
        exact mv hx hn
    · rw [setP_ne e] at hy
      exact mv (h.it u y hy) (h.nb u y hy)
  · have mv : ∀ {v : V} {w : Pt}, ItemOk w H v ev wi → GapSm H v → GapSm (upd H (l t) (.lst (xs t ++ [x]))) v := fun {v w} hi hb => hb.of (by
      obtain ⟨a, ys, e, ha, _, _⟩ := hi
      refine ⟨a, ys, e, ha, ?_⟩
      rw [upd_ne (fun z => by rw [z, h.hl t] at ha; cases ha)]
      exact ha)
    by_cases e : Pt.gap = t
    · subst e
      rw [setP_at] at hy
      rcases List.mem_append.mp hy with q | q
      · exact mv (h.it .gap y q) (h.ng y q)
      · cases List.mem_singleton.mp q
        exact mv hx (hg rfl)
    · rw [setP_ne e] at hy
      exact mv (h.it .gap y hy) (h.ng y hy)
def spParts : Sp := fun vs H Q _ => ∃ (ev wi most : Int) (b c : Addr), vs = [.ref b, .int ev, .int wi, .int most] ∧ Bag H b c ∧ 0 ≤ ev ∧ ev ≤ 8 ∧ 0 ≤ wi ∧ wi ≤ 8 ∧ 0 ≤ most ∧ most ≤ 1000 ∧
  ∀ p l H' xs, PSt b c p l H → PIv b c p l H H' ev wi xs → ((xs .tel).length : Int) ≤ most → ((xs .gap).length : Int) ≤ most / 2 + 1 → (xs .sur).length ≤ 3 → (xs .cla).length ≤ 3 → Q (.ref p) H'
def lOf (l0 l1 l2 l3 : Addr) : Pt → Addr | .tel => l0 | .gap => l1 | .sur => l2 | .cla => l3
theorem parts_start {b c l0 l1 l2 l3 p : Addr} {H : Hp} {ev wi : Int} (hb : Bag H b c) (h0 : H l0 = none) (h1 : upd H l0 (.lst []) l1 = none) (h2 : upd (upd H l0 (.lst [])) l1 (.lst []) l2 = none) (h3 : upd (upd (upd H l0 (.lst [])) l1 (.lst [])) l2 (.lst []) l3 = none)
    (hp : upd (upd (upd (upd H l0 (.lst [])) l1 (.lst [])) l2 (.lst [])) l3 (.lst []) p = none) :
    PSt b c p (lOf l0 l1 l2 l3) H ∧ PIv b c p (lOf l0 l1 l2 l3) H (upd (upd (upd (upd (upd H l0 (.lst [])) l1 (.lst [])) l2 (.lst [])) l3 (.lst [])) p (.lst [.ref l0, .ref l1, .ref l2, .ref l3])) ev wi (fun _ => []) := by
  obtain ⟨n10, h1⟩ := nn h1
  obtain ⟨n21, h2⟩ := nn h2
  obtain ⟨n20, h2⟩ := nn h2
  obtain ⟨n32, h3⟩ := nn h3
  obtain ⟨n31, h3⟩ := nn h3
  obtain ⟨n30, h3⟩ := nn h3
  obtain ⟨m3, hp⟩ := nn hp
  obtain ⟨m2, hp⟩ := nn hp
  obtain ⟨m1, hp⟩ := nn hp
  obtain ⟨m0, hp⟩ := nn hp
  have hc : ∀ q, H q = none → q ≠ c := fun q h z => by
    obtain ⟨_, _, _, _, _, w, _⟩ := hb
    subst z
    rw [w] at h
    cases h
  refine ⟨⟨?_, ?_, ?_, ?_, hb.ne hp, ?_, hp⟩, ⟨?_, ?_, upd_same, ?_, fun t x h => (nomatch h), fun t x h => (nomatch h), fun x h => (nomatch h)⟩⟩
  · intro t u h
    cases t <;> cases u <;> first | exact absurd rfl h | assumption | exact Ne.symm (by assumption)
  · intro t
    cases t
    · exact hb.ne h0
    · exact hb.ne h1
    · exact hb.ne h2
    · exact hb.ne h3
  · intro t
    cases t
    · exact hc _ h0
    · exact hc _ h1
    · exact hc _ h2
    · exact hc _ h3
  · intro t
    cases t <;> assumption
  · intro t
    cases t <;> assumption
  · obtain ⟨i, j, n, cs, w1, w2, r⟩ := hb
    have q : ∀ a o, H a = some o → upd (upd (upd (upd (upd H l0 (.lst [])) l1 (.lst [])) l2 (.lst [])) l3 (.lst [])) p (.lst [.ref l0, .ref l1, .ref l2, .ref l3]) a = some o := fun a o h => by
      rw [upd_ne (ne_of_none h hp), upd_ne (ne_of_none h h3), upd_ne (ne_of_none h h2), upd_ne (ne_of_none h h1), upd_ne (ne_of_none h h0)]
      exact h
    exact ⟨i, j, n, cs, q _ _ w1, q _ _ w2, r⟩
  · intro a o _ h
    rw [upd_ne (ne_of_none h hp), upd_ne (ne_of_none h h3), upd_ne (ne_of_none h h2), upd_ne (ne_of_none h h1), upd_ne (ne_of_none h h0)]
    exact h
  · intro t
    cases t
    · show upd _ _ _ l0 = _
      rw [upd_ne m0.symm, upd_ne n30.symm, upd_ne n20.symm, upd_ne n10.symm, upd_same]
    · show upd _ _ _ l1 = _
      rw [upd_ne m1.symm, upd_ne n31.symm, upd_ne n21.symm, upd_same]
    · show upd _ _ _ l2 = _
      rw [upd_ne m2.symm, upd_ne n32.symm, upd_same]
    · show upd _ _ _ l3 = _
      rw [upd_ne m3.symm, upd_same]
theorem stands3 {p : Pt} {x0 x1 x2 : V} {w0 w1 w2 : Str} {ev wi : Int} (hf : p.form = [w0, w1, w2]) (h0 : standB w0 [x0, x1, x2] 0 x0 ev wi = true) (h1 : standB w1 [x0, x1, x2] 1 x1 ev wi = true) (h2 : standB w2 [x0, x1, x2] 2 x2 ev wi = true) : StandsTo p [x0, x1, x2] ev wi p.form.length := by
  intro j hj wd x hw hx
  rw [hf] at hw hj
  rcases j with _ | _ | _ | j
  · cases hw; cases hx; exact h0
  · cases hw; cases hx; exact h1
  · cases hw; cases hx; exact h2
  · simp only [List.length_cons, List.length_nil] at hj; omega
theorem num_true {i : Int} (h0 : -1000000000000000 ≤ i) (h1 : i ≤ 1000000000000000) : numB (.int i) = true := by
  show (decide _ && decide _) = true
  rw [decide_eq_true h0, decide_eq_true h1]
  rfl
section
variable {xs : List V} {i : Nat} {x : V} {ev wi : Int}
theorem st_w : standB "witness" xs i x ev wi = belowB x wi := by unfold standB; rw [if_pos rfl]
theorem st_e : standB "event" xs i x ev wi = belowB x ev := by unfold standB; rw [if_neg (by decide), if_pos rfl]
theorem st_a : standB "another event" xs i x ev wi = (belowB x ev && !decide (some x = xs[i - 1]?)) := by unfold standB; rw [if_neg (by decide), if_neg (by decide), if_pos rfl]
theorem st_s : standB "side" xs i x ev wi = sideB x := by unfold standB; rw [if_neg (by decide), if_neg (by decide), if_neg (by decide), if_pos rfl]
theorem st_k : standB "kind" xs i x ev wi = kindB x := by unfold standB; rw [if_neg (by decide), if_neg (by decide), if_neg (by decide), if_neg (by decide), if_pos rfl]
theorem st_n : standB "number" xs i x ev wi = numB x := by unfold standB; rw [if_neg (by decide), if_neg (by decide), if_neg (by decide), if_neg (by decide), if_neg (by decide)]
end
theorem item_tel {H : Hp} {q : Addr} {ev wi a e x : Int} (h : H q = some (.tup [.int a, .int e, .int x])) (a0 : 0 ≤ a) (a1 : a < wi) (e0 : 0 ≤ e) (e1 : e < ev) (x0 : -1000000000000000 ≤ x) (x1 : x ≤ 1000000000000000) : ItemOk .tel H (.ref q) ev wi :=
  ⟨q, _, rfl, h, rfl, stands3 rfl (st_w.trans (below_true a0 a1)) (st_e.trans (below_true e0 e1)) (st_n.trans (num_true x0 x1))⟩
theorem item_gap {H : Hp} {q : Addr} {ev wi a e x : Int} (h : H q = some (.tup [.int a, .int e, .int x])) (a0 : 0 ≤ a) (a1 : a < ev) (e0 : 0 ≤ e) (e1 : e < ev) (ne : e ≠ a) (x0 : -1000000000000000 ≤ x) (x1 : x ≤ 1000000000000000) : ItemOk .gap H (.ref q) ev wi :=
  ⟨q, _, rfl, h, rfl, stands3 rfl (st_e.trans (below_true a0 a1)) (st_a.trans (by
    rw [below_true e0 e1, Bool.true_and, decide_eq_false]
    · rfl
    · intro z
      cases z
      exact ne rfl)) (st_n.trans (num_true x0 x1))⟩
theorem item_sur {H : Hp} {q : Addr} {ev wi a x : Int} {s : Str} (h : H q = some (.tup [.int a, .str s, .int x])) (a0 : 0 ≤ a) (a1 : a < ev) (hs : s = "least" ∨ s = "most") (x0 : -1000000000000000 ≤ x) (x1 : x ≤ 1000000000000000) : ItemOk .sur H (.ref q) ev wi :=
  ⟨q, _, rfl, h, rfl, stands3 rfl (st_e.trans (below_true a0 a1)) (st_s.trans (by rcases hs with rfl | rfl <;> decide)) (st_n.trans (num_true x0 x1))⟩
theorem item_cla {H : Hp} {q : Addr} {ev wi a v : Int} {s r : Str} (h : H q = some (.tup [.int a, .str s, .int v, .str r])) (a0 : 0 ≤ a) (a1 : a < wi) (hs : s = "early" ∨ s = "late") (v0 : 0 ≤ v) (v1 : v < wi) (hr : r = "early" ∨ r = "late") : ItemOk .cla H (.ref q) ev wi := by
  refine ⟨q, _, rfl, h, rfl, ?_⟩
  intro j hj wd x hw hx
  rcases j with _ | _ | _ | _ | j
  · cases hw; cases hx; exact st_w.trans (below_true a0 a1)
  · cases hw; cases hx; exact st_k.trans (by rcases hs with rfl | rfl <;> decide)
  · cases hw; cases hx; exact st_w.trans (below_true v0 v1)
  · cases hw; cases hx; exact st_k.trans (by rcases hr with rfl | rfl <;> decide)
  · exact absurd hj (by show ¬ (j + 1 + 1 + 1 + 1 < 4); omega)
theorem gap_ne {a t ev : Int} (a0 : 0 ≤ a) (a1 : a < ev) (t0 : 0 ≤ t) (t1 : t < ev - 1) (e8 : ev ≤ 8) : (a + 1 + t) % ev ≠ a := by
  have h : ev = 2 ∨ ev = 3 ∨ ev = 4 ∨ ev = 5 ∨ ev = 6 ∨ ev = 7 ∨ ev = 8 := by omega
  rcases h with rfl | rfl | rfl | rfl | rfl | rfl | rfl <;> omega
theorem pos2 {x y : Int} (x0 : 0 ≤ x) (y0 : 0 ≤ y) (h : 0 < x * y) : 0 < x ∧ 0 < y := by
  constructor
  · rcases Int.lt_or_eq_of_le x0 with q | q
    · exact q
    · rw [← q, Int.zero_mul] at h; omega
  · rcases Int.lt_or_eq_of_le y0 with q | q
    · exact q
    · rw [← q, Int.mul_zero] at h; omega
theorem size1k {n : Nat} (h : n ≤ 1001) : n < sizeLine := Nat.lt_of_le_of_lt h (by decide)
theorem mul8 {x y : Int} (x0 : 0 ≤ x) (x8 : x ≤ 8) (y0 : 0 ≤ y) (y8 : y ≤ 8) : CMul x y := .inl ⟨by omega, by omega⟩
theorem cnt01 {r : Int} {p : Prop} [Decidable p] (h0 : 0 ≤ r) : 0 ≤ r * (if decide p = true then 1 else 0) ∧ r * (if decide p = true then 1 else 0) ≤ r ∧ (0 < r * (if decide p = true then 1 else 0) → p) := by
  by_cases h : p
  · rw [if_pos (decide_eq_true h)]
    exact ⟨by omega, by omega, fun _ => h⟩
  · rw [if_neg (by rw [decide_eq_false h]; exact Bool.false_ne_true)]
    exact ⟨by omega, by omega, fun z => absurd z (by omega)⟩
section
variable {P : Program} {w : World} {K : Frag} {mg : Str → Option Value} {base : Heap} {f : Addr} {fd : FuncData}
theorem ok_number (F : Fun K "_law_number" "_law_number" s_number f fd) (T : Tb mg) (c_take : Cal P w K mg base CX0 1 "_law_take" ["_law_bag_here", "_law_many"] spTake) : FnOk P w K mg base CX0 2 f fd ["_law_bag_here"] spNum := by
  refine F.ok sc_number (fun vs H Q E h => ?_) (fun cdv A outer s H vs Q E hr h => ?_)
  · obtain ⟨_, _, rfl, _⟩ := h
    rfl
  · obtain ⟨b, c, rfl, hb, k⟩ := h
    refine ⟨_, (pss_cons (ps_par (i := 1) (j := 2) rfl sc_number.nd rfl rfl (by decide) rfl rfl (pa_cons (pe_cal c_take (hr.mono (by decide)) pass0 (pa_cons (pv 0) (pa_cons pe_int pa_nil))) (pa_cons (pe_op op_sub (pe_cal c_take (hr.mono (by decide)) pass0 (pa_cons (pv 0) (pa_cons pe_int pa_nil))) pe_int) pa_nil)) (by with_unfolding_all rfl))
  (pss_cons (ps_if (pt_cmpR op_lt (pv 1) pe_int (nomark _))
    (pss_one (ps_ret (pv 2)))
    pss_nil)
  (pss_one (ps_ret (pe_ifExp (pt_cmpR (u_eq hr.units) (pv 1) pe_int (nomark _)) (pe_op u_add pe_int (pv 2)) (pe_op op_sub (pv 2) pe_int)))))), ?_⟩
    walk_at "el"
    refine ⟨b, c, 10, rfl, hb, by decide, by decide, fun r1 H1 _ _ hb1 k1 => ?_⟩
    walk_at "el"
    refine ⟨b, c, 12, rfl, hb1, by decide, by decide, fun r2 H2 _ _ hb2 k2 => ?_⟩
    have k12 := k1.trans k2
    walk_at "el"
    refine ite2 (fun h0 => ?_) (fun h0 => ?_)
    · walk_at "el"
      exact k _ _ (by omega) (by omega) hb2 k12
    · walk_at "el"
      refine ite2 (fun h0 => ?_) (fun h0 => ?_)
      · walk_at "el"
        exact k _ _ (by omega) (by omega) hb2 k12
      · walk_at "el"
        exact k _ _ (by omega) (by omega) hb2 k12
theorem ok_kind (F : Fun K "_law_kind" "_law_kind" s_kind f fd) (T : Tb mg) (c_take : Cal P w K mg base CX0 1 "_law_take" ["_law_bag_here", "_law_many"] spTake) : FnOk P w K mg base CX0 2 f fd ["_law_bag_here"] spKnd := by
  refine F.ok sc_kind (fun vs H Q E h => ?_) (fun cdv A outer s H vs Q E hr h => ?_)
  · obtain ⟨_, _, rfl, _⟩ := h
    rfl
  · obtain ⟨b, c, rfl, hb, k⟩ := h
    refine ⟨_, (pss_one (ps_ret (pe_ix ix_seq (pe_lst (pa_cons pe_str (pa_cons pe_str pa_nil))) (pe_cal c_take (hr.mono (by decide)) pass0 (pa_cons (pv 0) (pa_cons pe_int pa_nil))) (fun _ _ => rfl)))), ?_⟩
    walk_at "el"
    refine ⟨by decide, fun p hp => ?_⟩
    have e1 := nw_of hp
    have n1 := hb.ne hp
    walk_at "el"
    refine ⟨b, c, 2, rfl, hb.same (e1 _), by decide, by decide, fun r1 H1 r0 r2 hb1 k1 => ?_⟩
    have hp1 := k1 _ _ n1 upd_same
    have r3 : r1 = 0 ∨ r1 = 1 := by omega
    have kF : Kp b H H1 := Kp.into k1 (e1 _)
    rcases r3 with rfl | rfl
    · walk_at "el"
      exact k _ _ (.inl rfl) hb1 kF
    · walk_at "el"
      exact k _ _ (.inr rfl) hb1 kF
theorem ok_parts (F : Fun K "_law_parts" "_law_parts" s_parts f fd) (T : Tb mg) (c_take : Cal P w K mg base CX0 1 "_law_take" ["_law_bag_here", "_law_many"] spTake) (c_number : Cal P w K mg base CX0 2 "_law_number" ["_law_bag_here"] spNum) (c_kind : Cal P w K mg base CX0 2 "_law_kind" ["_law_bag_here"] spKnd) : FnOk P w K mg base CX0 3 f fd ["_law_bag_here", "_law_events", "_law_witnesses", "_law_most"] spParts := by
  refine F.ok sc_parts (fun vs H Q E h => ?_) (fun cdv A outer s H vs Q E hr h => ?_)
  · obtain ⟨_, _, _, _, _, rfl, _⟩ := h
    rfl
  · obtain ⟨ev, wi, most, b, c, rfl, hb, ev0, ev8, wi0, wi8, m0, m1, k⟩ := h
    refine ⟨_, (pss_cons (ps_set (i := 4) sc_parts.nd rfl (Or.inl rfl) (pe_lst (pa_cons (pe_lst pa_nil) (pa_cons (pe_lst pa_nil) (pa_cons (pe_lst pa_nil) (pa_cons (pe_lst pa_nil) pa_nil))))))
  (pss_cons (ps_for PassesOwn.never rfl (pi_range1 rfl T.b.range_ (pa_cons (pe_op u_mul (pe_cal c_take (hr.mono (by decide)) pass0 (pa_cons (pv 0) (pa_cons (pe_op u_add (pv 3) pe_int) pa_nil))) (pe_callTy u_int rfl T.b.int_ (by decide +kernel) (pa_cons (pe_cmpR op_gt (pe_op u_mul (pv 1) (pv 2)) pe_int (nomark _)) pa_nil))) pa_nil)) (pg_name (i := 5) sc_parts.nd rfl (Or.inl rfl))
    (pss_one (ps_expr (pe_bm PySem.F.plainAttrs_list PySem.F.slot_list_append PySem.F.type_list_append mt_append (pe_ix ix_seq (pv 4) pe_int (fun _ _ => rfl)) (pa_cons (pe_tup (pa_cons (pe_cal c_take (hr.mono (by decide)) pass0 (pa_cons (pv 0) (pa_cons (pv 2) pa_nil))) (pa_cons (pe_cal c_take (hr.mono (by decide)) pass0 (pa_cons (pv 0) (pa_cons (pv 1) pa_nil))) (pa_cons (pe_cal c_number (hr.mono (by decide)) pass0 (pa_cons (pv 0) pa_nil)) pa_nil)))) pa_nil)))))
  (pss_cons (ps_for PassesOwn.never rfl (pi_range1 rfl T.b.range_ (pa_cons (pe_op u_mul (pe_cal c_take (hr.mono (by decide)) pass0 (pa_cons (pv 0) (pa_cons (pe_op u_add (pe_op op_fdiv (pv 3) pe_int) pe_int) pa_nil))) (pe_callTy u_int rfl T.b.int_ (by decide +kernel) (pa_cons (pe_cmpR op_gt (pv 1) pe_int (nomark _)) pa_nil))) pa_nil)) (pg_name (i := 5) sc_parts.nd rfl (Or.inl rfl))
    (pss_cons (ps_set (i := 6) sc_parts.nd rfl (Or.inl rfl) (pe_cal c_take (hr.mono (by decide)) pass0 (pa_cons (pv 0) (pa_cons (pv 1) pa_nil))))
  (pss_one (ps_expr (pe_bm PySem.F.plainAttrs_list PySem.F.slot_list_append PySem.F.type_list_append mt_append (pe_ix ix_seq (pv 4) pe_int (fun _ _ => rfl)) (pa_cons (pe_tup (pa_cons (pv 6) (pa_cons (pe_op op_mod (pe_callTy u_int rfl T.b.int_ (by decide +kernel) (pa_cons (pe_op u_add (pe_op u_add (pv 6) pe_int) (pe_cal c_take (hr.mono (by decide)) pass0 (pa_cons (pv 0) (pa_cons (pe_op op_sub (pv 1) pe_int) pa_nil)))) pa_nil)) (pv 1)) (pa_cons (pe_op op_sub (pe_cal c_take (hr.mono (by decide)) pass0 (pa_cons (pv 0) (pa_cons pe_int pa_nil))) pe_int) pa_nil)))) pa_nil))))))
  (pss_cons (ps_for PassesOwn.never rfl (pi_range1 rfl T.b.range_ (pa_cons (pe_op u_mul (pe_cal c_take (hr.mono (by decide)) pass0 (pa_cons (pv 0) (pa_cons pe_int pa_nil))) (pe_callTy u_int rfl T.b.int_ (by decide +kernel) (pa_cons (pe_cmpR op_gt (pv 1) pe_int (nomark _)) pa_nil))) pa_nil)) (pg_name (i := 5) sc_parts.nd rfl (Or.inl rfl))
    (pss_one (ps_expr (pe_bm PySem.F.plainAttrs_list PySem.F.slot_list_append PySem.F.type_list_append mt_append (pe_ix ix_seq (pv 4) pe_int (fun _ _ => rfl)) (pa_cons (pe_tup (pa_cons (pe_cal c_take (hr.mono (by decide)) pass0 (pa_cons (pv 0) (pa_cons (pv 1) pa_nil))) (pa_cons (pe_ix ix_seq (pe_lst (pa_cons pe_str (pa_cons pe_str pa_nil))) (pe_cal c_take (hr.mono (by decide)) pass0 (pa_cons (pv 0) (pa_cons pe_int pa_nil))) (fun _ _ => rfl)) (pa_cons (pe_cal c_number (hr.mono (by decide)) pass0 (pa_cons (pv 0) pa_nil)) pa_nil)))) pa_nil)))))
  (pss_cons (ps_for PassesOwn.never rfl (pi_range1 rfl T.b.range_ (pa_cons (pe_op u_mul (pe_cal c_take (hr.mono (by decide)) pass0 (pa_cons (pv 0) (pa_cons pe_int pa_nil))) (pe_callTy u_int rfl T.b.int_ (by decide +kernel) (pa_cons (pe_cmpR op_gt (pv 2) pe_int (nomark _)) pa_nil))) pa_nil)) (pg_name (i := 5) sc_parts.nd rfl (Or.inl rfl))
    (pss_cons (ps_set (i := 7) sc_parts.nd rfl (Or.inl rfl) (pe_tup (pa_cons (pe_cal c_take (hr.mono (by decide)) pass0 (pa_cons (pv 0) (pa_cons (pv 2) pa_nil))) (pa_cons (pe_cal c_kind (hr.mono (by decide)) pass0 (pa_cons (pv 0) pa_nil)) (pa_cons (pe_cal c_take (hr.mono (by decide)) pass0 (pa_cons (pv 0) (pa_cons (pv 2) pa_nil))) (pa_cons (pe_cal c_kind (hr.mono (by decide)) pass0 (pa_cons (pv 0) pa_nil)) pa_nil))))))
  (pss_one (ps_expr (pe_bm PySem.F.plainAttrs_list PySem.F.slot_list_append PySem.F.type_list_append mt_append (pe_ix ix_seq (pv 4) pe_int (fun _ _ => rfl)) (pa_cons (pv 7) pa_nil))))))
  (pss_one (ps_ret (pv 4)))))))), ?_⟩
    walk_at "el"
    refine ⟨by decide, fun l0 hl0 => ?_⟩
    have e0 := nw_of hl0
    walk_at "el"
    refine ⟨by decide, fun l1 hl1 => ?_⟩
    have e1 := nw_of hl1
    walk_at "el"
    refine ⟨by decide, fun l2 hl2 => ?_⟩
    have e2 := nw_of hl2
    walk_at "el"
    refine ⟨by decide, fun l3 hl3 => ?_⟩
    have e3 := nw_of hl3
    walk_at "el"
    refine ⟨by show 4 ≤ sizeLine; decide, fun p hp => ?_⟩
    have e4 := nw_of hp
    obtain ⟨S, I0⟩ := parts_start (ev := ev) (wi := wi) hb hl0 hl1 hl2 hl3 hp
    generalize upd (upd (upd (upd (upd H l0 (.lst [])) l1 (.lst [])) l2 (.lst [])) l3 (.lst [])) p (.lst [.ref l0, .ref l1, .ref l2, .ref l3]) = Hs at I0 ⊢
    generalize lOf l0 l1 l2 l3 = l at S I0
    clear e0 e1 e2 e3 hl0 hl1 hl2 hl3 hp
    walk_at "el"
    refine ⟨b, c, _, rfl, I0.bag, by omega, by omega, fun r H1 r0 r1 hb1 k1 => ?_⟩
    have I1 := I0.kp' S hb1 k1
    clear I0 hb1 k1 hb
    walk_at "el"
    refine n_mul (mul8 ev0 ev8 wi0 wi8) ?_
    walk_at "el"
    refine n_mul (.inl ⟨by omega, by omega⟩) ?_
    walk_at "el"
    have q := cnt01 (p := 0 < ev * wi) r0
    generalize r * (if decide (0 < ev * wi) = true then 1 else 0) = j at q ⊢
    refine ⟨by omega, by omega, ?_⟩
    refine lp_range (fun i σ H2 => ∃ xs, PIv b c p l H H2 ev wi xs ∧ (xs .tel).length = i ∧ xs .gap = [] ∧ xs .sur = [] ∧ xs .cla = [] ∧ ∃ v5 v6 v7, σ = [some (.ref b), some (.int ev), some (.int wi), some (.int most), some (.ref p), v5, v6, v7]) ⟨_, I1, rfl, rfl, rfl, rfl, _, _, _, rfl⟩ ?_ ?_
    · rintro i σ H2 hi ⟨xs, I2, hl, g1, g2, g3, v5, v6, v7, rfl⟩
      obtain ⟨ev1, wi1⟩ := pos2 ev0 wi0 (q.2.2 (by omega))
      have hp2 := I2.hp
      walk_at "el"
      refine ⟨.inl ⟨rfl, _, SqL.of (I2.hl .tel)⟩, ?_⟩
      walk_at "el"
      refine ⟨b, c, wi, rfl, I2.bag, wi1, by omega, fun a H3 a0 a1 hb3 k3 => ?_⟩
      have I3 := I2.kp' S hb3 k3
      walk_at "el"
      refine ⟨b, c, ev, rfl, I3.bag, ev1, by omega, fun e H4 e0 e1 hb4 k4 => ?_⟩
      have I4 := I3.kp' S hb4 k4
      walk_at "el"
      refine ⟨b, c, rfl, I4.bag, fun x H5 x0 x1 hb5 k5 => ?_⟩
      have I5 := I4.kp' S hb5 k5
      walk_at "el"
      refine ⟨by show 3 ≤ sizeLine; decide, fun u hu => ?_⟩
      have I6 := I5.nw S (nw_of hu (.tup [.int a, .int e, .int x]))
      walk_at "el"
      refine ⟨l .tel, xs .tel, .ref u, rfl, rfl, I6.hl .tel, size1k (by omega), ?_⟩
      walk_at "el"
      exact ⟨_, I6.app S .tel (item_tel upd_same a0 a1 e0 e1 (by omega) (by omega)) (below3 (by omega) (by omega) (by omega)) (fun z => nomatch z), by rw [setP_at, List.length_append, hl]; rfl, by rw [setP_ne (by decide)]; exact g1, by rw [setP_ne (by decide)]; exact g2, by rw [setP_ne (by decide)]; exact g3, _, _, _, rfl⟩
    · rintro σ H2 ⟨xs, I2, hl, g1, g2, g3, v5, v6, v7, rfl⟩
      have htel : ((xs .tel).length : Int) ≤ most := by omega
      clear hl q r0 r1 I1
      walk_at "el"
      refine a_I ⟨by decide, by decide⟩ ?_
      walk_at "el"
      refine ⟨b, c, _, rfl, I2.bag, by omega, by omega, fun r H1 r0 r1 hb1 k1 => ?_⟩
      have I1 := I2.kp' S hb1 k1
      clear I2 hb1 k1
      walk_at "el"
      refine n_mul (.inl ⟨by omega, by omega⟩) ?_
      walk_at "el"
      have q := cnt01 (p := 1 < ev) r0
      generalize r * (if decide (1 < ev) = true then 1 else 0) = j at q ⊢
      refine ⟨by omega, by omega, ?_⟩
      refine lp_range (fun i σ H2 => ∃ xs, PIv b c p l H H2 ev wi xs ∧ ((xs .tel).length : Int) ≤ most ∧ (xs .gap).length = i ∧ xs .sur = [] ∧ xs .cla = [] ∧ ∃ v5 v6 v7, σ = [some (.ref b), some (.int ev), some (.int wi), some (.int most), some (.ref p), v5, v6, v7]) ⟨_, I1, htel, by rw [g1]; rfl, g2, g3, _, _, _, rfl⟩ ?_ ?_
      · clear htel g1 g2 g3 I1
        rintro i σ H2 hi ⟨xs, I2, g1, hl, g2, g3, v5, v6, v7, rfl⟩
        have ev1 := q.2.2 (by omega)
        walk_at "el"
        refine ⟨b, c, ev, rfl, I2.bag, by omega, by omega, fun a H3 a0 a1 hb3 k3 => ?_⟩
        have I3 := I2.kp' S hb3 k3
        have hp3 := I3.hp
        walk_at "el"
        refine ⟨.inl ⟨rfl, _, SqL.of (I3.hl .gap)⟩, ?_⟩
        walk_at "el"
        refine ⟨b, c, ev - 1, rfl, I3.bag, by omega, by omega, fun t H4 t0 t1 hb4 k4 => ?_⟩
        have I4 := I3.kp' S hb4 k4
        walk_at "el"
        refine a_I (by omega) ?_
        walk_at "el"
        refine ⟨b, c, 9, rfl, I4.bag, by decide, by decide, fun x H5 x0 x1 hb5 k5 => ?_⟩
        have I5 := I4.kp' S hb5 k5
        walk_at "el"
        refine ⟨by show 3 ≤ sizeLine; decide, fun u hu => ?_⟩
        have I6 := I5.nw S (nw_of hu (.tup [.int a, .int ((a + 1 + t) % ev), .int (x - 4)]))
        walk_at "el"
        refine ⟨l .gap, xs .gap, .ref u, rfl, rfl, I6.hl .gap, size1k (by omega), ?_⟩
        walk_at "el"
        exact ⟨_, I6.app S .gap (item_gap upd_same a0 a1 (Int.emod_nonneg _ (by omega)) (Int.emod_lt_of_pos _ (by omega)) (gap_ne a0 a1 t0 t1 ev8) (by omega) (by omega)) (below3 (by omega) ⟨Int.emod_nonneg _ (by omega), Int.le_trans (Int.le_of_lt (Int.emod_lt_of_pos _ (by omega))) ev8⟩ (by omega)) (fun _ => gapsm3 (by omega)), by rw [setP_ne (by decide)]; exact g1, by rw [setP_at, List.length_append, hl]; rfl, by rw [setP_ne (by decide)]; exact g2, by rw [setP_ne (by decide)]; exact g3, _, _, _, rfl⟩
      · clear htel g1 g2 g3 I1
        rintro σ H2 ⟨xs, I2, htel, hl, g2, g3, v5, v6, v7, rfl⟩
        have hgap : ((xs .gap).length : Int) ≤ most / 2 + 1 := by omega
        clear hl q r0 r1
        walk_at "el"
        refine ⟨b, c, 4, rfl, I2.bag, by omega, by omega, fun r H1 r0 r1 hb1 k1 => ?_⟩
        have I1 := I2.kp' S hb1 k1
        clear I2 hb1 k1
        walk_at "el"
        refine n_mul (.inl ⟨by omega, by omega⟩) ?_
        walk_at "el"
        have q := cnt01 (p := 0 < ev) r0
        generalize r * (if decide (0 < ev) = true then 1 else 0) = j at q ⊢
        refine ⟨by omega, by omega, ?_⟩
        refine lp_range (fun i σ H2 => ∃ xs, PIv b c p l H H2 ev wi xs ∧ ((xs .tel).length : Int) ≤ most ∧ ((xs .gap).length : Int) ≤ most / 2 + 1 ∧ (xs .sur).length = i ∧ xs .cla = [] ∧ ∃ v5 v6 v7, σ = [some (.ref b), some (.int ev), some (.int wi), some (.int most), some (.ref p), v5, v6, v7]) ⟨_, I1, htel, hgap, by rw [g2]; rfl, g3, _, _, _, rfl⟩ ?_ ?_
        · clear htel hgap g2 g3 I1
          rintro i σ H2 hi ⟨xs, I2, g1, g2, hl, g3, v5, v6, v7, rfl⟩
          have ev1 := q.2.2 (by omega)
          have hp2 := I2.hp
          walk_at "el"
          refine ⟨.inl ⟨rfl, _, SqL.of (I2.hl .sur)⟩, ?_⟩
          walk_at "el"
          refine ⟨b, c, ev, rfl, I2.bag, by omega, by omega, fun a H3 a0 a1 hb3 k3 => ?_⟩
          have I3 := I2.kp' S hb3 k3
          walk_at "el"
          refine ⟨by decide, fun w1 hw1 => ?_⟩
          have I4 := I3.nw S (nw_of hw1 (.lst [.str "least", .str "most"]))
          have nw1 := I3.bag.ne hw1
          walk_at "el"
          refine ⟨b, c, 2, rfl, I4.bag, by omega, by omega, fun t H4 t0 t1 hb4 k4 => ?_⟩
          have I5 := I4.kp' S hb4 k4
          have hw2 := k4 _ _ nw1 upd_same
          obtain ⟨sd, hsd, hss⟩ : ∃ sd : Str, atI [V.str "least", V.str "most"] t = some (.str sd) ∧ (sd = "least" ∨ sd = "most") := by
            have z : t = 0 ∨ t = 1 := by omega
            rcases z with rfl | rfl
            · exact ⟨_, rfl, .inl rfl⟩
            · exact ⟨_, rfl, .inr rfl⟩
          walk_at "el"
          refine n_ixL (SqL.of hw2) hsd ?_
          walk_at "el"
          refine ⟨b, c, rfl, I5.bag, fun x H6 x0 x1 hb6 k6 => ?_⟩
          have I6 := I5.kp' S hb6 k6
          walk_at "el"
          refine ⟨by show 3 ≤ sizeLine; decide, fun u hu => ?_⟩
          have I7 := I6.nw S (nw_of hu (.tup [.int a, .str sd, .int x]))
          walk_at "el"
          refine ⟨l .sur, xs .sur, .ref u, rfl, rfl, I7.hl .sur, size1k (by omega), ?_⟩
          walk_at "el"
          exact ⟨_, I7.app S .sur (item_sur upd_same a0 a1 hss (by omega) (by omega)) (belowS (by omega) (by omega)) (fun z => nomatch z), by rw [setP_ne (by decide)]; exact g1, by rw [setP_ne (by decide)]; exact g2, by rw [setP_at, List.length_append, hl]; rfl, by rw [setP_ne (by decide)]; exact g3, _, _, _, rfl⟩
        · clear htel hgap g2 g3 I1
          rintro σ H2 ⟨xs, I2, htel, hgap, hl, g3, v5, v6, v7, rfl⟩
          have hsur : (xs .sur).length ≤ 3 := by omega
          clear hl q r0 r1
          walk_at "el"
          refine ⟨b, c, 4, rfl, I2.bag, by omega, by omega, fun r H1 r0 r1 hb1 k1 => ?_⟩
          have I1 := I2.kp' S hb1 k1
          clear I2 hb1 k1
          walk_at "el"
          refine n_mul (.inl ⟨by omega, by omega⟩) ?_
          walk_at "el"
          have q := cnt01 (p := 0 < wi) r0
          generalize r * (if decide (0 < wi) = true then 1 else 0) = j at q ⊢
          refine ⟨by omega, by omega, ?_⟩
          refine lp_range (fun i σ H2 => ∃ xs, PIv b c p l H H2 ev wi xs ∧ ((xs .tel).length : Int) ≤ most ∧ ((xs .gap).length : Int) ≤ most / 2 + 1 ∧ (xs .sur).length ≤ 3 ∧ (xs .cla).length = i ∧ ∃ v5 v6 v7, σ = [some (.ref b), some (.int ev), some (.int wi), some (.int most), some (.ref p), v5, v6, v7]) ⟨_, I1, htel, hgap, hsur, by rw [g3]; rfl, _, _, _, rfl⟩ ?_ ?_
          · clear htel hgap hsur g3 I1
            rintro i σ H2 hi ⟨xs, I2, g1, g2, g3, hl, v5, v6, v7, rfl⟩
            have wi1 := q.2.2 (by omega)
            walk_at "el"
            refine ⟨b, c, wi, rfl, I2.bag, by omega, by omega, fun a H3 a0 a1 hb3 k3 => ?_⟩
            have I3 := I2.kp' S hb3 k3
            walk_at "el"
            refine ⟨b, c, rfl, I3.bag, fun s1 H4 hs1 hb4 k4 => ?_⟩
            have I4 := I3.kp' S hb4 k4
            walk_at "el"
            refine ⟨b, c, wi, rfl, I4.bag, by omega, by omega, fun v H5 v0 v1 hb5 k5 => ?_⟩
            have I5 := I4.kp' S hb5 k5
            walk_at "el"
            refine ⟨b, c, rfl, I5.bag, fun s2 H6 hs2 hb6 k6 => ?_⟩
            have I6 := I5.kp' S hb6 k6
            walk_at "el"
            refine ⟨by show 4 ≤ sizeLine; decide, fun u hu => ?_⟩
            have I7 := I6.nw S (nw_of hu (.tup [.int a, .str s1, .int v, .str s2]))
            have hp7 := I7.hp
            walk_at "el"
            refine ⟨.inl ⟨rfl, _, SqL.of (I7.hl .cla)⟩, ?_⟩
            walk_at "el"
            refine ⟨l .cla, xs .cla, .ref u, rfl, rfl, I7.hl .cla, size1k (by omega), ?_⟩
            walk_at "el"
            exact ⟨_, I7.app S .cla (item_cla upd_same a0 a1 hs1 v0 v1 hs2) (belowC (by omega) (by omega)) (fun z => nomatch z), by rw [setP_ne (by decide)]; exact g1, by rw [setP_ne (by decide)]; exact g2, by rw [setP_ne (by decide)]; exact g3, by rw [setP_at, List.length_append, hl]; rfl, _, _, _, rfl⟩
          · clear htel hgap hsur g3 I1
            rintro σ H2 ⟨xs, I2, htel, hgap, hsur, hl, v5, v6, v7, rfl⟩
            walk_at "el"
            exact k p l H2 xs S I2 htel hgap hsur (by omega)
end
end EL

/- part S -/
namespace EL
open PySem PySem.Spec PyProof.Rows L2
open PySem.W (Frag)

local macro_rules | `(tactic| walk_at "el1") => `(tactic| with_reducible first
  | refine a_sasg ?_ | refine a_sdrop ?_ | refine a_saugS ?_ | refine a_spar ?_ | refine a_seq ?_ | refine a_asg ?_ | refine a_drop ?_ | refine a_ret ?_ | refine a_if ?_ | refine a_next ?_
  | refine a_op ?_ | refine a_cons ?_ | refine a_nil ?_ | refine a_cb ?_ | refine a_call ?_ | refine a_c ?_ | refine a_gn ?_ | refine a_nx ?_ | refine a_rt ?_ | refine a_un ?_
  | refine a_test ?_ | refine a_B ?_ | refine a_bl ?_ | refine a_and ?_ | refine a_or ?_ | refine a_not ?_ | refine a_andV ?_ | refine a_orV ?_ | refine a_notV ?_ | refine a_ifx ?_ | refine a_chain ?_
  | refine a_nT ?_ | refine a_nF ?_ | refine a_fld ?_ | refine a_getF ?_ | refine a_T ?_ | refine a_F ?_ | refine a_tup ?_ | refine a_lst ?_ | refine a_sub ?_ | refine a_augS ?_ | refine a_two ?_ | refine a_I0 ?_ | refine a_U ?_ | refine n_add ?_ | refine n_int ?_ | refine n_ib ?_ | refine a_ip ?_ | refine a_rng1 ?_ | refine a_rng2 ?_ | refine a_bm ?_ | refine a_abs ?_ | refine a_pairs ?_ | refine a_pairs0 ?_ | refine a_bk ?_ | refine a_prp ?_ | refine a_lc ?_ | refine a_yes ?_ | refine a_sl ?_ | refine a_nop ?_ | refine a_prt ?_ | refine a_ex1 ?_ | refine a_for ?_ | refine a_sfor ?_ | refine a_iE1 ?_ | refine a_iEs ?_ | refine a_iEz ?_ | refine a_iEnum ?_ | refine a_iTup ?_ | refine a_iList ?_ | refine a_gcons ?_ | refine a_gnil ?_ | refine a_revT ?_ | refine a_spar3 ?_ | refine a_par3 ?_ | refine a_three ?_)
local macro_rules | `(tactic| walk_at "el2") => `(tactic| first
  | (refine a_var (by rfl) ?_)
  | (refine n_ixL (SqL.of (by assumption)) (by rfl) ?_) | (refine n_ixT (SqT.of (by assumption)) (by rfl) ?_) | (refine n_eq (by rfl) ?_) | (refine n_ne (by rfl) ?_)
  | (refine n_isN ?_) | (refine n_notN ?_) | (refine n_isB ?_) | (refine n_notB ?_) | (refine n_isBI ?_) | (refine n_notBI ?_) | (refine n_len (.inl (SqL.of (by assumption))) ?_) | (refine n_len (.inr (SqT.of (by assumption))) ?_)
  | (refine a_getL (SqL.of (by assumption)) (by rfl) ?_)
  | (refine n_isInt (by assumption) ?_) | (refine n_isBool (by assumption) ?_) | (refine n_isStr (by assumption) ?_) | (refine n_isTup (by assumption) ?_) | (refine n_isLst (by assumption) ?_))
local macro_rules | `(tactic| walk_at "el") => `(tactic| repeat (first | walk_at "el1" | walk_at "el2"))

/-! ### a law's own look at ways -/
def spYes : Sp := fun vs H Q _ => ∃ x y : Bool, vs = [.bl x, .bl y] ∧ Q (.bl (decide (x = y))) H
def spWayL (K : Frag) : Sp := fun vs H Q _ => ∃ (g : Addr) (gs : List V) (G : List (Int × Int × Int)) (a b : Int) (x : V), vs = [.ref g, .int a, .int b, x] ∧ GapsAre K H g gs G ∧
  Th K H x ∧ (∀ (q : Addr) (xs : List V), x = .ref q → H q = some (.tup xs) → ∀ y ∈ xs, Th K H y) ∧ ∀ r, (r = true ↔ isWay H G a b x) → Q (.bl r) H
def spWalk (K : Frag) : Sp := fun vs H Q _ => ∃ (b c g : Addr) (gs : List V) (G : List (Int × Int × Int)) (a many : Int), vs = [.ref b, .ref g, .int a, .int many] ∧ Bag H b c ∧ g ≠ b ∧ H g = some (.lst gs) ∧ GapsAre K H g gs G ∧ gs.length ≤ 1000 ∧ 0 ≤ many ∧ many ≤ 1000 ∧
  ∀ H' r q (is : List Int) h, Bag H' b c → Kp b H H' → H' r = some (.tup [.ref q, .int h]) → H' q = some (.tup (is.map V.int)) → wayTo G a (is.map V.int) = some h → (is.length : Int) ≤ many → (∀ z ∈ is, 0 ≤ z ∧ z < G.length) → Q (.ref r) H'
section
variable {P : Program} {w : World} {K : Frag} {mg : Str → Option Value} {base : Heap} {f : Addr} {fd : FuncData} {C : Addr}
end
end EL

/- part Y -/
namespace EL
open PySem PySem.Spec PyProof.Rows L2
open PySem.W (Frag)
abbrev s_made : Stmt := top 36
abbrev N_made : List Str := ["_law_events", "_law_witnesses", "_law_parts_here"]
theorem sc_made : FnScope N_made ["_law_events", "_law_witnesses", "_law_parts_here"] (defScope s_made) := ⟨rfl, rfl, rfl, by decide +kernel, rfl, by decide +kernel, by decide +kernel⟩
local macro_rules | `(tactic| walk_at "el1") => `(tactic| with_reducible first
  | refine a_sasg ?_ | refine a_sdrop ?_ | refine a_saugS ?_ | refine a_spar ?_ | refine a_seq ?_ | refine a_asg ?_ | refine a_drop ?_ | refine a_ret ?_ | refine a_if ?_ | refine a_next ?_
  | refine a_op ?_ | refine a_cons ?_ | refine a_nil ?_ | refine a_cb ?_ | refine a_call ?_ | refine a_c ?_ | refine a_gn ?_ | refine a_nx ?_ | refine a_rt ?_ | refine a_un ?_
  | refine a_test ?_ | refine a_B ?_ | refine a_bl ?_ | refine a_and ?_ | refine a_or ?_ | refine a_not ?_ | refine a_andV ?_ | refine a_orV ?_ | refine a_notV ?_ | refine a_ifx ?_ | refine a_chain ?_
  | refine a_nT ?_ | refine a_nF ?_ | refine a_fld ?_ | refine a_getF ?_ | refine a_T ?_ | refine a_F ?_ | refine a_tup ?_ | refine a_lst ?_ | refine a_sub ?_ | refine a_augS ?_ | refine a_two ?_ | refine a_I0 ?_ | refine a_U ?_ | refine n_add ?_ | refine n_int ?_ | refine n_ib ?_ | refine a_ip ?_ | refine a_rng1 ?_ | refine a_rng2 ?_ | refine a_bm ?_ | refine a_abs ?_ | refine a_pairs ?_ | refine a_pairs0 ?_ | refine a_bk ?_ | refine a_prp ?_ | refine a_lc ?_ | refine a_yes ?_ | refine a_sl ?_ | refine a_nop ?_ | refine a_prt ?_ | refine a_ex1 ?_ | refine a_for ?_ | refine a_sfor ?_ | refine a_iE1 ?_ | refine a_iEs ?_ | refine a_iEz ?_ | refine a_iEnum ?_ | refine a_iTup ?_ | refine a_iList ?_ | refine a_gcons ?_ | refine a_gnil ?_ | refine a_revT ?_ | refine a_spar3 ?_ | refine a_par3 ?_ | refine a_three ?_)
local macro_rules | `(tactic| walk_at "el2") => `(tactic| first
  | (refine a_var (by rfl) ?_)
  | (refine n_ixL (SqL.of (by assumption)) (by rfl) ?_) | (refine n_ixT (SqT.of (by assumption)) (by rfl) ?_) | (refine n_eq (by rfl) ?_) | (refine n_ne (by rfl) ?_)
  | (refine n_isN ?_) | (refine n_notN ?_) | (refine n_isB ?_) | (refine n_notB ?_) | (refine n_isBI ?_) | (refine n_notBI ?_) | (refine n_len (.inl (SqL.of (by assumption))) ?_) | (refine n_len (.inr (SqT.of (by assumption))) ?_)
  | (refine a_getL (SqL.of (by assumption)) (by rfl) ?_)
  | (refine n_isInt (by assumption) ?_) | (refine n_isBool (by assumption) ?_) | (refine n_isStr (by assumption) ?_) | (refine n_isTup (by assumption) ?_) | (refine n_isLst (by assumption) ?_))
local macro_rules | `(tactic| walk_at "el") => `(tactic| repeat (first | walk_at "el1" | walk_at "el2"))

/-! ### a book and a law's four lists, as numbers and words -/
theorem upd_at {H : Hp} {p : Addr} (_ : H p = none) (o : HO) : upd H p o p = some o := upd_same
theorem Bag.neT {H : Hp} {b c p : Addr} {xs : List V} (h : Bag H b c) (hp : H p = some (.tup xs)) : p ≠ b := fun z => by
  obtain ⟨i, j, k, cs, h1, _⟩ := h
  subst z
  rw [h1] at hp
  cases hp
theorem Bag.neL {H : Hp} {b c : Addr} {xs : List V} (h : Bag H b c) (hp : H b = some (.lst xs)) : xs.length ≠ 4 → False := fun z => by
  obtain ⟨i, j, k, cs, h1, _⟩ := h
  rw [h1] at hp
  cases hp
  exact z rfl
theorem SqT.kpB {K : Frag} {H H' : Hp} {a b c : Addr} {xs : List V} (h : SqT K H a xs) (hb : Bag H b c) (k : Kp b H H') : SqT K H' a xs := by
  obtain ⟨_, _, _, _, q, _⟩ := hb
  rcases h with (h | ⟨o, h⟩) | h
  · exact .inl (.inl (k _ _ (fun z => by subst z; rw [q] at h; cases h) h))
  · exact .inl (.inr ⟨_, k _ _ (fun z => by subst z; rw [q] at h; cases h) h⟩)
  · exact .inr h
structure RowsAre {α : Type} (enc : α → List V) (H : Hp) (xs : List V) (D : List α) : Prop where
  len : xs.length = D.length
  at_ : ∀ (i : Nat) (v : V), xs[i]? = some v → ∃ (q : Addr) (x : α), v = .ref q ∧ D[i]? = some x ∧ H q = some (.tup (enc x))
section
variable {α : Type} {enc : α → List V} {H H' : Hp} {xs : List V} {D : List α} {b c : Addr}
theorem RowsAre.same (h : RowsAre enc H xs D) (s : Same H H') : RowsAre enc H' xs D := ⟨h.len, fun i v hv => by
  obtain ⟨q, x, e, hx, hq⟩ := h.at_ i v hv
  exact ⟨q, x, e, hx, s _ _ hq⟩⟩
theorem RowsAre.kp (h : RowsAre enc H xs D) (hb : Bag H b c) (k : Kp b H H') : RowsAre enc H' xs D := ⟨h.len, fun i v hv => by
  obtain ⟨q, x, e, hx, hq⟩ := h.at_ i v hv
  exact ⟨q, x, e, hx, k _ _ (hb.neT hq) hq⟩⟩
theorem RowsAre.get (h : RowsAre enc H xs D) {i : Nat} {x : α} (e : D[i]? = some x) : ∃ q, xs[i]? = some (.ref q) ∧ H q = some (.tup (enc x)) := by
  have l : i < xs.length := by rw [h.len]; exact (List.getElem?_eq_some_iff.mp e).1
  obtain ⟨q, y, e1, e2, e3⟩ := h.at_ i _ (List.getElem?_eq_getElem l)
  rw [e] at e2
  cases e2
  exact ⟨q, by rw [List.getElem?_eq_getElem l, e1], e3⟩
end
abbrev encT (x : Int × Int × Int) : List V := [.int x.1, .int x.2.1, .int x.2.2]
abbrev encS (x : Int × Str × Int) : List V := [.int x.1, .str x.2.1, .int x.2.2]
abbrev encL (x : Int × Str × Int × Str) : List V := [.int x.1, .str x.2.1, .int x.2.2.1, .str x.2.2.2]
theorem RowsAre.gaps {K : Frag} {H : Hp} {g : Addr} {gs : List V} {G : List (Int × Int × Int)} (h : RowsAre encT H gs G) (s : SqA K H g gs) : GapsAre K H g gs G := ⟨s, h.len, h.at_⟩
/-- what a book says -/
structure PD where
  T : List (Int × Int × Int)
  G : List (Int × Int × Int)
  S : List (Int × Str × Int)
  L : List (Int × Str × Int × Str)
def NumOk (x : Int) : Prop := -1000000000000000 ≤ x ∧ x ≤ 1000000000000000
structure PD.Ok (D : PD) (ev wi : Int) : Prop where
  t : ∀ x ∈ D.T, (0 ≤ x.1 ∧ x.1 < wi) ∧ (0 ≤ x.2.1 ∧ x.2.1 < ev) ∧ NumOk x.2.2
  g : ∀ x ∈ D.G, (0 ≤ x.1 ∧ x.1 < ev) ∧ (0 ≤ x.2.1 ∧ x.2.1 < ev) ∧ NumOk x.2.2
  s : ∀ x ∈ D.S, (0 ≤ x.1 ∧ x.1 < ev) ∧ (x.2.1 = "least" ∨ x.2.1 = "most") ∧ NumOk x.2.2
  l : ∀ x ∈ D.L, (0 ≤ x.1 ∧ x.1 < wi) ∧ (x.2.1 = "early" ∨ x.2.1 = "late") ∧ (0 ≤ x.2.2.1 ∧ x.2.2.1 < wi) ∧ (x.2.2.2 = "early" ∨ x.2.2.2 = "late")
theorem num_ok {x : V} (h : numB x = true) : ∃ n, x = .int n ∧ NumOk n := by
  cases x with
  | int n =>
    have q : (decide (-1000000000000000 ≤ n) && decide (n ≤ 1000000000000000)) = true := h
    rw [Bool.and_eq_true, decide_eq_true_iff, decide_eq_true_iff] at q
    exact ⟨n, rfl, q⟩
  | _ => cases h
theorem kind_ok {x : V} (h : kindB x = true) : ∃ s, x = .str s ∧ (s = "early" ∨ s = "late") := by
  cases x with
  | str s =>
    have q : (decide (s = "early") || decide (s = "late")) = true := h
    rw [Bool.or_eq_true, decide_eq_true_iff, decide_eq_true_iff] at q
    exact ⟨s, rfl, q⟩
  | _ => cases h
theorem side_ok {x : V} (h : sideB x = true) : ∃ s, x = .str s ∧ (s = "least" ∨ s = "most") := by
  cases x with
  | str s =>
    have q : (decide (s = "least") || decide (s = "most")) = true := h
    rw [Bool.or_eq_true, decide_eq_true_iff, decide_eq_true_iff] at q
    exact ⟨s, rfl, q⟩
  | _ => cases h
theorem item_tel_inv {H : Hp} {x : V} {ev wi : Int} (h : ItemOk .tel H x ev wi) : ∃ (q : Addr) (y : Int × Int × Int), x = .ref q ∧ H q = some (.tup (encT y)) ∧ (0 ≤ y.1 ∧ y.1 < wi) ∧ (0 ≤ y.2.1 ∧ y.2.1 < ev) ∧ NumOk y.2.2 := by
  obtain ⟨q, xs, rfl, hq, hl, hs⟩ := h
  match xs, hl with
  | [x0, x1, x2], _ =>
    have h0 : belowB x0 wi = true := (st_w (x := x0)).symm.trans (hs 0 (by decide) "witness" x0 rfl rfl)
    have h1 : belowB x1 ev = true := (st_e (x := x1)).symm.trans (hs 1 (by decide) "event" x1 rfl rfl)
    have h2 : numB x2 = true := (st_n (x := x2)).symm.trans (hs 2 (by decide) "number" x2 rfl rfl)
    obtain ⟨a, rfl, a0⟩ := below_int h0
    obtain ⟨e, rfl, e0⟩ := below_int h1
    obtain ⟨n, rfl, n0⟩ := num_ok h2
    exact ⟨q, (a, e, n), rfl, hq, a0, e0, n0⟩
theorem item_gap_inv2 {H : Hp} {x : V} {ev wi : Int} (h : ItemOk .gap H x ev wi) : ∃ (q : Addr) (y : Int × Int × Int), x = .ref q ∧ H q = some (.tup (encT y)) ∧ (0 ≤ y.1 ∧ y.1 < ev) ∧ (0 ≤ y.2.1 ∧ y.2.1 < ev) ∧ NumOk y.2.2 := by
  obtain ⟨q, xs, rfl, hq, hl, hs⟩ := id h
  obtain ⟨q2, a, e, n, e1, hq2, a0, a1, e0, e1', _⟩ := item_gap_inv h
  cases e1
  rw [hq] at hq2
  cases hq2
  have h2 : numB (.int n) = true := (st_n (x := .int n)).symm.trans (hs 2 (by decide) "number" (.int n) rfl rfl)
  obtain ⟨n', en, n0⟩ := num_ok h2
  cases en
  exact ⟨q, (a, e, n), rfl, hq, ⟨a0, a1⟩, ⟨e0, e1'⟩, n0⟩
theorem item_sur_inv {H : Hp} {x : V} {ev wi : Int} (h : ItemOk .sur H x ev wi) : ∃ (q : Addr) (y : Int × Str × Int), x = .ref q ∧ H q = some (.tup (encS y)) ∧ (0 ≤ y.1 ∧ y.1 < ev) ∧ (y.2.1 = "least" ∨ y.2.1 = "most") ∧ NumOk y.2.2 := by
  obtain ⟨q, xs, rfl, hq, hl, hs⟩ := h
  match xs, hl with
  | [x0, x1, x2], _ =>
    have h0 : belowB x0 ev = true := (st_e (x := x0)).symm.trans (hs 0 (by decide) "event" x0 rfl rfl)
    have h1 : sideB x1 = true := (st_s (x := x1)).symm.trans (hs 1 (by decide) "side" x1 rfl rfl)
    have h2 : numB x2 = true := (st_n (x := x2)).symm.trans (hs 2 (by decide) "number" x2 rfl rfl)
    obtain ⟨a, rfl, a0⟩ := below_int h0
    obtain ⟨e, rfl, e0⟩ := side_ok h1
    obtain ⟨n, rfl, n0⟩ := num_ok h2
    exact ⟨q, (a, e, n), rfl, hq, a0, e0, n0⟩
theorem item_cla_inv {H : Hp} {x : V} {ev wi : Int} (h : ItemOk .cla H x ev wi) : ∃ (q : Addr) (y : Int × Str × Int × Str), x = .ref q ∧ H q = some (.tup (encL y)) ∧ (0 ≤ y.1 ∧ y.1 < wi) ∧ (y.2.1 = "early" ∨ y.2.1 = "late") ∧ (0 ≤ y.2.2.1 ∧ y.2.2.1 < wi) ∧ (y.2.2.2 = "early" ∨ y.2.2.2 = "late") := by
  obtain ⟨q, xs, rfl, hq, hl, hs⟩ := h
  match xs, hl with
  | [x0, x1, x2, x3], _ =>
    have h0 : belowB x0 wi = true := (st_w (x := x0)).symm.trans (hs 0 (by decide) "witness" x0 rfl rfl)
    have h1 : kindB x1 = true := (st_k (x := x1)).symm.trans (hs 1 (by decide) "kind" x1 rfl rfl)
    have h2 : belowB x2 wi = true := (st_w (x := x2)).symm.trans (hs 2 (by decide) "witness" x2 rfl rfl)
    have h3 : kindB x3 = true := (st_k (x := x3)).symm.trans (hs 3 (by decide) "kind" x3 rfl rfl)
    obtain ⟨a, rfl, a0⟩ := below_int h0
    obtain ⟨e, rfl, e0⟩ := kind_ok h1
    obtain ⟨v, rfl, v0⟩ := below_int h2
    obtain ⟨n, rfl, n0⟩ := kind_ok h3
    exact ⟨q, (a, e, v, n), rfl, hq, a0, e0, v0, n0⟩
theorem rows_of {α : Type} {enc : α → List V} {P : α → Prop} {H : Hp} : ∀ (xs : List V), (∀ x ∈ xs, ∃ (q : Addr) (y : α), x = .ref q ∧ H q = some (.tup (enc y)) ∧ P y) → ∃ D : List α, RowsAre enc H xs D ∧ ∀ y ∈ D, P y
  | [], _ => ⟨[], ⟨rfl, fun i v h => by cases h⟩, fun _ h => nomatch h⟩
  | x :: r, h => by
    obtain ⟨D, R, p⟩ := rows_of r fun x hx => h x (List.mem_cons_of_mem _ hx)
    obtain ⟨q, y, rfl, hq, py⟩ := h x (List.mem_cons_self ..)
    refine ⟨y :: D, ⟨by rw [List.length_cons, List.length_cons, R.len], fun i v hv => ?_⟩, fun z hz => (List.mem_cons.mp hz).elim (fun e => e ▸ py) (p z)⟩
    cases i with
    | zero => cases hv; exact ⟨q, y, rfl, rfl, hq⟩
    | succ i => exact R.at_ i v hv
/-- addresses and sizes of a book -/
structure BA where
  o : Addr
  dx : Addr
  t : Addr
  g : Addr
  s : Addr
  q : Addr
  ev : Int
  wi : Int
  xs : Pt → List V
/-- the rows of four parts -/
structure PR (H : Hp) (xs : Pt → List V) (D : PD) : Prop where
  t : RowsAre encT H (xs .tel) D.T
  g : RowsAre encT H (xs .gap) D.G
  s : RowsAre encS H (xs .sur) D.S
  l : RowsAre encL H (xs .cla) D.L
theorem PR.same {H H' : Hp} {xs : Pt → List V} {D : PD} (h : PR H xs D) (s : Same H H') : PR H' xs D := ⟨h.t.same s, h.g.same s, h.s.same s, h.l.same s⟩
theorem PR.kp {H H' : Hp} {xs : Pt → List V} {D : PD} {b c : Addr} (h : PR H xs D) (hb : Bag H b c) (k : Kp b H H') : PR H' xs D := ⟨h.t.kp hb k, h.g.kp hb k, h.s.kp hb k, h.l.kp hb k⟩
theorem pr_of {H : Hp} {xs : Pt → List V} {ev wi : Int} (h : ∀ t, ∀ x ∈ xs t, ItemOk t H x ev wi) : ∃ D : PD, PR H xs D ∧ D.Ok ev wi := by
  obtain ⟨T, rT, bT⟩ := rows_of (xs .tel) fun x hx => item_tel_inv (h .tel x hx)
  obtain ⟨G, rG, bG⟩ := rows_of (xs .gap) fun x hx => item_gap_inv2 (h .gap x hx)
  obtain ⟨S, rS, bS⟩ := rows_of (xs .sur) fun x hx => item_sur_inv (h .sur x hx)
  obtain ⟨L, rL, bL⟩ := rows_of (xs .cla) fun x hx => item_cla_inv (h .cla x hx)
  exact ⟨⟨T, G, S, L⟩, ⟨rT, rG, rS, rL⟩, ⟨bT, bG, bS, bL⟩⟩
/-- a book in the heap -/
structure BB (K : Frag) (C : Addr) (H : Hp) (A : BA) (D : PD) : Prop where
  bk : H A.o = some (bookO C A.dx A.ev A.wi A.t A.g A.s A.q)
  tT : SqT K H A.t (A.xs .tel)
  tG : SqT K H A.g (A.xs .gap)
  tS : SqT K H A.s (A.xs .sur)
  tL : SqT K H A.q (A.xs .cla)
  r : PR H A.xs D
theorem BB.same {K : Frag} {C : Addr} {H H' : Hp} {A : BA} {D : PD} (h : BB K C H A D) (s : Same H H') : BB K C H' A D := ⟨s _ _ h.bk, h.tT.same s, h.tG.same s, h.tS.same s, h.tL.same s, h.r.same s⟩
theorem BB.kp {K : Frag} {C : Addr} {H H' : Hp} {A : BA} {D : PD} {b c : Addr} (h : BB K C H A D) (hb : Bag H b c) (k : Kp b H H') : BB K C H' A D := by
  have nb : A.o ≠ b := fun z => by
    obtain ⟨_, _, _, _, w, _⟩ := hb
    have := h.bk
    rw [z, w] at this
    cases this
  exact ⟨k _ _ nb h.bk, SqT.kpB h.tT hb k, SqT.kpB h.tG hb k, SqT.kpB h.tS hb k, SqT.kpB h.tL hb k, h.r.kp hb k⟩
/-- a law's four lists in a list -/
structure LP (H : Hp) (b p : Addr) (l : Pt → Addr) (xs : Pt → List V) (D : PD) : Prop where
  hp : H p = some (.lst [.ref (l .tel), .ref (l .gap), .ref (l .sur), .ref (l .cla)])
  np : p ≠ b
  hl : ∀ u, H (l u) = some (.lst (xs u))
  nl : ∀ u, l u ≠ b
  r : PR H xs D
theorem LP.same {H H' : Hp} {b p : Addr} {l : Pt → Addr} {xs : Pt → List V} {D : PD} (h : LP H b p l xs D) (s : Same H H') : LP H' b p l xs D := ⟨s _ _ h.hp, h.np, fun u => s _ _ (h.hl u), h.nl, h.r.same s⟩
theorem LP.kp {H H' : Hp} {b c p : Addr} {l : Pt → Addr} {xs : Pt → List V} {D : PD} (h : LP H b p l xs D) (hb : Bag H b c) (k : Kp b H H') : LP H' b p l xs D := ⟨k _ _ h.np h.hp, h.np, fun u => k _ _ (h.nl u) (h.hl u), h.nl, h.r.kp hb k⟩
/-- both, and the bag -/
structure WW (K : Frag) (C b c : Addr) (H : Hp) (A : BA) (p : Addr) (l : Pt → Addr) (D : PD) : Prop where
  bag : Bag H b c
  bb : BB K C H A D
  lp : LP H b p l A.xs D
section
variable {K : Frag} {C b c : Addr} {H H' : Hp} {A : BA} {p : Addr} {l : Pt → Addr} {D : PD}
theorem WW.kp (h : WW K C b c H A p l D) (hb : Bag H' b c) (k : Kp b H H') : WW K C b c H' A p l D := ⟨hb, h.bb.kp h.bag k, h.lp.kp h.bag k⟩
theorem WW.same (h : WW K C b c H A p l D) (s : Same H H') : WW K C b c H' A p l D := ⟨h.bag.same s, h.bb.same s, h.lp.same s⟩
end
/-! ### a law makes a book of its lists -/
def spMade (K : Frag) (C : Addr) : Sp := fun vs H Q _ => ∃ (ev wi : Int) (p : Addr) (l : Pt → Addr) (xs : Pt → List V), vs = [.int ev, .int wi, .ref p] ∧ 0 ≤ ev ∧ ev ≤ 8 ∧ 0 ≤ wi ∧ wi ≤ 8 ∧ H p = some (.lst [.ref (l .tel), .ref (l .gap), .ref (l .sur), .ref (l .cla)]) ∧ (∀ u, PartOk K u H (l u) (xs u) ev wi) ∧
  ∀ H' o dx t g s q, Same H H' → H' o = some (bookO C dx ev wi t g s q) → SqT K H' t (xs .tel) → SqT K H' g (xs .gap) → SqT K H' s (xs .sur) → SqT K H' q (xs .cla) → Q (.ref o) H'
section
variable {P : Program} {w : World} {K : Frag} {mg : Str → Option Value} {base : Heap} {f : Addr} {fd : FuncData} {C : Addr} {Dk : BookD}
theorem ok_made (F : Fun K "_law_made" "_law_made" s_made f fd) (T : Tb mg) (c_Book : BookG P w K mg base C Dk) : FnOk P w K mg base CX0 9 f fd ["_law_events", "_law_witnesses", "_law_parts_here"] (spMade K C) := by
  refine F.ok sc_made (fun vs H Q E h => ?_) (fun cdv A outer s H vs Q E hr h => ?_)
  · obtain ⟨_, _, _, _, _, rfl, _⟩ := h
    rfl
  · obtain ⟨ev, wi, p, l, xs, rfl, e0, e8, w0, w8, hp, ok, k⟩ := h
    refine ⟨_, (pss_one (ps_ret (pe_bk6 c_Book (hr.mono (by decide)) rfl (pa_cons (pv 0) (pa_cons (pv 1) (pa_cons (pe_ix ix_seq (pv 2) pe_int (fun _ _ => rfl)) (pa_cons (pe_ix ix_seq (pv 2) pe_int (fun _ _ => rfl)) (pa_cons (pe_ix ix_seq (pv 2) pe_int (fun _ _ => rfl)) (pa_cons (pe_ix ix_seq (pv 2) pe_int (fun _ _ => rfl)) pa_nil))))))))), ?_⟩
    walk_at "el"
    refine n_bk6 e0 e8 w0 w8 (ok .tel) (ok .gap) (ok .sur) (ok .cla) fun o dx t g s q H' s' ho ho' h1 h2 h3 h4 => ?_
    exact k H' o dx t g s q s' ho' h1 h2 h3 h4
end
end EL

/- part BM -/
namespace EL
open PySem PySem.Spec PyProof.Rows L2
open PySem.W (Frag)
abbrev s_Book_is_plain : Stmt := inClass (top 26) 8
abbrev N_Book_is_plain : List Str := ["self"]
theorem sc_Book_is_plain : FnScope N_Book_is_plain ["self"] (defScope s_Book_is_plain) := ⟨rfl, rfl, rfl, by decide +kernel, rfl, by decide +kernel, by decide +kernel⟩
abbrev s_Book_told_by : Stmt := inClass (top 26) 9
abbrev N_Book_told_by : List Str := ["self", "w"]
theorem sc_Book_told_by : FnScope N_Book_told_by ["self", "w"] (defScope s_Book_told_by) := ⟨rfl, rfl, rfl, by decide +kernel, rfl, by decide +kernel, by decide +kernel⟩
abbrev s_book_is : Stmt := top 35
abbrev N_book_is : List Str := ["_law_book", "_law_events", "_law_witnesses", "_law_parts_here", "_law_told", "_law_items"]
theorem sc_book_is : FnScope N_book_is ["_law_book", "_law_events", "_law_witnesses", "_law_parts_here"] (defScope s_book_is) := ⟨rfl, rfl, rfl, by decide +kernel, rfl, by decide +kernel, by decide +kernel⟩
local macro_rules | `(tactic| walk_at "el1") => `(tactic| with_reducible first
  | refine a_sasg ?_ | refine a_sdrop ?_ | refine a_saugS ?_ | refine a_spar ?_ | refine a_seq ?_ | refine a_asg ?_ | refine a_drop ?_ | refine a_ret ?_ | refine a_if ?_ | refine a_next ?_
  | refine a_op ?_ | refine a_cons ?_ | refine a_nil ?_ | refine a_cb ?_ | refine a_call ?_ | refine a_c ?_ | refine a_gn ?_ | refine a_nx ?_ | refine a_rt ?_ | refine a_un ?_
  | refine a_test ?_ | refine a_B ?_ | refine a_bl ?_ | refine a_and ?_ | refine a_or ?_ | refine a_not ?_ | refine a_andV ?_ | refine a_orV ?_ | refine a_notV ?_ | refine a_ifx ?_ | refine a_chain ?_
  | refine a_nT ?_ | refine a_nF ?_ | refine a_fld ?_ | refine a_getF ?_ | refine a_T ?_ | refine a_F ?_ | refine a_tup ?_ | refine a_lst ?_ | refine a_sub ?_ | refine a_augS ?_ | refine a_two ?_ | refine a_I0 ?_ | refine a_U ?_ | refine n_add ?_ | refine n_int ?_ | refine n_ib ?_ | refine a_ip ?_ | refine a_rng1 ?_ | refine a_rng2 ?_ | refine a_bm ?_ | refine a_abs ?_ | refine a_pairs ?_ | refine a_pairs0 ?_ | refine a_bk ?_ | refine a_prp ?_ | refine a_lc ?_ | refine a_yes ?_ | refine a_sl ?_ | refine a_nop ?_ | refine a_prt ?_ | refine a_ex1 ?_ | refine a_for ?_ | refine a_sfor ?_ | refine a_iE1 ?_ | refine a_iEs ?_ | refine a_iEz ?_ | refine a_iEnum ?_ | refine a_iTup ?_ | refine a_iList ?_ | refine a_gcons ?_ | refine a_gnil ?_ | refine a_revT ?_ | refine a_spar3 ?_ | refine a_par3 ?_ | refine a_three ?_)
local macro_rules | `(tactic| walk_at "el2") => `(tactic| first
  | (refine a_var (by rfl) ?_)
  | (refine n_ixL (SqL.of (by assumption)) (by rfl) ?_) | (refine n_ixT (SqT.of (by assumption)) (by rfl) ?_) | (refine n_eq (by rfl) ?_) | (refine n_ne (by rfl) ?_)
  | (refine n_isN ?_) | (refine n_notN ?_) | (refine n_isB ?_) | (refine n_notB ?_) | (refine n_isBI ?_) | (refine n_notBI ?_) | (refine n_len (.inl (SqL.of (by assumption))) ?_) | (refine n_len (.inr (SqT.of (by assumption))) ?_)
  | (refine a_getL (SqL.of (by assumption)) (by rfl) ?_)
  | (refine n_isInt (by assumption) ?_) | (refine n_isBool (by assumption) ?_) | (refine n_isStr (by assumption) ?_) | (refine n_isTup (by assumption) ?_) | (refine n_isLst (by assumption) ?_))
local macro_rules | `(tactic| walk_at "el") => `(tactic| repeat (first | walk_at "el1" | walk_at "el2"))

/-! ### methods of a book -/
structure MthG (P : Program) (w : World) (K : Frag) (mg : Str → Option Value) (base : Heap) (C : Addr) (k : Nat) (m : Str) (ps : List Str) (sp : Sp) : Prop where
  ex : ∃ f fd, Meth K C m f ∧ FnOk P w K mg base CX0 k f fd ps sp ∧ L2.Binds K fd ps []
  cl : Cls K C
theorem pe_mth {X : Cx} {C : Addr} {k : Nat} {m : Str} {ps : List Str} {sp : Sp} {o e : Expr} {es : List Expr} {ta : TE} {t : TA} {pos : Pos} {apos : Pos} {pl : Sem Bool} (G : MthG X.prog X.w X.K X.mg X.base C k m ps sp) (hr : Room k X.A) (hx : Passes CX0 X E0) (he : PE X o ta) (ha : PA X (e :: es) t)
    (hst : starEach (e :: es) X.env = (false, eval e X.env) :: starEach es X.env := by rfl) (hpl : (backTo pos (starEach es X.env)).any (·.1) = false := by rfl)
    (ht : eval (.Call (.Attribute o m apos) (e :: es) [] pos) X.env = (do
      let ov ← eval o X.env
      standAt apos.atName
      let (f, first) ← holding [ov] (getMethod ov m pl)
      callWith pos f first (backTo pos (starEach (e :: es) X.env)) (backToKw pos (keywordEach [] X.env))) := by rfl) :
    PE X (.Call (.Attribute o m apos) (e :: es) [] pos) (tMeth C m sp [] E0 ta t) := by
  obtain ⟨f, fd, hm, F, hb⟩ := G.ex
  exact pe_meth he G.cl hm F hr hb .nil hx ha hst hpl ht
def plainB (D : PD) : Bool := D.L.all fun x => decide (x.1 = x.2.2.1) || !decide (x.2.1 = x.2.2.2)
def toldI (D : PD) (w : Int) (n : Nat) : List Int := ((List.range n).filter fun i => decide ((D.T[i]?).map (fun x => x.1) = some w)).map Int.ofNat
theorem told_succ {D : PD} {w : Int} {n : Nat} : toldI D w (n + 1) = toldI D w n ++ (if (D.T[n]?).map (fun x => x.1) = some w then [(n : Int)] else []) := by
  unfold toldI
  rw [List.range_succ, List.filter_append, List.map_append, List.filter_cons]
  congr 1
  by_cases h : (D.T[n]?).map (fun x => x.1) = some w
  · rw [if_pos h, if_pos (decide_eq_true h)]; rfl
  · rw [if_neg h, if_neg (fun z => h (of_decide_eq_true z))]; rfl
theorem told_len {D : PD} {w : Int} {n : Nat} : (toldI D w n).length ≤ n := by
  unfold toldI
  rw [List.length_map]
  exact Nat.le_trans (List.length_filter_le ..) (by rw [List.length_range]; exact Nat.le_refl _)
def spPlain (K : Frag) (C : Addr) : Sp := fun vs H Q _ => ∃ (A : BA) (D : PD), vs = [.ref A.o] ∧ BB K C H A D ∧ D.L.length ≤ 1000 ∧ ∀ H', Same H H' → Q (.bl (plainB D)) H'
def spTold (K : Frag) (C : Addr) : Sp := fun vs H Q _ => ∃ (A : BA) (D : PD) (w : Int), vs = [.ref A.o, .int w] ∧ BB K C H A D ∧ D.T.length ≤ 1000 ∧ ∀ H' r, Same H H' → H r = none → H' r = some (.lst ((toldI D w D.T.length).map V.int)) → Q (.ref r) H'
section
variable {P : Program} {w : World} {K : Frag} {mg : Str → Option Value} {base : Heap} {f : Addr} {fd : FuncData} {C : Addr}
def spPlC : Sp := fun vs H Q _ => ∃ (a : Addr) (y : Int × Str × Int × Str), vs = [.ref a] ∧ H a = some (.tup (encL y)) ∧ Q (.bl (decide (y.1 = y.2.2.1) || !decide (y.2.1 = y.2.2.2))) H
/-! a book's parts as data -/
abbrev dT (x : Int × Int × Int) : PyData := .tuple [.int x.1, .int x.2.1, .int x.2.2]
abbrev dS (x : Int × Str × Int) : PyData := .tuple [.int x.1, .str x.2.1, .int x.2.2]
abbrev dL (x : Int × Str × Int × Str) : PyData := .tuple [.int x.1, .str x.2.1, .int x.2.2.1, .str x.2.2.2]
theorem rows_tail {α : Type} {enc : α → List V} {H : Hp} {v : V} {xs : List V} {y : α} {D : List α} (h : RowsAre enc H (v :: xs) (y :: D)) : RowsAre enc H xs D := ⟨Nat.succ.inj h.len, fun i w hw => by
  obtain ⟨q, x, a, b, c⟩ := h.at_ (i + 1) w hw
  exact ⟨q, x, a, b, c⟩⟩
theorem rows_dp {α : Type} {enc : α → List V} {dec : α → PyData} {K : Frag} {H : Hp} (he : ∀ (q : Addr) (x : α), H q = some (.tup (enc x)) → Dp K H (.ref q) (dec x)) : ∀ {xs : List V} {D : List α}, RowsAre enc H xs D → DpAll K H xs (D.map dec)
  | [], [], _ => .nil
  | [], _ :: _, h => by have := h.len; simp at this
  | _ :: _, [], h => by have := h.len; simp at this
  | v :: xs, y :: D, h => by
    obtain ⟨q, x, rfl, hx, hq⟩ := h.at_ 0 v rfl
    cases hx
    exact .cons (he q _ hq) (rows_dp he (rows_tail h))
theorem dp_T {K : Frag} {H : Hp} {q : Addr} {x : Int × Int × Int} (h : H q = some (.tup (encT x))) : Dp K H (.ref q) (dT x) := .tup (SqT.of h) (.cons (.int _) (.cons (.int _) (.cons (.int _) .nil)))
theorem dp_S {K : Frag} {H : Hp} {q : Addr} {x : Int × Str × Int} (h : H q = some (.tup (encS x))) : Dp K H (.ref q) (dS x) := .tup (SqT.of h) (.cons (.int _) (.cons (.str _) (.cons (.int _) .nil)))
theorem dp_L {K : Frag} {H : Hp} {q : Addr} {x : Int × Str × Int × Str} (h : H q = some (.tup (encL x))) : Dp K H (.ref q) (dL x) := .tup (SqT.of h) (.cons (.int _) (.cons (.str _) (.cons (.int _) (.cons (.str _) .nil))))
theorem dp_app {K : Frag} {H : Hp} : ∀ {vs ws : List V} {ds es : List PyData}, DpAll K H vs ds → DpAll K H ws es → DpAll K H (vs ++ ws) (ds ++ es)
  | [], _, _, _, .nil, h => h
  | _ :: _, _, _, _, .cons h t, k => .cons h (dp_app t k)
def bookD (D : PD) (ev wi : Int) : PyData := .list [.int ev, .int wi, .tuple (D.T.map dT), .tuple (D.G.map dT), .tuple (D.S.map dS), .tuple (D.L.map dL)]
theorem num_abs {x : Int} (h : NumOk x) : x.natAbs < 10 ^ 40 := by
  obtain ⟨a, b⟩ := h
  exact Nat.lt_of_lt_of_le (m := 1000000000000001) (by omega) (by decide)
theorem small_abs {x : Int} (h : 0 ≤ x) (h2 : x ≤ 1000) : x.natAbs < 10 ^ 40 := Nat.lt_of_lt_of_le (m := 1001) (by omega) (by decide)
theorem sz_word {s : Str} (h : s = "early" ∨ s = "late" ∨ s = "least" ∨ s = "most") : Sz 5 0 (.str s) := by
  rcases h with rfl | rfl | rfl | rfl <;> exact (sz_str (by decide +kernel)).le (by decide +kernel) (by decide)
theorem bookD_fine {D : PD} {ev wi : Int} (ok : D.Ok ev wi) (e0 : 0 ≤ ev) (e8 : ev ≤ 8) (w0 : 0 ≤ wi) (w8 : wi ≤ 8) (l : D.T.length ≤ 100 ∧ D.G.length ≤ 100 ∧ D.S.length ≤ 100 ∧ D.L.length ≤ 100) : Fine (bookD D ev wi) := by
  have part : ∀ {α : Type} {dec : α → PyData} {E : List α}, (∀ x ∈ E, Sz 30 1 (dec x)) → E.length ≤ 100 → Sz 3100 2 (.tuple (E.map dec)) := fun {α dec E} h hl => by
    refine (sz_tup (n := 30) (k := 1) fun d hd => ?_).le (Nat.le_trans (Nat.mul_le_mul_right _ (by rw [List.length_map]; exact hl)) (by decide)) (by decide)
    obtain ⟨x, hx, rfl⟩ := List.mem_map.mp hd
    exact h x hx
  have i0 : ∀ {x : Int}, x.natAbs < 10 ^ 40 → Sz 5 0 (.int x) := fun h => (sz_int h).le (by decide) (by decide)
  have t3 : ∀ {a c d : PyData}, Sz 5 0 a → Sz 5 0 c → Sz 5 0 d → Sz 30 1 (.tuple [a, c, d]) := fun h1 h2 h3 => (sz_tup (n := 5) (k := 0) (all_cons h1 (all_cons h2 (all_cons h3 all_nil)))).le (by show 3 * 6 ≤ 30; decide) (by decide)
  have t4 : ∀ {a c d e : PyData}, Sz 5 0 a → Sz 5 0 c → Sz 5 0 d → Sz 5 0 e → Sz 30 1 (.tuple [a, c, d, e]) := fun h1 h2 h3 h4 => (sz_tup (n := 5) (k := 0) (all_cons h1 (all_cons h2 (all_cons h3 (all_cons h4 all_nil))))).le (by show 4 * 6 ≤ 30; decide) (by decide)
  have z : Sz (6 * (3100 + 1)) 3 (bookD D ev wi) := by
    refine sz_lst (n := 3100) (k := 2) (ds := [.int ev, .int wi, .tuple (D.T.map dT), .tuple (D.G.map dT), .tuple (D.S.map dS), .tuple (D.L.map dL)]) (all_cons ((i0 (small_abs e0 (by omega))).le (by decide) (by decide)) (all_cons ((i0 (small_abs w0 (by omega))).le (by decide) (by decide)) (all_cons (part (fun x hx => ?_) l.1) (all_cons (part (fun x hx => ?_) l.2.1) (all_cons (part (fun x hx => ?_) l.2.2.1) (all_cons (part (fun x hx => ?_) l.2.2.2) all_nil))))))
    · have o := ok.t x hx
      exact t3 (i0 (small_abs o.1.1 (by omega))) (i0 (small_abs o.2.1.1 (by omega))) (i0 (num_abs o.2.2))
    · have o := ok.g x hx
      exact t3 (i0 (small_abs o.1.1 (by omega))) (i0 (small_abs o.2.1.1 (by omega))) (i0 (num_abs o.2.2))
    · have o := ok.s x hx
      exact t3 (i0 (small_abs o.1.1 (by omega))) (sz_word (o.2.1.elim (fun h => .inr (.inr (.inl h))) fun h => .inr (.inr (.inr h)))) (i0 (num_abs o.2.2))
    · have o := ok.l x hx
      exact t4 (i0 (small_abs o.1.1 (by omega))) (sz_word (o.2.1.elim .inl fun h => .inr (.inl h))) (i0 (small_abs o.2.2.1.1 (by omega))) (sz_word (o.2.2.2.elim .inl fun h => .inr (.inl h)))
  exact z.fine (by decide) (by decide)
def spBookIs (K : Frag) (C : Addr) : Sp := fun vs H Q _ => ∃ (A : BA) (D : PD) (b p : Addr) (l : Pt → Addr) (xs : Pt → List V), vs = [.ref A.o, .int A.ev, .int A.wi, .ref p] ∧ BB K C H A D ∧ LP H b p l xs D ∧ D.Ok A.ev A.wi ∧ 0 ≤ A.ev ∧ A.ev ≤ 8 ∧ 0 ≤ A.wi ∧ A.wi ≤ 8 ∧
  (D.T.length ≤ 100 ∧ D.G.length ≤ 100 ∧ D.S.length ≤ 100 ∧ D.L.length ≤ 100) ∧ ∀ H', Same H H' → Q (.bl true) H'
theorem ok_book_is (F : Fun K "_law_book_is" "_law_book_is" s_book_is f fd) (T : Tb mg) (p_events : PrpG P w K mg base C "events" "_events") (p_witnesses : PrpG P w K mg base C "witnesses" "_witnesses") (p_tellings : PrpG P w K mg base C "tellings" "_tellings") (p_gaps : PrpG P w K mg base C "gaps" "_gaps") (p_sure : PrpG P w K mg base C "sure" "_sure") (p_clauses : PrpG P w K mg base C "clauses" "_clauses") :
    FnG P w K mg base CX0 3 f fd ["_law_book", "_law_events", "_law_witnesses", "_law_parts_here"] (spBookIs K C) := by
  refine fnG_of F sc_book_is (fun vs H Q E h => ?_) (fun cdv A outer s H vs Q E hr hq h => ?_)
  · obtain ⟨_, _, _, _, _, _, rfl, _⟩ := h
    rfl
  · obtain ⟨B, D, b, p, l, xs, rfl, hB, hL, ok, e0, e8, w0, w8, ln, k⟩ := h
    refine ⟨_, PSs.nox (pss_cons (ps_set (i := 4) sc_book_is.nd rfl (Or.inl rfl) (pe_lst (pa_cons (pe_prp p_events (hr.mono (by decide)) (pv 0)) (pa_cons (pe_prp p_witnesses (hr.mono (by decide)) (pv 0)) (pa_cons (pe_prp p_tellings (hr.mono (by decide)) (pv 0)) (pa_cons (pe_prp p_gaps (hr.mono (by decide)) (pv 0)) (pa_cons (pe_prp p_sure (hr.mono (by decide)) (pv 0)) (pa_cons (pe_prp p_clauses (hr.mono (by decide)) (pv 0)) pa_nil))))))))
  (pss_one (ps_ret (pe_cmpR (u_eq hr.units) (pe_callB (u_show hq hr.units) rfl T.b.repr_ (by decide +kernel) (pa_cons (pv 4) pa_nil)) (pe_callB (u_show hq hr.units) rfl T.b.repr_ (by decide +kernel) (pa_cons (pe_op u_add (pe_lst (pa_cons (pv 1) (pa_cons (pv 2) pa_nil))) (pe_lc (own := [("_law_items", 5)]) rfl sc_book_is.nd (u_iter (pv 3)) (blkOk_by (own := [("_law_items", 5)]) (N := N_book_is) (sc := defScope s_book_is) (by decide +kernel)) (fun _ _ _ _ _ => (pg_name (i := 5) sc_book_is.nd rfl (Or.inl rfl))) (fun _ _ _ _ _ => pts_nil) (fun _ _ _ _ _ => (pe_callTy (show CallR _ (.type "tuple") (rTuple K) from u_tuple) rfl T.b.tuple_ (by decide +kernel) (pa_cons (pv 5) pa_nil))))) pa_nil)) (nomark _))))), ?_⟩
    have hbk := hB.bk
    have hf := bookD_fine ok e0 e8 w0 w8 ln
    walk_at "el"
    refine n_prp hbk rfl ?_
    walk_at "el"
    refine n_prp hbk rfl ?_
    walk_at "el"
    refine n_prp hbk rfl ?_
    walk_at "el"
    refine n_prp hbk rfl ?_
    walk_at "el"
    refine n_prp hbk rfl ?_
    walk_at "el"
    refine n_prp hbk rfl ?_
    walk_at "el"
    refine ⟨by show 6 ≤ sizeLine; decide, fun m1 hm1 => ?_⟩
    have e1 := nw_of hm1 (.lst [.int B.ev, .int B.wi, .ref B.t, .ref B.g, .ref B.s, .ref B.q])
    have hB1 := hB.same e1
    have hL1 := hL.same e1
    walk_at "el"
    refine .inl ⟨_, bookD D B.ev B.wi, rfl, .lst (SqL.of upd_same) (.cons (.int _) (.cons (.int _) (.cons (.tup hB1.tT (rows_dp (fun q x h => dp_T h) hB1.r.t)) (.cons (.tup hB1.tG (rows_dp (fun q x h => dp_T h) hB1.r.g)) (.cons (.tup hB1.tS (rows_dp (fun q x h => dp_S h) hB1.r.s)) (.cons (.tup hB1.tL (rows_dp (fun q x h => dp_L h) hB1.r.l)) .nil)))))), gd_showable _ hf.good, by have := hf.depth; omega, hf.len, ?_⟩
    generalize upd H m1 (.lst [.int B.ev, .int B.wi, .ref B.t, .ref B.g, .ref B.s, .ref B.q]) = H1 at e1 hL1 ⊢
    clear hB1 hm1
    walk_at "el"
    refine ⟨by show 2 ≤ sizeLine; decide, fun m2 hm2 => ?_⟩
    have e2 := nw_of hm2 (.lst [.int B.ev, .int B.wi])
    have g2 := upd_at hm2 (.lst [.int B.ev, .int B.wi])
    have hL2 := hL1.same e2
    walk_at "el"
    refine a_iSeq (.inl ?_)
    walk_at "el"
    refine ⟨p, rfl, ⟨_, SqL.of hL2.hp⟩, fun D0 hD0 => ?_⟩
    have e3 := nw_of hD0 (.lst [])
    have sw : ∀ {H3 : Hp}, Same (upd H1 m2 (.lst [.int B.ev, .int B.wi])) H3 → Same (upd H1 m2 (.lst [.int B.ev, .int B.wi])) (wo D0 H3) := fun {H3} s a o h => wo_ne (ne_of_none h hD0) (s a o h)
    have pd : ∀ {H3 : Hp}, Same (upd H1 m2 (.lst [.int B.ev, .int B.wi])) H3 → ∀ (i : Nat) (v : V), [V.ref (l .tel), .ref (l .gap), .ref (l .sur), .ref (l .cla)][i]? = some v → ∃ a ys ds, v = .ref a ∧ H3 a = some (.lst ys) ∧ [D.T.map dT, D.G.map dT, D.S.map dS, D.L.map dL][i]? = some ds ∧ DpAll K (wo D0 H3) ys ds := fun {H3} s i v hv => by
      have L3 := hL2.same s
      have R3 := hL2.r.same (sw s)
      rcases i with _ | _ | _ | _ | i <;> cases hv
      · exact ⟨_, _, _, rfl, L3.hl .tel, rfl, rows_dp (fun q x h => dp_T h) R3.t⟩
      · exact ⟨_, _, _, rfl, L3.hl .gap, rfl, rows_dp (fun q x h => dp_T h) R3.g⟩
      · exact ⟨_, _, _, rfl, L3.hl .sur, rfl, rows_dp (fun q x h => dp_S h) R3.s⟩
      · exact ⟨_, _, _, rfl, L3.hl .cla, rfl, rows_dp (fun q x h => dp_L h) R3.l⟩
    refine lc_of (walk_list (xs := [V.ref (l .tel), .ref (l .gap), .ref (l .sur), .ref (l .cla)])) (fun i H3 => Same (upd H1 m2 (.lst [.int B.ev, .int B.wi])) H3 ∧ ∃ ws, H3 D0 = some (.lst ws) ∧ ws.length = i ∧ DpAll K (wo D0 H3) ws (([D.T.map dT, D.G.map dT, D.S.map dS, D.L.map dL].take i).map PyData.tuple)) ⟨e3, [], upd_same, rfl, .nil⟩ (fun i H3 hi h => SqL.of (h.1 _ _ hL2.hp)) ?_ ?_
    · rintro i x H3 H4 hi ⟨s3, ws, hD3, hwl, hwd⟩ ⟨rfl, hxi⟩
      obtain ⟨a, ys, ds, rfl, ha, hds, dp⟩ := pd s3 i x hxi
      walk_at "el"
      refine ⟨rfl, ?_⟩
      walk_at "el"
      refine ⟨a, ys, rfl, .inl ⟨SqL.of ha, fun r hr0 => ?_⟩⟩
      have e4 := nw_of hr0 (.tup ys)
      have ne : r ≠ D0 := fun z => by subst z; rw [hD3] at hr0; cases hr0
      have w4 : Same (wo D0 H4) (wo D0 (upd (upd H4 r (.tup ys)) D0 (.lst (ws ++ [.ref r])))) := wo_kp ((same_kp e4).trans (Kp.bag (Kp.refl D0 _)))
      refine ⟨ws, e4 _ _ hD3, by rw [hwl]; exact Nat.lt_of_lt_of_le hi (by show 4 ≤ sizeLine; decide), (L2.Same.nw s3 hr0).mu hD0, ws ++ [.ref r], upd_same, by rw [List.length_append, hwl]; rfl, ?_⟩
      rw [List.take_add_one, hds, List.map_append]
      refine dp_app (dp_sameAll w4 _ _ hwd) (.cons (.tup (SqT.of (wo_ne ne ?_)) (dp_sameAll w4 _ _ dp)) .nil)
      rw [upd_ne ne]
      exact upd_same
    · rintro H3 ⟨s3, ws, hD3, hwl, hwd⟩
      have hw4 : DpAll K H3 ws [.tuple (D.T.map dT), .tuple (D.G.map dT), .tuple (D.S.map dS), .tuple (D.L.map dL)] := dp_sameAll wo_same _ _ hwd
      walk_at "el"
      refine n_cat (s3 _ _ g2) hD3 (by rw [hwl]; show 2 + 4 ≤ sizeLine; decide) fun r hr0 => ?_
      have e5 := nw_of hr0 (.lst ([.int B.ev, .int B.wi] ++ ws))
      walk_at "el"
      refine .inl ⟨_, bookD D B.ev B.wi, rfl, .lst (SqL.of upd_same) (.cons (.int _) (.cons (.int _) (dp_sameAll e5 _ _ hw4))), gd_showable _ hf.good, by have := hf.depth; omega, hf.len, ?_⟩
      walk_at "el"
      rw [decide_eq_true rfl]
      exact k _ (fun a o h => e5 a o (s3 _ _ (e2 _ _ (e1 _ _ h))))
end
end EL

/- part X -/
namespace EL
open PySem PySem.Spec PyProof.Rows L2
open PySem.W (Frag)
abbrev s_Wrong_init : Stmt := inClass (top 3) 0
abbrev N_Wrong_init : List Str := ["self", "place"]
theorem sc_Wrong_init : FnScope N_Wrong_init ["self", "place"] (defScope s_Wrong_init) := ⟨rfl, rfl, rfl, by decide +kernel, rfl, by decide +kernel, by decide +kernel⟩
abbrev s_BadItem_init : Stmt := inClass (top 4) 0
abbrev N_BadItem_init : List Str := ["self", "place", "index"]
theorem sc_BadItem_init : FnScope N_BadItem_init ["self", "place", "index"] (defScope s_BadItem_init) := ⟨rfl, rfl, rfl, by decide +kernel, rfl, by decide +kernel, by decide +kernel⟩
abbrev s_TooMany_init : Stmt := inClass (top 5) 0
abbrev N_TooMany_init : List Str := ["self", "limit"]
theorem sc_TooMany_init : FnScope N_TooMany_init ["self", "limit"] (defScope s_TooMany_init) := ⟨rfl, rfl, rfl, by decide +kernel, rfl, by decide +kernel, by decide +kernel⟩
local macro_rules | `(tactic| walk_at "el1") => `(tactic| with_reducible first
  | refine a_sasg ?_ | refine a_sdrop ?_ | refine a_saugS ?_ | refine a_spar ?_ | refine a_seq ?_ | refine a_asg ?_ | refine a_drop ?_ | refine a_ret ?_ | refine a_if ?_ | refine a_next ?_
  | refine a_op ?_ | refine a_cons ?_ | refine a_nil ?_ | refine a_cb ?_ | refine a_call ?_ | refine a_c ?_ | refine a_gn ?_ | refine a_nx ?_ | refine a_rt ?_ | refine a_un ?_
  | refine a_test ?_ | refine a_B ?_ | refine a_bl ?_ | refine a_and ?_ | refine a_or ?_ | refine a_not ?_ | refine a_andV ?_ | refine a_orV ?_ | refine a_notV ?_ | refine a_ifx ?_ | refine a_chain ?_
  | refine a_nT ?_ | refine a_nF ?_ | refine a_fld ?_ | refine a_getF ?_ | refine a_T ?_ | refine a_F ?_ | refine a_tup ?_ | refine a_lst ?_ | refine a_sub ?_ | refine a_augS ?_ | refine a_two ?_ | refine a_I0 ?_ | refine a_U ?_ | refine n_add ?_ | refine n_int ?_ | refine n_ib ?_ | refine a_ip ?_ | refine a_rng1 ?_ | refine a_rng2 ?_ | refine a_bm ?_ | refine a_abs ?_ | refine a_pairs ?_ | refine a_pairs0 ?_ | refine a_bk ?_ | refine a_prp ?_ | refine a_lc ?_ | refine a_yes ?_ | refine a_sl ?_ | refine a_nop ?_ | refine a_prt ?_ | refine a_ex1 ?_ | refine a_for ?_ | refine a_sfor ?_ | refine a_iE1 ?_ | refine a_iEs ?_ | refine a_iEz ?_ | refine a_iEnum ?_ | refine a_iTup ?_ | refine a_iList ?_ | refine a_gcons ?_ | refine a_gnil ?_ | refine a_revT ?_ | refine a_spar3 ?_ | refine a_par3 ?_ | refine a_three ?_)
local macro_rules | `(tactic| walk_at "el2") => `(tactic| first
  | (refine a_var (by rfl) ?_)
  | (refine n_ixL (SqL.of (by assumption)) (by rfl) ?_) | (refine n_ixT (SqT.of (by assumption)) (by rfl) ?_) | (refine n_eq (by rfl) ?_) | (refine n_ne (by rfl) ?_)
  | (refine n_isN ?_) | (refine n_notN ?_) | (refine n_isB ?_) | (refine n_notB ?_) | (refine n_isBI ?_) | (refine n_notBI ?_) | (refine n_len (.inl (SqL.of (by assumption))) ?_) | (refine n_len (.inr (SqT.of (by assumption))) ?_)
  | (refine a_getL (SqL.of (by assumption)) (by rfl) ?_)
  | (refine n_isInt (by assumption) ?_) | (refine n_isBool (by assumption) ?_) | (refine n_isStr (by assumption) ?_) | (refine n_isTup (by assumption) ?_) | (refine n_isLst (by assumption) ?_))
local macro_rules | `(tactic| walk_at "el") => `(tactic| repeat (first | walk_at "el1" | walk_at "el2"))

/-! ### errors that keep what they were made of -/
def spErr1 (C : Addr) (fld : Str) : Sp := fun vs H Q _ => ∃ (a : Addr) (y : V), vs = [.ref a, y] ∧ H a = some (exo a C none) ∧ ∀ dx, H dx = none → dx ≠ a → Q .non (upd (upd H dx (exd dx [(fld, y)])) a (exo a C (some dx)))
def spErr2 (C : Addr) (f1 f2 : Str) : Sp := fun vs H Q _ => ∃ (a : Addr) (y z : V), vs = [.ref a, y, z] ∧ H a = some (exo a C none) ∧ ∀ dx, H dx = none → dx ≠ a → Q .non (upd (upd (upd H dx (exd dx [(f1, y)])) a (exo a C (some dx))) dx (exd dx [(f2, z), (f1, y)]))
theorem err_heap {H : Hp} {a d C : Addr} {e1 e2 : HO} (ha : H a = none) (hd : d ≠ a) (fs : List (Str × V)) : upd (del (upd (upd (upd H a e1) d e2) a (exo a C (some d))) a) d (.xd fs) = upd H d (.xd fs) := by
  funext b
  by_cases e : b = d
  · subst e
    rw [upd_same, upd_same]
  · rw [upd_ne e, upd_ne e]
    by_cases z : b = a
    · subst z
      show (if b = b then none else _) = _
      rw [if_pos rfl, ha]
    · show (if b = a then none else _) = _
      rw [if_neg z, upd_ne z, upd_ne e, upd_ne z]
/-- what the making of an error asks -/
def ErrR (C : Addr) (sp : Sp) (vs : List V) (H1 : Hp) (Q : XK) : Prop := vs.length ≤ 1000 ∧ ∀ a : Addr, H1 a = none → sp (.ref a :: (vs ++ [])) (upd H1 a (exo a C none)) (fun v H2 => v = .non ∧ ∃ (d : Addr) (fs : List (Str × V)), H2 a = some (exo a C (some d)) ∧ H2 d = some (exd d fs) ∧ H1 d = none ∧ Q (.ref C) (some d) (upd (del H2 a) d (.xd fs))) (fun _ _ _ => False)
def tRz (C : Addr) (sp : Sp) (ta : TA) (W : WX) : TS := fun _ σ H => ta σ H fun vs H1 => ErrR C sp vs H1 fun cls d H' => W cls d σ H'
theorem a_rz {C : Addr} {sp : Sp} {ta : TA} {W : WX} {D : Ends} {σ : L2.St} {H : Hp} (q : ta σ H fun vs H1 => ErrR C sp vs H1 fun cls d H' => W cls d σ H') : tRz C sp ta W D σ H := q
theorem n_err1 {C : Addr} {fld : Str} {y : V} {H : Hp} {Q : XK} (q : ∀ d, H d = none → Q (.ref C) (some d) (upd H d (.xd [(fld, y)]))) : ErrR C (spErr1 C fld) [y] H Q := by
  refine ⟨by show 1 ≤ 1000; decide, fun a ha => ⟨a, y, rfl, upd_same, fun d hd ne => ⟨rfl, d, [(fld, y)], upd_same, by rw [upd_ne ne]; exact upd_same, (nn hd).2, ?_⟩⟩⟩
  rw [err_heap ha ne]
  exact q d (nn hd).2
theorem err_heap2 {H : Hp} {a d C : Addr} {e1 e2 e3 : HO} (ha : H a = none) (hd : d ≠ a) (fs : List (Str × V)) : upd (del (upd (upd (upd (upd H a e1) d e2) a (exo a C (some d))) d e3) a) d (.xd fs) = upd H d (.xd fs) := by
  funext b
  by_cases e : b = d
  · subst e
    rw [upd_same, upd_same]
  · rw [upd_ne e, upd_ne e]
    by_cases z : b = a
    · subst z
      show (if b = b then none else _) = _
      rw [if_pos rfl, ha]
    · show (if b = a then none else _) = _
      rw [if_neg z, upd_ne e, upd_ne z, upd_ne e, upd_ne z]
theorem n_err2 {C : Addr} {f1 f2 : Str} {y z : V} {H : Hp} {Q : XK} (q : ∀ d, H d = none → Q (.ref C) (some d) (upd H d (.xd [(f2, z), (f1, y)]))) : ErrR C (spErr2 C f1 f2) [y, z] H Q := by
  refine ⟨by show 2 ≤ 1000; decide, fun a ha => ⟨a, y, z, rfl, upd_same, fun d hd ne => ⟨rfl, d, [(f2, z), (f1, y)], by rw [upd_ne ne.symm]; exact upd_same, upd_same, (nn hd).2, ?_⟩⟩⟩
  rw [err_heap2 ha ne]
  exact q d (nn hd).2
structure ErrG (P : Program) (w : World) (K : Frag) (mg : Str → Option Value) (base : Heap) (x : Str) (C : Addr) (ps : List Str) (sp : Sp) : Prop where
  ex : ∃ fI fd, PySem.W.findIn K (.ref C) "__init__" = some (some (.ref fI)) ∧ PySem.W.typeIn K (.ref fI) = some (.type "function") ∧ FnOk P w K mg base CX0 1 fI fd ps sp ∧ L2.Binds K fd ps []
  o : OexC K C
  g : mg x = some (.ref C)
theorem ps_rz {X : Cx} {W : WX} {x : Str} {C : Addr} {ps : List Str} {sp : Sp} {e : Expr} {es : List Expr} {ta : TA} {p pos pos' : Pos} (G : ErrG X.prog X.w X.K X.mg X.base x C ps sp) (hr : Room 2 X.A) (hc : X.calm = true) (tk : Takes X W) (ha : PA X (e :: es) ta)
    (hg : Gl X x := by rfl) (hb : (x == ("__debug__" : Str)) = false := by decide) (he : starEach (e :: es) X.env = (false, eval e X.env) :: starEach es X.env := by rfl) (hpl : (backTo pos (starEach es X.env)).any (·.1) = false := by rfl) :
    PS X (.Raise (some (.Call (.Name x p) (e :: es) [] pos)) none pos') (tRz C sp ta W) := by
  obtain ⟨fI, fd, i, t, F, b⟩ := G.ex
  exact ps_raise hc tk (pmk_oex (pos := pos) (p := p) G.o i t F hr b .nil pass0 hg G.g ha hb he hpl)
/-! ### errors on their way through a call -/
theorem passE {X : Cx} {E : XK} (tk : Takes X fun cls d _ H => E cls d H) : Passes (L2.CX X.prog X.w) X E := fun pins σ H s e s' I hz => passAt tk σ pins H s e s' I hz
theorem pe_calX {X : Cx} {W : WX} {k : Nat} {x : Str} {ps : List Str} {sp : Sp} {p pos : Pos} {e : Expr} {es : List Expr} {t : TA} (C : Cal X.prog X.w X.K X.mg X.base (L2.CX X.prog X.w) k x ps sp) (hr : Room k X.A) (tk : Takes X W) (ha : PA X (e :: es) t)
    (hg : Gl X x := by rfl) (hdb : (x == ("__debug__" : Str)) = false := by decide) (he : starEach (e :: es) X.env = (false, eval e X.env) :: starEach es X.env := by rfl) (hpl : (backTo pos (starEach es X.env)).any (·.1) = false := by rfl) :
    PE X (.Call (.Name x p) (e :: es) [] pos) (tCallS sp (WE W) t) := by
  obtain ⟨f, fd, h1, h2, h3, h4⟩ := C.ex
  exact pe_callS h4 hr hg h1 h2 h3 (fun σ => passAt tk σ) ha hdb he hpl
section
variable {P : Program} {w : World} {K : Frag} {mg : Str → Option Value} {base : Heap} {f C aForms aParts : Addr} {fd : FuncData}
theorem ok_Wrong (F : Fun K "__init__" "Wrong.__init__" s_Wrong_init f fd) (O : OexC K C) (n : PySem.W.findIn K (.ref C) "place" = some none) : FnOk P w K mg base CX0 1 f fd ["self", "place"] (spErr1 C "place") := by
  refine F.ok sc_Wrong_init (fun vs H Q E h => ?_) (fun cdv A outer s H vs Q E hr h => ?_)
  · obtain ⟨_, _, rfl, _⟩ := h
    rfl
  · obtain ⟨a, y, rfl, ha, k⟩ := h
    refine ⟨_, (pss_one (ps_ost (pv 0) (pv 1))), ?_⟩
    walk_at "el"
    refine ⟨a, C, rfl, O, n, .inl ⟨ha, fun dx hd ne => ?_⟩⟩
    walk_at "el"
    exact k dx hd ne
theorem ok_TooMany (F : Fun K "__init__" "TooMany.__init__" s_TooMany_init f fd) (O : OexC K C) (n : PySem.W.findIn K (.ref C) "limit" = some none) : FnOk P w K mg base CX0 1 f fd ["self", "limit"] (spErr1 C "limit") := by
  refine F.ok sc_TooMany_init (fun vs H Q E h => ?_) (fun cdv A outer s H vs Q E hr h => ?_)
  · obtain ⟨_, _, rfl, _⟩ := h
    rfl
  · obtain ⟨a, y, rfl, ha, k⟩ := h
    refine ⟨_, (pss_one (ps_ost (pv 0) (pv 1))), ?_⟩
    walk_at "el"
    refine ⟨a, C, rfl, O, n, .inl ⟨ha, fun dx hd ne => ?_⟩⟩
    walk_at "el"
    exact k dx hd ne
theorem ok_BadItem (F : Fun K "__init__" "BadItem.__init__" s_BadItem_init f fd) (O : OexC K C) (n : PySem.W.findIn K (.ref C) "place" = some none) (n2 : PySem.W.findIn K (.ref C) "index" = some none) : FnOk P w K mg base CX0 1 f fd ["self", "place", "index"] (spErr2 C "place" "index") := by
  refine F.ok sc_BadItem_init (fun vs H Q E h => ?_) (fun cdv A outer s H vs Q E hr h => ?_)
  · obtain ⟨_, _, _, rfl, _⟩ := h
    rfl
  · obtain ⟨a, y, z, rfl, ha, k⟩ := h
    refine ⟨_, (pss_cons (ps_ost (pv 0) (pv 1))
  (pss_one (ps_ost (pv 0) (pv 2)))), ?_⟩
    walk_at "el"
    refine ⟨a, C, rfl, O, n, .inl ⟨ha, fun dx hd ne => ?_⟩⟩
    walk_at "el"
    refine ⟨a, C, rfl, O, n2, .inr ⟨dx, [("place", y)], upd_same, by rw [upd_ne ne]; exact upd_same, by show 1 ≤ 900; decide, ?_⟩⟩
    walk_at "el"
    exact k dx hd ne
/-- items that are looked at: the error of the first that is none -/
def spCiX (K : Frag) (CT CB : Addr) : Sp := fun vs H Q E => ∃ (n : Int) (p : Pt) (a : Addr) (xs : List V) (ev wi : Int), vs = [.int n, .str p.name, .ref a, .int ev, .int wi] ∧ SqA K H a xs ∧ (∀ x ∈ xs, Th K H x ∧ ∀ (q : Addr) (ys : List V), x = .ref q → H q = some (.tup ys) → ∀ y ∈ ys, Th K H y) ∧
  (24 < xs.length → ∀ d, H d = none → E (.ref CT) (some d) (upd H d (.xd [("limit", .int 24)]))) ∧
  (xs.length ≤ 24 → (∀ x ∈ xs, ItemOk p H x ev wi) → ∀ H', Same H H' → Q .non H') ∧
  (xs.length ≤ 24 → ∀ i x, xs[i]? = some x → (∀ (j : Nat) y, j < i → xs[j]? = some y → ItemOk p H y ev wi) → ¬ ItemOk p H x ev wi → ∀ H' d, Same H H' → H' d = none → E (.ref CB) (some d) (upd H' d (.xd [("index", .int i), ("place", .int n)])))
theorem ItemOk.back {K : Frag} {p : Pt} {H H' : Hp} {x : V} {ev wi : Int} (h : ItemOk p H' x ev wi) (th : Th K H x) (s : Same H H') : ItemOk p H x ev wi := by
  obtain ⟨a, xs, rfl, ha, hl, hs⟩ := h
  refine ⟨a, xs, rfl, ?_, hl, hs⟩
  have go : ∀ u, H a = some u → H a = some (.tup xs) := fun u hu => by
    have q := s _ _ hu
    rw [ha] at q
    rw [hu, ← q]
  cases th with
  | lst h => exact go _ h
  | tup h => exact go _ h
  | dct h => exact go _ h
  | ins h c => exact go _ h
  | dtt h => exact go _ h
theorem th_at {K : Frag} {H H' : Hp} {xs : List V} {x : V} (th : ∀ x ∈ xs, Th K H x ∧ ∀ (q : Addr) (ys : List V), x = .ref q → H q = some (.tup ys) → ∀ y ∈ ys, Th K H y) (s : Same H H') (hx : x ∈ xs) {q : Addr} {ys : List V} (e : x = .ref q) (hq : H' q = some (.tup ys)) : ∀ y ∈ ys, Th K H' y := by
  obtain ⟨t1, t2⟩ := th x hx
  have go : ∀ u, H q = some u → H q = some (.tup ys) := fun u hu => by
    have w := s _ _ hu
    rw [hq] at w
    rw [hu, ← w]
  intro y hy
  subst e
  have h0 : H q = some (.tup ys) := by
    cases t1 with
    | lst h => exact go _ h
    | tup h => exact go _ h
    | dct h => exact go _ h
    | ins h c => exact go _ h
    | dtt h => exact go _ h
  exact (t2 q ys rfl h0 y hy).same s
theorem ok_check_itemsX {CT CB : Addr} (F : Fun K "_check_items" "_check_items" s__check_items f fd) (T : BoT K w mg aForms aParts) (c_is_item : Cal P w K mg base CX0 5 "is_item" ["part", "thing", "events", "witnesses"] (spItem K))
    (c_TooMany : ErrG P w K mg base "TooMany" CT ["self", "limit"] (spErr1 CT "limit")) (c_BadItem : ErrG P w K mg base "BadItem" CB ["self", "place", "index"] (spErr2 CB "place" "index")) :
    FnOk P w K mg base (L2.CX P w) 6 f fd ["place", "part", "items", "events", "witnesses"] (spCiX K CT CB) := by
  refine F.okX sc__check_items (fun vs H Q E h => ?_) (fun cdv A outer s H vs Q E hr h => ?_)
  · obtain ⟨_, _, _, _, _, _, rfl, _⟩ := h
    rfl
  · obtain ⟨n, p, a, xs, ev, wi, rfl, ha, th, k0, k1, k2⟩ := h
    refine ⟨_, (pss_cons (ps_if (pt_cmpR op_gt (pe_callB u_len rfl T.b.len_ boot_len (pa_cons (pv 2) pa_nil)) (pe_gc (v := .int 24) rfl T.k_MOST_ITEMS) (nomark _))
    (pss_one (ps_rz c_TooMany (hr.mono (by decide)) rfl (takes_of rfl rfl rfl rfl) (pa_cons (pe_gc (v := .int 24) rfl T.k_MOST_ITEMS) pa_nil)))
    pss_nil)
  (pss_one (ps_for (passes_of rfl) rfl (PI.alt (pi_enum rfl T.b.enumerate_ (pa_cons (pv 2) pa_nil)) (pi_e1 rfl T.b.enumerate_ (pa_cons (pv 2) pa_nil))) (pg_tup rfl (pgs_cons (pg_name (i := 5) sc__check_items.nd rfl (Or.inl rfl)) (pgs_cons (pg_name (i := 6) sc__check_items.nd rfl (Or.inl rfl)) pgs_nil)))
    (pss_one (ps_if (pt_not (pt_val (pe_cal c_is_item (hr.mono (by decide)) pass0 (pa_cons (pv 1) (pa_cons (pv 6) (pa_cons (pv 3) (pa_cons (pv 4) pa_nil)))))))
    (pss_one (ps_rz c_BadItem (hr.mono (by decide)) rfl (takes_of rfl rfl rfl rfl) (pa_cons (pv 0) (pa_cons (pv 5) pa_nil))))
    pss_nil))))), ?_⟩
    walk_at "el"
    refine n_len ha.len ?_
    walk_at "el"
    refine ite2 (fun h0 => ?_) (fun h0 => ?_)
    · walk_at "el"
      refine a_rz ?_
      walk_at "el"
      refine n_err1 fun d hd => ?_
      have q : (xs.length : Int) > 24 := by simpa using h0
      exact k0 (by omega) d hd
    · have hl : xs.length ≤ 24 := by
        have q : ¬ (xs.length : Int) > 24 := by simpa using h0
        omega
      walk_at "el"
      rcases ha with ha | ha
      · refine Or.inl ?_
        walk_at "el"
        refine ⟨a, xs, rfl, SqL.of ha, ?_⟩
        refine lp_it walk_enum (fun i σ H3 => Same H H3 ∧ (∀ (j : Nat) y, j < i → xs[j]? = some y → ItemOk p H y ev wi) ∧ ∃ v3 v4, σ = [some (.int n), some (.str p.name), some (.ref a), some (.int ev), some (.int wi), v3, v4]) ⟨Same.refl _, fun j y h => absurd h (Nat.not_lt_zero j), _, _, rfl⟩ (fun i σ H3 hi h => SqL.of (h.1 _ _ ha)) ?_ ?_
        · rintro i x σ H3 H4 hi ⟨s3, hok, v3, v4, rfl⟩ ⟨r, _, y, rfl, hr, rfl, ei, hy⟩
          cases ei
          have hy : xs[i]? = some y := hy
          have s4 := L2.Same.nw (o := .tup [.int i, y]) s3 hr
          obtain ⟨t1, t2⟩ := th y (List.mem_of_getElem? hy)
          refine a_gtup (SqT.of upd_same) rfl ?_
          walk_at "el"
          refine ⟨p, y, ev, wi, rfl, t1.same s4, ?_, fun H5 b s5 hb => ?_⟩
          · exact fun q ys e hq z hz => th_at th s4 (List.mem_of_getElem? hy) e hq z hz
          · cases b with
            | true =>
              walk_at "el"
              refine ⟨s4.trans s5, fun j z hj hz => ?_, _, _, rfl⟩
              by_cases e : j = i
              · subst e
                rw [hy] at hz
                cases hz
                exact (hb.mp rfl).back t1 s4
              · exact hok j z (by omega) hz
            | false =>
              walk_at "el"
              refine a_rz ?_
              walk_at "el"
              refine n_err2 fun d hd => ?_
              exact k2 hl i y hy hok (fun z => by have q := hb.mpr (z.same s4); cases q) H5 d (s4.trans s5) hd
        · rintro σ H3 ⟨s3, hok, v3, v4, rfl⟩
          walk_at "el"
          exact k1 hl (fun x hx => by
            obtain ⟨j, hj, rfl⟩ := List.getElem_of_mem hx
            exact hok j _ hj (List.getElem?_eq_getElem hj)) _ s3
      · refine Or.inr ?_
        walk_at "el"
        refine ⟨a, xs, rfl, ha, ?_⟩
        refine lp_it walk_es (fun i σ H3 => Same H H3 ∧ (∀ (j : Nat) y, j < i → xs[j]? = some y → ItemOk p H y ev wi) ∧ ∃ v3 v4, σ = [some (.int n), some (.str p.name), some (.ref a), some (.int ev), some (.int wi), v3, v4]) ⟨Same.refl _, fun j y h => absurd h (Nat.not_lt_zero j), _, _, rfl⟩ (fun i σ H3 hi h => ha.same h.1) ?_ ?_
        · rintro i x σ H3 H4 hi ⟨s3, hok, v3, v4, rfl⟩ ⟨r, y, rfl, hr, rfl, hy⟩
          have s4 := L2.Same.nw (o := .tup [.int ((0 : Int) + i), y]) s3 hr
          obtain ⟨t1, t2⟩ := th y (List.mem_of_getElem? hy)
          refine a_gtup (SqT.of upd_same) rfl ?_
          walk_at "el"
          refine ⟨p, y, ev, wi, rfl, t1.same s4, ?_, fun H5 b s5 hb => ?_⟩
          · exact fun q ys e hq z hz => th_at th s4 (List.mem_of_getElem? hy) e hq z hz
          · cases b with
            | true =>
              walk_at "el"
              refine ⟨s4.trans s5, fun j z hj hz => ?_, _, _, rfl⟩
              by_cases e : j = i
              · subst e
                rw [hy] at hz
                cases hz
                exact (hb.mp rfl).back t1 s4
              · exact hok j z (by omega) hz
            | false =>
              walk_at "el"
              refine a_rz ?_
              walk_at "el"
              refine n_err2 fun d hd => ?_
              rw [Int.zero_add]
              exact k2 hl i y hy hok (fun z => by have q := hb.mpr (z.same s4); cases q) H5 d (s4.trans s5) hd
        · rintro σ H3 ⟨s3, hok, v3, v4, rfl⟩
          walk_at "el"
          exact k1 hl (fun x hx => by
            obtain ⟨j, hj, rfl⟩ := List.getElem_of_mem hx
            exact hok j _ hj (List.getElem?_eq_getElem hj)) _ s3
end
end EL

/- part XC -/
/-! a caught error that keeps fields: isinstance of it, its fields; the class told by the reading -/
namespace EL
open PySem PySem.Spec PyProof.Rows L2
open PySem.W (Frag)
def rIsX (K : Frag) (a : Addr) (cls : Value) (d : Option Addr) : List V → Hp → VK → Prop := fun xs H Q => ∃ (D : Addr) (c : V) (cv : Value) (b : Bool) (dd : Addr) (fs : List (Str × V)), xs = [.ref a, c] ∧ cls = .ref D ∧ ExcC K D ∧ d = some dd ∧ H dd = some (.xd fs) ∧ (∀ u, RelV c u → u = cv) ∧ PySem.W.kitOne K (.ref D) cv = some b ∧ Q (.bl b) H
theorem call_isX {X : Cx} {a : Addr} {oe : Obj} {cls : Value} {d : Option Addr} {pn : List (Addr × Obj)} (hz : Zc cls d oe) (hf : ∃ vs, oe.data = .fields vs) : CallR (X.suite a ((a, oe) :: pn)) (.builtin "isinstance") (rIsX X.K a cls d) := by
  intro pins s σ H xs us Q I r h
  obtain ⟨D, c, cv, b, dd, fs, rfl, ecl, C, ed, ea, hcv, e, q⟩ := h
  cases r with
  | cons rx rr =>
    cases rr with
    | cons rt rr =>
      cases rr
      cases rx
      have ec := hcv _ rt
      subst ec
      subst ecl
      subst ed
      obtain ⟨hget, _⟩ := I.pin (a, oe) (List.mem_append.mpr (.inl List.mem_cons_self))
      obtain ⟨vs, hv⟩ := hf
      have hx : ObjOk X.prog X.w H s.heap dd (.xd fs) := I.hok dd _ ea
      obtain ⟨mA, hns, hr⟩ := hx
      obtain ⟨od, ho, hl⟩ := lookIn_ns hns
      have J : PySem.W.InstAt s.heap a oe D (some od) := ⟨hget, hz.1, by unfold PySem.W.notCls; rw [hv] <;> rfl, by rw [hz.2]; exact ho⟩
      have hcl : (PySem.W.clsIn X.K D).isSome = true := by
        obtain ⟨cd, hc, _⟩ := PySem.W.any_some C.hd
        rw [hc]; rfl
      exact PySem.W.kia_one (PySem.W.kitx_exc hcl C.hg C.hk C.hs C.ha C.hn C.ht C.hm) I.kIn J e (fun z => nomatch z) fun tk => ⟨.bl b, H, I.kept (t' := tk) fun _ _ z => z, rfl, q⟩
/-- the reading of e.f: a the caught error, cls its class, d its dict -/
def tXfR (K : Frag) (a : Addr) (cls : Value) (d : Option Addr) (f : Str) (te : TE) : TE := fun σ H Q => te σ H fun x H1 => x = .ref a ∧ ∃ (C dd : Addr) (fs : List (Str × V)) (v : V), cls = .ref C ∧ XfC K C ∧ PySem.W.findIn K (.ref C) f = some none ∧ d = some dd ∧ H1 dd = some (.xd fs) ∧ fs.lookup f = some v ∧ Q v H1
theorem pe_xfR {X : Cx} {a : Addr} {oe : Obj} {cls : Value} {d : Option Addr} {pn : List (Addr × Obj)} {e : Expr} {te : TE} {pos : Pos} {n : Str}
    (hz : Zc cls d oe) (hf : ∃ vs, oe.data = .fields vs) (he : PE (X.suite a ((a, oe) :: pn)) e te) (hb : attributeBase e n X.env (eval e X.env) = eval e X.env := by rfl) :
    PE (X.suite a ((a, oe) :: pn)) (.Attribute e n pos) (tXfR X.K a cls d n te) := by
  refine ⟨fun pins s σ H Q I h => ?_⟩
  refine attr_of hb (thn (he.run pins s σ H _ I h) fun u s1 hh => ?_)
  obtain ⟨x, H1, I1, rx, ex, C, dd, fs, v, ec, T, hno, ed, ea, l, q⟩ := hh
  subst ex
  obtain rfl : u = Value.ref a := rx
  subst ec
  subst ed
  obtain ⟨ha, _⟩ := I1.pin (a, oe) (List.mem_append_left _ List.mem_cons_self)
  obtain ⟨vs, hd⟩ := hf
  have hx : ObjOk X.prog X.w H1 s1.heap dd (.xd fs) := I1.hok dd _ ea
  obtain ⟨mA, hns, hr⟩ := hx
  obtain ⟨od, ho, hl⟩ := lookIn_ns hns
  obtain ⟨u, hu, ru⟩ := RelO.some_of (v := v) (o := mA n) (by rw [← l]; exact hr n)
  have J : PySem.W.InstAt s1.heap a oe C (some od) := ⟨ha, hz.1, by unfold PySem.W.notCls; rw [hd] <;> rfl, by rw [hz.2]; exact ho⟩
  exact HandSPX.exc_get I1.kIn J T.ga T.gg T.exC (PySem.W.findObj_own T.hdC hno rfl (by rw [hl, hu])) (handed_of ru) ⟨v, H1, I1.tok _, ru, q⟩
theorem a_xfR {K : Frag} {a : Addr} {cls : Value} {d : Option Addr} {f : Str} {te : TE} {σ : L2.St} {H : Hp} {Q : VK} (q : te σ H fun x H1 => x = .ref a ∧ ∃ (C dd : Addr) (fs : List (Str × V)) (v : V), cls = .ref C ∧ XfC K C ∧ PySem.W.findIn K (.ref C) f = some none ∧ d = some dd ∧ H1 dd = some (.xd fs) ∧ fs.lookup f = some v ∧ Q v H1) : tXfR K a cls d f te σ H Q := q
end EL

/- part DT -/
/-! a display of one pair whose key is a tuple: {(a, b, ..): v} -/
namespace EL
open PySem PySem.Spec PyProof.Rows L2
open PySem.W (Frag)
def tDisp1T (tk tv : TE) : TE := fun σ H Q => ∀ p, H p = none → tk σ (upd H p (.dT [])) fun x H1 => tv σ H1 fun y H2 => H2 p = some (.dT []) ∧ ∃ (ks : List Key) (q : Addr), x = .ref q ∧ H2 q = some (.tup (ks.map kV)) ∧ Q (.ref p) (upd H2 p (.dT [(ks, y)]))
theorem pe_disp1T {X : Cx} {pos : Pos} {k v : Expr} {tk tv : TE} (hu : X.A.units + 1 < cLine) (hk : PE X k tk) (hv : PE X v tv) : PE X (.Dict [some k] [v] pos) (tDisp1T tk tv) := by
  refine ⟨fun pins s σ H Q I q => ?_⟩
  have new := I.hok.fresh (Nat.le_refl s.heap.objs.size)
  have I1 := I.laid (a := s.heap.objs.size) (o := .dT []) (h' := s.heap.push { cls := .type "dict", data := .dict #[] }) (t' := s.toks) (fun _ _ e => Heap.get?_push_of_some _ e) (Nat.le_refl _) (dt_empty s.heap I.big)
  refine wpAny_Dict_any rfl rfl (fun z => nomatch z) (by show 1 ≤ 15; decide) (thn ((pps_cons hk hv pps_nil).run pins _ σ _ (fun ps H2 => match ps with | [(x, y)] => H2 s.heap.objs.size = some (.dT []) ∧ ∃ (ks : List Key) (b : Addr), x = .ref b ∧ H2 b = some (.tup (ks.map kV)) ∧ Q (.ref s.heap.objs.size) (upd H2 s.heap.objs.size (.dT [(ks, y)])) | _ => False) I1 (q _ new)) fun ws s2 hws => ?_)
  obtain ⟨ps, H2, I2, rel, qq⟩ := hws
  match ps, rel, qq with
  | [(x, y)], .cons (b := (kv, vv)) ⟨rk, rv⟩ .nil, ⟨e, ks, b, ex, eb, q2⟩ =>
  subst ex
  cases (show kv = Value.ref b from rk)
  obtain ⟨z, hd, xs, r0, dd⟩ := dt_of I2.hok e
  cases r0
  show wpAny (model X.prog X.w) X.A (storeAll s.heap.objs.size [(Value.ref b, vv)]) _ _ _
  unfold storeAll
  rw [List.forIn_cons]
  refine wpAny_bind (wpAny_bind (wpAny_dictSet_heap (hsz := by show 0 ≤ sizeLine; decide) (show X.A.units < cLine by omega) (key_of I2.hok eb) dd fun h' dd' hs => wpAny_pure ?_))
  show wpAny _ _ (forIn [] PUnit.unit _) _ _ _
  rw [List.forIn_nil]
  refine wpAny_pure ?_
  obtain ⟨o, es, ep, ho, c1, c2, c3, _, c5⟩ := dd'
  have r1 : KT H2 (putK [] ks y) (storedH [] ks b vv) := (KT.put (H := H2) .nil ks eb rv)
  have J := d_write (ob := .dT [(ks, y)]) (t' := s2.toks + (tupleKind (mixKind X.prog X.w)).draws ks) I2 (by rw [e]; exact True.intro) hs ⟨o, ho⟩ ⟨by show 1 ≤ sizeLine; decide, hd, _, r1.keeps fun c ys ec => by rw [upd_ne (ne_of ec e (fun z => nomatch z))]; exact ec, o, es, ep, ho, c1, c2, c3, c5⟩
  exact ⟨.ref s.heap.objs.size, _, J, rfl, q2⟩
end EL

/- part LC -/
/-! xs.count(x) of a list of plain data -/
namespace EL
open PySem PySem.Spec PyProof.Rows L2
open PySem.W (Frag)
def rCntD (K : Frag) : V → List V → Hp → VK → Prop := fun x xs H Q => ∃ (p : Addr) (items : List V) (ds : List PyData) (y : V) (d : PyData), x = .ref p ∧ xs = [y] ∧ SqL K H p items ∧ DpAll K H items ds ∧ Dp K H y d ∧ PyData.plainAll ds = true ∧ d.plain = true ∧ d.depth ≤ 60 ∧ Q (.int ((ds.countP fun z => PyData.eqv z d : Nat) : Int)) H
theorem mt_lcountD {X : Cx} (hu : X.A.units + 64 < cLine) : MtR X "list.count" (rCntD X.K) := by
  intro pins s σ H x xs v us Q I rx rxs h
  obtain ⟨p, items, ds, y, d, rfl, rfl, hs, ha, hd, pl, pd, dl, q⟩ := h
  cases rx
  obtain ⟨u, rfl, ru⟩ := rxs.one
  obtain ⟨as, rd⟩ := Dp.reads I (.list ds) (.ref p) (.ref p) (.lst hs ha) rfl
  obtain ⟨bs, rx⟩ := Dp.reads I d y u hd ru
  cases rd with
  | list h1 h2 h3 h4 => exact PySem.SeqAt.count_list_data ⟨_, h1, h2, _, h3⟩ h4 rx pl pd (by have := Nat.min_le_right (PyData.depthAll ds) d.depth; omega) ⟨.int _, H, I.tok _, ⟨_, rfl⟩, q⟩
end EL

/- part BG -/
namespace EL
open PySem PySem.Spec PyProof.Rows L2
open PySem.W (Frag)
abbrev s_Bookparts_by_name : Stmt := inClass (top 26) 23
abbrev N_Bookparts_by_name : List Str := ["self"]
theorem sc_Bookparts_by_name : FnScope N_Bookparts_by_name ["self"] (defScope s_Bookparts_by_name) := ⟨rfl, rfl, rfl, by decide +kernel, rfl, by decide +kernel, by decide +kernel⟩
abbrev s_Bookwith_parts : Stmt := inClass (top 26) 24
abbrev N_Bookwith_parts : List Str := ["self", "parts"]
theorem sc_Bookwith_parts : FnScope N_Bookwith_parts ["self", "parts"] (defScope s_Bookwith_parts) := ⟨rfl, rfl, rfl, by decide +kernel, rfl, by decide +kernel, by decide +kernel⟩
abbrev s_Book_with_item : Stmt := inClass (top 26) 15
abbrev N_Book_with_item : List Str := ["self", "part", "item"]
theorem sc_Book_with_item : FnScope N_Book_with_item ["self", "part", "item"] (defScope s_Book_with_item) := ⟨rfl, rfl, rfl, by decide +kernel, rfl, by decide +kernel, by decide +kernel⟩
abbrev s_Book_with_gap : Stmt := inClass (top 26) 11
abbrev N_Book_with_gap : List Str := ["self", "a", "b", "g"]
theorem sc_Book_with_gap : FnScope N_Book_with_gap ["self", "a", "b", "g"] (defScope s_Book_with_gap) := ⟨rfl, rfl, rfl, by decide +kernel, rfl, by decide +kernel, by decide +kernel⟩
abbrev s_Book_without : Stmt := inClass (top 26) 17
abbrev N_Book_without : List Str := ["self", "part", "index"]
theorem sc_Book_without : FnScope N_Book_without ["self", "part", "index"] (defScope s_Book_without) := ⟨rfl, rfl, rfl, by decide +kernel, rfl, by decide +kernel, by decide +kernel⟩
abbrev s_Book_items_in : Stmt := inClass (top 26) 16
abbrev N_Book_items_in : List Str := ["self", "part"]
theorem sc_Book_items_in : FnScope N_Book_items_in ["self", "part"] (defScope s_Book_items_in) := ⟨rfl, rfl, rfl, by decide +kernel, rfl, by decide +kernel, by decide +kernel⟩
local macro_rules | `(tactic| walk_at "el1") => `(tactic| with_reducible first
  | refine a_sasg ?_ | refine a_sdrop ?_ | refine a_saugS ?_ | refine a_spar ?_ | refine a_seq ?_ | refine a_asg ?_ | refine a_drop ?_ | refine a_ret ?_ | refine a_if ?_ | refine a_next ?_
  | refine a_op ?_ | refine a_cons ?_ | refine a_nil ?_ | refine a_cb ?_ | refine a_call ?_ | refine a_c ?_ | refine a_gn ?_ | refine a_nx ?_ | refine a_rt ?_ | refine a_un ?_
  | refine a_test ?_ | refine a_B ?_ | refine a_bl ?_ | refine a_and ?_ | refine a_or ?_ | refine a_not ?_ | refine a_andV ?_ | refine a_orV ?_ | refine a_notV ?_ | refine a_ifx ?_ | refine a_chain ?_
  | refine a_nT ?_ | refine a_nF ?_ | refine a_fld ?_ | refine a_getF ?_ | refine a_T ?_ | refine a_F ?_ | refine a_tup ?_ | refine a_lst ?_ | refine a_sub ?_ | refine a_augS ?_ | refine a_two ?_ | refine a_I0 ?_ | refine a_U ?_ | refine n_add ?_ | refine n_int ?_ | refine n_ib ?_ | refine a_ip ?_ | refine a_rng1 ?_ | refine a_rng2 ?_ | refine a_bm ?_ | refine a_abs ?_ | refine a_pairs ?_ | refine a_pairs0 ?_ | refine a_bk ?_ | refine a_prp ?_ | refine a_lc ?_ | refine a_yes ?_ | refine a_sl ?_ | refine a_nop ?_ | refine a_prt ?_ | refine a_ex1 ?_ | refine a_for ?_ | refine a_sfor ?_ | refine a_iE1 ?_ | refine a_iEs ?_ | refine a_iEz ?_ | refine a_iEnum ?_ | refine a_iTup ?_ | refine a_iList ?_ | refine a_gcons ?_ | refine a_gnil ?_ | refine a_revT ?_ | refine a_spar3 ?_ | refine a_par3 ?_ | refine a_three ?_)
local macro_rules | `(tactic| walk_at "el2") => `(tactic| first
  | (refine a_var (by rfl) ?_)
  | (refine n_ixL (SqL.of (by assumption)) (by rfl) ?_) | (refine n_ixT (SqT.of (by assumption)) (by rfl) ?_) | (refine n_eq (by rfl) ?_) | (refine n_ne (by rfl) ?_)
  | (refine n_isN ?_) | (refine n_notN ?_) | (refine n_isB ?_) | (refine n_notB ?_) | (refine n_isBI ?_) | (refine n_notBI ?_) | (refine n_len (.inl (SqL.of (by assumption))) ?_) | (refine n_len (.inr (SqT.of (by assumption))) ?_)
  | (refine a_getL (SqL.of (by assumption)) (by rfl) ?_)
  | (refine n_isInt (by assumption) ?_) | (refine n_isBool (by assumption) ?_) | (refine n_isStr (by assumption) ?_) | (refine n_isTup (by assumption) ?_) | (refine n_isLst (by assumption) ?_))
local macro_rules | `(tactic| walk_at "el") => `(tactic| repeat (first | walk_at "el1" | walk_at "el2"))

/-! ### books made of a book -/
theorem pe_mth0 {X : Cx} {C : Addr} {k : Nat} {m : Str} {ps : List Str} {sp : Sp} {o : Expr} {ta : TE} {pos : Pos} {apos : Pos} {pl : Sem Bool} (G : MthG X.prog X.w X.K X.mg X.base C k m ps sp) (hr : Room k X.A) (hx : Passes CX0 X E0) (he : PE X o ta)
    (ht : eval (.Call (.Attribute o m apos) [] [] pos) X.env = (do
      let ov ← eval o X.env
      standAt apos.atName
      let (f, first) ← holding [ov] (getMethod ov m pl)
      callWith pos f first (backTo pos (starEach [] X.env)) (backToKw pos (keywordEach [] X.env))) := by rfl) :
    PE X (.Call (.Attribute o m apos) [] [] pos) (tMeth C m sp [] E0 ta tNil) := by
  obtain ⟨f, fd, hm, F, hb⟩ := G.ex
  exact pe_meth0 he G.cl hm F hr hb .nil hx ht
theorem a_mth {C : Addr} {m : Str} {sp : Sp} {ta : TE} {t : TA} {σ : L2.St} {H : Hp} {Q : VK} (q : ta σ H fun x H1 => ∃ a dx fs, x = .ref a ∧ H1 a = some (.ins C dx fs) ∧ fs.lookup m = none ∧ t σ H1 fun vs H2 => sp (x :: vs) H2 Q E0) : tMeth C m sp [] E0 ta t σ H Q := by
  show ta σ H fun x H1 => ∃ a dx fs, x = .ref a ∧ H1 a = some (.ins C dx fs) ∧ fs.lookup m = none ∧ t σ H1 fun vs H2 => sp (x :: (vs ++ [])) H2 Q E0
  simpa only [List.append_nil] using q

theorem room1 {k : Nat} {A : Around} (r : Room k A) : A.units + 1 < cLine := by have := r.un; omega
theorem a_disp {trs : List (TE × TE)} {σ : L2.St} {H : Hp} {Q : VK} (q : ∀ p, H p = none → tPairs trs σ (upd H p (.dK [])) fun ps H2 => H2 p = some (.dK []) ∧ ∃ kvs : List (Key × V), ps = kvs.map (fun kv => (kV kv.1, kv.2)) ∧ kvs.length ≤ 15 ∧ Q (.ref p) (upd H2 p (.dK (mergeK [] kvs)))) : tDisp trs σ H Q := q
theorem a_dget {td ty : TE} {σ : L2.St} {H : Hp} {Q : VK} (q : td σ H fun x H1 => ty σ H1 fun y H2 => ∃ a v, x = .ref a ∧ DGet H2 a y (some v) ∧ Q v H2) : tDGet td ty σ H Q := q
abbrev parts4 (a b c d : V) : List (Key × V) := [(.inr "tellings", a), (.inr "gaps", b), (.inr "sure", c), (.inr "clauses", d)]
theorem merge4 {a b c d : V} : mergeK [] (parts4 a b c d) = parts4 a b c d := by
  have n1 : ¬ ("tellings" : Str) = "gaps" := by decide
  have n2 : ¬ ("tellings" : Str) = "sure" := by decide
  have n3 : ¬ ("tellings" : Str) = "clauses" := by decide
  have n4 : ¬ ("gaps" : Str) = "sure" := by decide
  have n5 : ¬ ("gaps" : Str) = "clauses" := by decide
  have n6 : ¬ ("sure" : Str) = "clauses" := by decide
  simp [mergeK, putK, n1, n2, n3, n4, n5, n6]
section
variable {a b c d : V}
theorem get4a : valV (parts4 a b c d) (.inr "tellings") = some a := valV_pos rfl
theorem get4b : valV (parts4 a b c d) (.inr "gaps") = some b := by rw [valV_neg (by intro h; cases h), valV_pos rfl]
theorem get4c : valV (parts4 a b c d) (.inr "sure") = some c := by rw [valV_neg (by intro h; cases h), valV_neg (by intro h; cases h), valV_pos rfl]
theorem get4d : valV (parts4 a b c d) (.inr "clauses") = some d := by rw [valV_neg (by intro h; cases h), valV_neg (by intro h; cases h), valV_neg (by intro h; cases h), valV_pos rfl]
theorem put4b {x : V} : putK (parts4 a b c d) (.inr "gaps") x = parts4 a x c d := by
  have n1 : ¬ ("tellings" : Str) = "gaps" := by decide
  have n4 : ¬ ("sure" : Str) = "gaps" := by decide
  have n5 : ¬ ("clauses" : Str) = "gaps" := by decide
  simp [putK, n1, n4, n5]
end
/-- four texts, told by a function -/
abbrev partsF (φ : Pt → Addr) : List (Key × V) := parts4 (.ref (φ .tel)) (.ref (φ .gap)) (.ref (φ .sur)) (.ref (φ .cla))
def setA (φ : Pt → Addr) (p : Pt) (x : Addr) : Pt → Addr := fun u => if u = p then x else φ u
theorem setA_at {φ : Pt → Addr} {p : Pt} {x : Addr} : setA φ p x p = x := if_pos rfl
theorem setA_ne {φ : Pt → Addr} {p u : Pt} {x : Addr} (h : u ≠ p) : setA φ p x u = φ u := if_neg h
theorem getF (φ : Pt → Addr) (p : Pt) : valV (partsF φ) (.inr p.name) = some (.ref (φ p)) := by
  cases p
  · exact get4a
  · exact get4b
  · exact get4c
  · exact get4d
theorem putF4 (φ : Pt → Addr) (p : Pt) (x : Addr) : putK (partsF φ) (.inr p.name) (.ref x) = partsF (setA φ p x) := by
  have n1 : ¬ ("tellings" : Str) = "gaps" := by decide
  have n2 : ¬ ("tellings" : Str) = "sure" := by decide
  have n3 : ¬ ("tellings" : Str) = "clauses" := by decide
  have n4 : ¬ ("gaps" : Str) = "tellings" := by decide
  have n5 : ¬ ("gaps" : Str) = "sure" := by decide
  have n6 : ¬ ("gaps" : Str) = "clauses" := by decide
  have n7 : ¬ ("sure" : Str) = "tellings" := by decide
  have n8 : ¬ ("sure" : Str) = "gaps" := by decide
  have n9 : ¬ ("sure" : Str) = "clauses" := by decide
  have m1 : ¬ ("clauses" : Str) = "tellings" := by decide
  have m2 : ¬ ("clauses" : Str) = "gaps" := by decide
  have m3 : ¬ ("clauses" : Str) = "sure" := by decide
  cases p <;> simp [putK, setA, Pt.name, n1, n2, n3, n4, n5, n6, n7, n8, n9, m1, m2, m3]
theorem dget4 {H : Hp} {d : Addr} {kvs : List (Key × V)} {s : Str} {v : V} (hd : H d = some (.dK kvs)) (e : valV kvs (.inr s) = some v) : DGet H d (.str s) (some v) := by
  rw [← e]
  exact DGet.k (k := .inr s) hd
theorem n_catS {K : Frag} {H : Hp} {Q : VK} {a b : Addr} {xs ys : List V} (ha : SqT K H a xs) (hb : SqT K H b ys) (z : xs.length + ys.length ≤ sizeLine) (q : ∀ p H', Same H H' → SqT K H' p (xs ++ ys) → Q (.ref p) H') : rAdd K (.ref a) (.ref b) H Q := by
  refine .inr (.inr ⟨a, b, xs, ys, rfl, rfl, ha, hb, z, fun e => ?_, fun e1 e2 => ?_, fun _ _ p hp => q p _ (L2.Same.nw (Same.refl _) hp) (SqT.of upd_same)⟩)
  · subst e
    exact q b H (Same.refl _) hb
  · subst e2
    exact q a H (Same.refl _) (by rw [List.append_nil]; exact ha)
theorem sqT_upd {K : Frag} {H : Hp} {a r : Addr} {xs : List V} {kvs : List (Key × V)} {o : HO} (h : SqT K H a xs) (hr : H r = some (.dK kvs)) : SqT K (upd H r o) a xs := by
  rcases h with (h | ⟨q, h⟩) | h
  · exact .inl (.inl (by rw [upd_ne (fun z => by rw [z, hr] at h; cases h)]; exact h))
  · exact .inl (.inr ⟨q, by rw [upd_ne (fun z => by rw [z, hr] at h; cases h)]; exact h⟩)
  · exact .inr h
theorem n_slS {K : Frag} {H : Hp} {Q : VK} {a : Addr} {xs : List V} {lo hi : Option Int} (ha : SqT K H a xs) (q : ∀ p H', Same H H' → SqT K H' p (cutV xs lo hi) → Q (.ref p) H') : rSlice K (.ref a) lo hi H Q := by
  refine .inr ⟨a, xs, rfl, ha, fun e => ?_, fun _ p hp => q p _ (L2.Same.nw (Same.refl _) hp) (SqT.of upd_same)⟩
  refine q a H (Same.refl _) ?_
  have w : cutV xs lo hi = xs := by
    unfold cutV
    rw [e.1, e.2, List.drop_zero, Nat.sub_zero, List.take_length]
  rw [w]
  exact ha
theorem cut_to {xs : List V} {i : Nat} : cutV xs none (some (i : Int)) = xs.take i := by
  unfold cutV
  rw [HT.sIx_none, HT.sIx_nat, List.drop_zero, Nat.sub_zero, ← List.take_take, List.take_length]
theorem cut_from {xs : List V} {i : Nat} : cutV xs (some (i : Int)) none = xs.drop i := by
  unfold cutV
  rw [HT.sIx_none, HT.sIx_nat, List.take_of_length_le (by rw [List.length_drop]; exact Nat.le_refl _)]
  rcases Nat.le_total i xs.length with h | h
  · rw [Nat.min_eq_left h]
  · rw [Nat.min_eq_right h, List.drop_eq_nil_of_le (Nat.le_refl _), List.drop_eq_nil_of_le h]
def BA.ad (A : BA) : Pt → Addr | .tel => A.t | .gap => A.g | .sur => A.s | .cla => A.q
def spPBN (K : Frag) (C : Addr) : Sp := fun vs H Q _ => ∃ (A : BA) (D : PD), vs = [.ref A.o] ∧ BB K C H A D ∧ ∀ H' r, Same H H' → H r = none → H' r = some (.dK (partsF A.ad)) → Q (.ref r) H'
def spWP (K : Frag) (C : Addr) : Sp := fun vs H Q _ => ∃ (A : BA) (D : PD) (d : Addr) (φ : Pt → Addr) (ys : Pt → List V), vs = [.ref A.o, .ref d] ∧ BB K C H A D ∧ H d = some (.dK (partsF φ)) ∧ 0 ≤ A.ev ∧ A.ev ≤ 8 ∧ 0 ≤ A.wi ∧ A.wi ≤ 8 ∧
  (∀ u, PartOk K u H (φ u) (ys u) A.ev A.wi) ∧ NewBook K C A.ev A.wi (ys .tel) (ys .gap) (ys .sur) (ys .cla) H Q
/-- a book whose items are valid, with room for a gap more -/
structure BookV (K : Frag) (C : Addr) (H : Hp) (A : BA) (D : PD) : Prop where
  bb : BB K C H A D
  e0 : 0 ≤ A.ev
  e8 : A.ev ≤ 8
  w0 : 0 ≤ A.wi
  w8 : A.wi ≤ 8
  len : ∀ u, (A.xs u).length ≤ 24
  items : ∀ u, ∀ x ∈ A.xs u, ItemOk u H x A.ev A.wi
theorem BB.sq {K : Frag} {C : Addr} {H : Hp} {A : BA} {D : PD} (h : BB K C H A D) : ∀ u, SqT K H (A.ad u) (A.xs u)
  | .tel => h.tT
  | .gap => h.tG
  | .sur => h.tS
  | .cla => h.tL
theorem BookV.same {K : Frag} {C : Addr} {H H' : Hp} {A : BA} {D : PD} (h : BookV K C H A D) (s : Same H H') : BookV K C H' A D := ⟨h.bb.same s, h.e0, h.e8, h.w0, h.w8, h.len, fun u x hx => (h.items u x hx).same s⟩
def spWI (K : Frag) (C : Addr) : Sp := fun vs H Q _ => ∃ (A : BA) (D : PD) (it : Addr) (p : Pt) (ys : List V), H it = some (.tup ys) ∧ vs = [.ref A.o, .str p.name, .ref it] ∧ BookV K C H A D ∧ (A.xs p).length ≤ 23 ∧ ItemOk p H (.ref it) A.ev A.wi ∧ NewBook K C A.ev A.wi (setP A.xs p (A.xs p ++ [.ref it]) .tel) (setP A.xs p (A.xs p ++ [.ref it]) .gap) (setP A.xs p (A.xs p ++ [.ref it]) .sur) (setP A.xs p (A.xs p ++ [.ref it]) .cla) H Q
def spWG (K : Frag) (C : Addr) : Sp := fun vs H Q _ => ∃ (A : BA) (D : PD) (a b g : Int), vs = [.ref A.o, .int a, .int b, .int g] ∧ BookV K C H A D ∧ (A.xs .gap).length ≤ 23 ∧ 0 ≤ a ∧ a < A.ev ∧ 0 ≤ b ∧ b < A.ev ∧ b ≠ a ∧ -1000000000000000 ≤ g ∧ g ≤ 1000000000000000 ∧
  ∀ p o dx t g' s c H', Same H H' → H o = none → H' p = some (.tup [.int a, .int b, .int g]) → H' o = some (bookO C dx A.ev A.wi t g' s c) → SqT K H' t (A.xs .tel) → SqT K H' g' (A.xs .gap ++ [.ref p]) → SqT K H' s (A.xs .sur) → SqT K H' c (A.xs .cla) → Q (.ref o) H'
abbrev cutP (A : BA) (p : Pt) (i : Nat) : Pt → List V := setP A.xs p ((A.xs p).take i ++ (A.xs p).drop (i + 1))
def spWO (K : Frag) (C : Addr) : Sp := fun vs H Q _ => ∃ (A : BA) (D : PD) (p : Pt) (i : Nat), vs = [.ref A.o, .str p.name, .int (i : Int)] ∧ BookV K C H A D ∧ i < (A.xs p).length ∧ NewBook K C A.ev A.wi (cutP A p i .tel) (cutP A p i .gap) (cutP A p i .sur) (cutP A p i .cla) H Q
def spII (K : Frag) (C : Addr) : Sp := fun vs H Q _ => ∃ (A : BA) (D : PD) (p : Pt), vs = [.ref A.o, .str p.name] ∧ BB K C H A D ∧ ∀ H', Same H H' → Q (.ref (A.ad p)) H'
section
variable {P : Program} {w : World} {K : Frag} {mg : Str → Option Value} {base : Heap} {f : Addr} {fd : FuncData} {C C_Wrong C_NoIndex : Addr} {D0 : BookD}
end
end EL

/- part BD -/
namespace EL
open PySem PySem.Spec PyProof.Rows L2
open PySem.W (Frag)
abbrev s_Book_moved : Stmt := inClass (top 26) 19
abbrev N_Book_moved : List Str := ["self", "by"]
theorem sc_Book_moved : FnScope N_Book_moved ["self", "by"] (defScope s_Book_moved) := ⟨rfl, rfl, rfl, by decide +kernel, rfl, by decide +kernel, by decide +kernel⟩
abbrev s_Book_turned : Stmt := inClass (top 26) 20
abbrev N_Book_turned : List Str := ["self"]
theorem sc_Book_turned : FnScope N_Book_turned ["self"] (defScope s_Book_turned) := ⟨rfl, rfl, rfl, by decide +kernel, rfl, by decide +kernel, by decide +kernel⟩
abbrev s_Book_renamed : Stmt := inClass (top 26) 21
abbrev N_Book_renamed : List Str := ["self", "events", "witnesses"]
theorem sc_Book_renamed : FnScope N_Book_renamed ["self", "events", "witnesses"] (defScope s_Book_renamed) := ⟨rfl, rfl, rfl, by decide +kernel, rfl, by decide +kernel, by decide +kernel⟩
abbrev s_Book_struck : Stmt := inClass (top 26) 18
abbrev N_Book_struck : List Str := ["self", "witnesses"]
theorem sc_Book_struck : FnScope N_Book_struck ["self", "witnesses"] (defScope s_Book_struck) := ⟨rfl, rfl, rfl, by decide +kernel, rfl, by decide +kernel, by decide +kernel⟩
abbrev s_Book_both : Stmt := inClass (top 26) 22
abbrev N_Book_both : List Str := ["self", "other"]
theorem sc_Book_both : FnScope N_Book_both ["self", "other"] (defScope s_Book_both) := ⟨rfl, rfl, rfl, by decide +kernel, rfl, by decide +kernel, by decide +kernel⟩
abbrev s_Book_with_telling : Stmt := inClass (top 26) 10
abbrev N_Book_with_telling : List Str := ["self", "w", "e", "x"]
theorem sc_Book_with_telling : FnScope N_Book_with_telling ["self", "w", "e", "x"] (defScope s_Book_with_telling) := ⟨rfl, rfl, rfl, by decide +kernel, rfl, by decide +kernel, by decide +kernel⟩
abbrev s_Book_with_sure : Stmt := inClass (top 26) 12
abbrev N_Book_with_sure : List Str := ["self", "e", "side", "x"]
theorem sc_Book_with_sure : FnScope N_Book_with_sure ["self", "e", "side", "x"] (defScope s_Book_with_sure) := ⟨rfl, rfl, rfl, by decide +kernel, rfl, by decide +kernel, by decide +kernel⟩
abbrev s_Book_with_clause : Stmt := inClass (top 26) 13
abbrev N_Book_with_clause : List Str := ["self", "w", "kind", "v", "other"]
theorem sc_Book_with_clause : FnScope N_Book_with_clause ["self", "w", "kind", "v", "other"] (defScope s_Book_with_clause) := ⟨rfl, rfl, rfl, by decide +kernel, rfl, by decide +kernel, by decide +kernel⟩
abbrev s_Book_with_known : Stmt := inClass (top 26) 14
abbrev N_Book_with_known : List Str := ["self", "w", "kind"]
theorem sc_Book_with_known : FnScope N_Book_with_known ["self", "w", "kind"] (defScope s_Book_with_known) := ⟨rfl, rfl, rfl, by decide +kernel, rfl, by decide +kernel, by decide +kernel⟩
local macro_rules | `(tactic| walk_at "el1") => `(tactic| with_reducible first
  | refine a_sasg ?_ | refine a_sdrop ?_ | refine a_saugS ?_ | refine a_spar ?_ | refine a_seq ?_ | refine a_asg ?_ | refine a_drop ?_ | refine a_ret ?_ | refine a_if ?_ | refine a_next ?_
  | refine a_op ?_ | refine a_cons ?_ | refine a_nil ?_ | refine a_cb ?_ | refine a_call ?_ | refine a_c ?_ | refine a_gn ?_ | refine a_nx ?_ | refine a_rt ?_ | refine a_un ?_
  | refine a_test ?_ | refine a_B ?_ | refine a_bl ?_ | refine a_and ?_ | refine a_or ?_ | refine a_not ?_ | refine a_andV ?_ | refine a_orV ?_ | refine a_notV ?_ | refine a_ifx ?_ | refine a_chain ?_
  | refine a_nT ?_ | refine a_nF ?_ | refine a_fld ?_ | refine a_getF ?_ | refine a_T ?_ | refine a_F ?_ | refine a_tup ?_ | refine a_lst ?_ | refine a_sub ?_ | refine a_augS ?_ | refine a_two ?_ | refine a_I0 ?_ | refine a_U ?_ | refine n_add ?_ | refine n_int ?_ | refine n_ib ?_ | refine a_ip ?_ | refine a_rng1 ?_ | refine a_rng2 ?_ | refine a_bm ?_ | refine a_abs ?_ | refine a_pairs ?_ | refine a_pairs0 ?_ | refine a_bk ?_ | refine a_prp ?_ | refine a_lc ?_ | refine a_yes ?_ | refine a_sl ?_ | refine a_nop ?_ | refine a_prt ?_ | refine a_ex1 ?_ | refine a_for ?_ | refine a_sfor ?_ | refine a_iE1 ?_ | refine a_iEs ?_ | refine a_iEz ?_ | refine a_iEnum ?_ | refine a_iTup ?_ | refine a_iList ?_ | refine a_gcons ?_ | refine a_gnil ?_ | refine a_revT ?_ | refine a_spar3 ?_ | refine a_par3 ?_ | refine a_three ?_)
local macro_rules | `(tactic| walk_at "el2") => `(tactic| first
  | (refine a_var (by rfl) ?_)
  | (refine n_ixL (SqL.of (by assumption)) (by rfl) ?_) | (refine n_ixT (SqT.of (by assumption)) (by rfl) ?_) | (refine n_eq (by rfl) ?_) | (refine n_ne (by rfl) ?_)
  | (refine n_isN ?_) | (refine n_notN ?_) | (refine n_isB ?_) | (refine n_notB ?_) | (refine n_isBI ?_) | (refine n_notBI ?_) | (refine n_len (.inl (SqL.of (by assumption))) ?_) | (refine n_len (.inr (SqT.of (by assumption))) ?_)
  | (refine a_getL (SqL.of (by assumption)) (by rfl) ?_)
  | (refine n_isInt (by assumption) ?_) | (refine n_isBool (by assumption) ?_) | (refine n_isStr (by assumption) ?_) | (refine n_isTup (by assumption) ?_) | (refine n_isLst (by assumption) ?_))
local macro_rules | `(tactic| walk_at "el") => `(tactic| repeat (first | walk_at "el1" | walk_at "el2"))

/-! ### rows made of rows by a comprehension -/
theorem rows_app {α : Type} {enc : α → List V} {H : Hp} {xs : List V} {D : List α} {q : Addr} {x : α} (r : RowsAre enc H xs D) (h : H q = some (.tup (enc x))) : RowsAre enc H (xs ++ [.ref q]) (D ++ [x]) := by
  refine ⟨by rw [List.length_append, List.length_append, r.len]; rfl, fun i v hv => ?_⟩
  rw [List.getElem?_append] at hv
  split at hv
  · rename_i li
    obtain ⟨p, y, e1, e2, e3⟩ := r.at_ i v hv
    exact ⟨p, y, e1, by rw [List.getElem?_append_left (by rw [← r.len]; exact li)]; exact e2, e3⟩
  · have ei : i = xs.length := by
      rcases Nat.lt_or_ge (i - xs.length) 1 with q | q
      · omega
      · rw [List.getElem?_eq_none (by simpa using q)] at hv; cases hv
    subst ei
    rw [Nat.sub_self] at hv
    cases hv
    exact ⟨q, x, rfl, by rw [r.len, List.getElem?_append_right (Nat.le_refl _), Nat.sub_self]; rfl, h⟩
theorem a_gnx {i : Nat} {v : V} {σ σ' : L2.St} {H : Hp} {R : L2.St → Hp → Prop} (e : σ.set i (some v) = σ') (q : R σ' H) : gName i v σ H R := by
  subst e
  exact q
theorem rows_fill {α : Type} {enc : α → List V} {H : Hp} {xs ys : List V} {D : List α} {q : Addr} (r : RowsAre enc H xs D) (h : H q = some (.lst ys)) (o : HO) : RowsAre enc (upd H q o) xs D := ⟨r.len, fun i v hv => by
  obtain ⟨p, y, e1, e2, e3⟩ := r.at_ i v hv
  exact ⟨p, y, e1, e2, by rw [upd_ne (fun z => by rw [z, h] at e3; cases e3)]; exact e3⟩⟩
theorem fm_succ {α β : Type} {f : α → Option β} {l : List α} {i : Nat} {y : α} (h : l[i]? = some y) : (l.take (i + 1)).filterMap f = (l.take i).filterMap f ++ (f y).toList := by
  rw [List.take_add_one, h, List.filterMap_append]
  congr 1
/-- what a turn of a comprehension does to a row: a new row, or none -/
def RowTo {β : Type} (encB : β → List V) (H3 : Hp) (R : V → Hp → Prop) (S : Hp → Prop) : Option β → Prop
  | some z => ∀ (q' : Addr) H4, Same H3 H4 → H4 q' = some (.tup (encB z)) → R (.ref q') H4
  | none => ∀ H4, Same H3 H4 → S H4
theorem lc_rows {α β : Type} {encA : α → List V} {encB : β → List V} (f : α → Option β) {T : List α} {J : It} {G : Hp → Prop} {xs : List V} (w : Walk J xs.length G (YAt xs)) {g : TG} {tt : TT} {te : TE} {vs : List Nat} {σ : L2.St} {H1 : Hp} {D : Addr} {Qd : Hp → Prop}
    (hD : H1 D = none) (hR : RowsAre encA H1 xs T) (hl : T.length ≤ 1000) (hG : ∀ H3, Same H1 H3 → G H3)
    (step : ∀ (i : Nat) (q : Addr) (y : α) (H3 : Hp) (R : V → Hp → Prop) (S : Hp → Prop), T[i]? = some y → Same H1 H3 → H3 q = some (.tup (encA y)) → RowTo encB H3 R S (f y) →
      g (.ref q) (wipe σ vs) H3 fun σ2 H2 => wipe σ2 vs = wipe σ vs ∧ tt σ2 H2 fun b H5 => if b = true then te σ2 H5 R else S H5)
    (fin : ∀ H' ts, Same H1 H' → H' D = some (.lst ts) → RowsAre encB H' ts (T.filterMap f) → Qd H') : Lc J g tt te vs σ H1 D Qd := by
  have e0 := nw_of hD (.lst [])
  refine lc_of w (fun i H3 => Same H1 H3 ∧ ∃ ts, H3 D = some (.lst ts) ∧ RowsAre encB H3 ts ((T.take i).filterMap f)) ⟨e0, [], upd_same, ⟨rfl, fun i v h => by cases h⟩⟩ (fun i H3 _ h => hG H3 h.1) ?_ ?_
  · rintro i x H3 H4 hi ⟨s3, ts, hD3, R3⟩ ⟨rfl, hx⟩
    obtain ⟨q, y, rfl, hy, hq⟩ := (hR.same s3).at_ i x hx
    have lts : ts.length ≤ 1000 := by
      have := List.length_filterMap_le f (T.take i)
      rw [R3.len]
      rw [List.length_take] at this
      omega
    refine step i q y H4 _ _ hy s3 hq ?_
    have tk := fm_succ (f := f) hy
    cases e : f y with
    | none =>
      rw [e, Option.toList_none, List.append_nil] at tk
      exact fun H5 s5 => ⟨s3.trans s5, ts, s5 _ _ hD3, by rw [tk]; exact R3.same s5⟩
    | some z =>
      rw [e, Option.toList_some] at tk
      intro q' H5 s5 hq'
      have hD5 := s5 _ _ hD3
      refine ⟨ts, hD5, Nat.lt_of_le_of_lt lts (by decide), (s3.trans s5).mu hD, ts ++ [.ref q'], upd_same, ?_⟩
      rw [tk]
      exact rows_fill (rows_app (R3.same s5) hq') hD5 _
  · rintro H3 ⟨s3, ts, hD3, R3⟩
    have len := hR.len
    rw [len, List.take_length] at R3
    exact fin H3 ts s3 hD3 R3
theorem fm_map {α β : Type} {f : α → β} {l : List α} : l.filterMap (fun x => some (f x)) = l.map f := by
  rw [List.filterMap_eq_map']
theorem fm_filter {α : Type} {p : α → Bool} : ∀ {l : List α}, l.filterMap (fun x => if p x = true then some x else none) = l.filter p
  | [] => rfl
  | x :: r => by
    rw [List.filterMap_cons, List.filter_cons]
    by_cases h : p x = true
    · rw [if_pos h]
      simp only [h, if_true]
      rw [fm_filter]
    · rw [if_neg h]
      simp only [h]
      rw [fm_filter]
      rfl
/-! ### deeds of a book, as data -/
def movT (z : Int) (x : Int × Int × Int) : Int × Int × Int := (x.1, x.2.1, x.2.2 + z)
def movS (z : Int) (x : Int × Str × Int) : Int × Str × Int := (x.1, x.2.1, x.2.2 + z)
def movD (D : PD) (z : Int) : PD := ⟨D.T.map (movT z), D.G, D.S.map (movS z), D.L⟩
def turT (x : Int × Int × Int) : Int × Int × Int := (x.1, x.2.1, -x.2.2)
def turG (x : Int × Int × Int) : Int × Int × Int := (x.2.1, x.1, x.2.2)
def turSd (x : Int × Str × Int) : Int × Str × Int := (x.1, turnS x.2.1, -x.2.2)
def turL (x : Int × Str × Int × Str) : Int × Str × Int × Str := (x.1, otherK x.2.1, x.2.2.1, otherK x.2.2.2)
def turD (D : PD) : PD := ⟨D.T.map turT, D.G.map turG, D.S.map turSd, D.L.map turL⟩
def nth (es : List Int) (i : Int) : Int := (es[i.toNat]?).getD 0
def renT (es ws : List Int) (x : Int × Int × Int) : Int × Int × Int := (nth ws x.1, nth es x.2.1, x.2.2)
def renG (es : List Int) (x : Int × Int × Int) : Int × Int × Int := (nth es x.1, nth es x.2.1, x.2.2)
def renS (es : List Int) (x : Int × Str × Int) : Int × Str × Int := (nth es x.1, x.2.1, x.2.2)
def renL (ws : List Int) (x : Int × Str × Int × Str) : Int × Str × Int × Str := (nth ws x.1, x.2.1, nth ws x.2.2.1, x.2.2.2)
def renD (D : PD) (es ws : List Int) : PD := ⟨D.T.map (renT es ws), D.G.map (renG es), D.S.map (renS es), D.L.map (renL ws)⟩
def strT (js : List Int) (x : Int × Int × Int) : Bool := !decide (x.1 ∈ js)
def strL (js : List Int) (x : Int × Str × Int × Str) : Bool := !decide (x.1 ∈ js) && !decide (x.2.2.1 ∈ js)
def strD (D : PD) (js : List Int) : PD := ⟨D.T.filter (strT js), D.G, D.S, D.L.filter (strL js)⟩
def bothD (D E : PD) : PD := ⟨D.T ++ E.T, D.G ++ E.G, D.S ++ E.S, D.L ++ E.L⟩
/-- an order of so many -/
structure Ord (es : List Int) (n : Int) : Prop where
  len : (es.length : Int) = n
  nd : es.Nodup
  inr : ∀ e ∈ es, 0 ≤ e ∧ e < n
theorem Ord.nth {es : List Int} {n i : Int} (h : Ord es n) (i0 : 0 ≤ i) (i1 : i < n) : es[i.toNat]? = some (EL.nth es i) ∧ 0 ≤ EL.nth es i ∧ EL.nth es i < n := by
  have l : i.toNat < es.length := by have := h.len; omega
  have e : es[i.toNat]? = some es[i.toNat] := List.getElem?_eq_getElem l
  have q := h.inr _ (List.getElem_mem l)
  unfold EL.nth
  rw [e]
  exact ⟨rfl, q.1, q.2⟩
theorem Ord.inj {es : List Int} {n i j : Int} (h : Ord es n) (i0 : 0 ≤ i) (i1 : i < n) (j0 : 0 ≤ j) (j1 : j < n) (e : EL.nth es i = EL.nth es j) : i = j := by
  have a := (h.nth i0 i1).1
  have b := (h.nth j0 j1).1
  rw [← e] at b
  have la : i.toNat < es.length := by have := h.len; omega
  have lb : j.toNat < es.length := by have := h.len; omega
  rw [List.getElem?_eq_getElem la] at a
  rw [List.getElem?_eq_getElem lb] at b
  have := (List.getElem_inj h.nd).mp ((Option.some.inj a).trans (Option.some.inj b).symm)
  omega
/-- no gap leads from an event to itself -/
def GapNe (D : PD) : Prop := ∀ x ∈ D.G, x.2.1 ≠ x.1
theorem items_ok {H : Hp} {xs : Pt → List V} {D : PD} {ev wi : Int} (r : PR H xs D) (ok : D.Ok ev wi) (ne : GapNe D) : ∀ u, ∀ x ∈ xs u, ItemOk u H x ev wi := by
  have at_ : ∀ {α : Type} {enc : α → List V} {ys : List V} {E : List α}, RowsAre enc H ys E → ∀ v ∈ ys, ∃ q y, v = .ref q ∧ y ∈ E ∧ H q = some (.tup (enc y)) := fun r v hv => by
    obtain ⟨i, hi, e⟩ := List.getElem_of_mem hv
    obtain ⟨q, y, e1, e2, e3⟩ := r.at_ i v (by rw [List.getElem?_eq_getElem hi, e])
    exact ⟨q, y, e1, List.mem_of_getElem? e2, e3⟩
  intro u x hx
  cases u
  · obtain ⟨q, y, rfl, hy, hq⟩ := at_ r.t x hx
    obtain ⟨a, b, c⟩ := ok.t y hy
    exact item_tel hq a.1 a.2 b.1 b.2 c.1 c.2
  · obtain ⟨q, y, rfl, hy, hq⟩ := at_ r.g x hx
    obtain ⟨a, b, c⟩ := ok.g y hy
    exact item_gap hq a.1 a.2 b.1 b.2 (ne y hy) c.1 c.2
  · obtain ⟨q, y, rfl, hy, hq⟩ := at_ r.s x hx
    obtain ⟨a, b, c⟩ := ok.s y hy
    exact item_sur hq a.1 a.2 b c.1 c.2
  · obtain ⟨q, y, rfl, hy, hq⟩ := at_ r.l x hx
    obtain ⟨a, b, c, d⟩ := ok.l y hy
    exact item_cla hq a.1 a.2 b c.1 c.2 d
theorem gap_ne_of {H : Hp} {xs : Pt → List V} {D : PD} {ev wi : Int} (r : PR H xs D) (it : ∀ x ∈ xs .gap, ItemOk .gap H x ev wi) : GapNe D := fun y hy => by
  obtain ⟨i, hi, e⟩ := List.getElem_of_mem hy
  obtain ⟨q, hv, hq⟩ := r.g.get (i := i) (x := y) (by rw [List.getElem?_eq_getElem hi, e])
  obtain ⟨q', zs, e1, hq', _, hs⟩ := it _ (List.mem_of_getElem? hv)
  cases e1
  rw [hq] at hq'
  cases hq'
  have h1 := hs 1 (by decide) "another event" _ rfl rfl
  rw [st_a, Bool.and_eq_true] at h1
  intro z
  have h2 := h1.2
  simp only [Nat.sub_self, List.getElem?_cons_zero] at h2
  rw [z, decide_eq_true rfl] at h2
  cases h2
/-- a new book that says D -/
def NewBD (K : Frag) (C : Addr) (ev wi : Int) (D : PD) (H : Hp) (Q : VK) : Prop := ∀ H' (A' : BA), Same H H' → H A'.o = none → A'.ev = ev → A'.wi = wi → BookV K C H' A' D → Q (.ref A'.o) H'
theorem newBD_of {K : Frag} {C : Addr} {H0 H : Hp} {Q : VK} {ev wi : Int} {ts gs ss cs : List V} {D : PD} (s0 : Same H0 H) (e0 : 0 ≤ ev) (e8 : ev ≤ 8) (w0 : 0 ≤ wi) (w8 : wi ≤ 8) (r : PR H (fun u => match u with | .tel => ts | .gap => gs | .sur => ss | .cla => cs) D) (ok : D.Ok ev wi) (ne : GapNe D)
    (l : ts.length ≤ 24 ∧ gs.length ≤ 24 ∧ ss.length ≤ 24 ∧ cs.length ≤ 24) (k : NewBD K C ev wi D H0 Q) : NewBook K C ev wi ts gs ss cs H Q := fun o dx t g s c H' s1 n0 h0 h1 h2 h3 h4 => by
  have r' := r.same s1
  refine k H' ⟨o, dx, t, g, s, c, ev, wi, fun u => match u with | .tel => ts | .gap => gs | .sur => ss | .cla => cs⟩ (s0.trans s1) (s0.free n0) rfl rfl ⟨⟨h0, h1, h2, h3, h4, r'⟩, e0, e8, w0, w8, fun u => ?_, items_ok r' ok ne⟩
  cases u
  · exact l.1
  · exact l.2.1
  · exact l.2.2.1
  · exact l.2.2.2
/-- a book that says D, with all that is known of D -/
structure BkD (K : Frag) (C : Addr) (H : Hp) (A : BA) (D : PD) : Prop where
  v : BookV K C H A D
  ok : D.Ok A.ev A.wi
  ne : GapNe D
theorem BkD.same {K : Frag} {C : Addr} {H H' : Hp} {A : BA} {D : PD} (h : BkD K C H A D) (s : Same H H') : BkD K C H' A D := ⟨h.v.same s, h.ok, h.ne⟩
theorem BookV.lens {K : Frag} {C : Addr} {H : Hp} {A : BA} {D : PD} (V : BookV K C H A D) : D.T.length ≤ 24 ∧ D.G.length ≤ 24 ∧ D.S.length ≤ 24 ∧ D.L.length ≤ 24 := by
  have a := V.len .tel
  have b := V.len .gap
  have c := V.len .sur
  have d := V.len .cla
  have := V.bb.r.t.len
  have := V.bb.r.g.len
  have := V.bb.r.s.len
  have := V.bb.r.l.len
  omega
def spMoved (K : Frag) (C : Addr) : Sp := fun vs H Q _ => ∃ (A : BA) (D : PD) (z : Int), vs = [.ref A.o, .int z] ∧ BkD K C H A D ∧ (movD D z).Ok A.ev A.wi ∧ NewBD K C A.ev A.wi (movD D z) H Q
def spTurned (K : Frag) (C : Addr) : Sp := fun vs H Q _ => ∃ (A : BA) (D : PD), vs = [.ref A.o] ∧ BkD K C H A D ∧ NewBD K C A.ev A.wi (turD D) H Q
def spRenamed (K : Frag) (C : Addr) : Sp := fun vs H Q _ => ∃ (A : BA) (D : PD) (p q : Addr) (es ws : List Int), vs = [.ref A.o, .ref p, .ref q] ∧ BkD K C H A D ∧ SqA K H p (es.map V.int) ∧ SqA K H q (ws.map V.int) ∧ Ord es A.ev ∧ Ord ws A.wi ∧ NewBD K C A.ev A.wi (renD D es ws) H Q
def spStruck (K : Frag) (C : Addr) : Sp := fun vs H Q _ => ∃ (A : BA) (D : PD) (p : Addr) (js : List Int), vs = [.ref A.o, .ref p] ∧ BkD K C H A D ∧ SqA K H p (js.map V.int) ∧ NewBD K C A.ev A.wi (strD D js) H Q
def spSizes (C : Addr) : Sp := fun vs H Q _ => ∃ (a dx t g s q b dy t' g' s' q' : Addr) (ev wi : Int), vs = [.ref a, .ref b] ∧ H a = some (bookO C dx ev wi t g s q) ∧ H b = some (bookO C dy ev wi t' g' s' q') ∧ ∀ H', Same H H' → Q .non H'
def spBoth (K : Frag) (C : Addr) : Sp := fun vs H Q _ => ∃ (A B : BA) (D E : PD), vs = [.ref A.o, .ref B.o] ∧ BkD K C H A D ∧ BkD K C H B E ∧ B.ev = A.ev ∧ B.wi = A.wi ∧ (D.T.length + E.T.length ≤ 24 ∧ D.G.length + E.G.length ≤ 24 ∧ D.S.length + E.S.length ≤ 24 ∧ D.L.length + E.L.length ≤ 24) ∧ NewBD K C A.ev A.wi (bothD D E) H Q
theorem mov_ne {D : PD} {z : Int} (h : GapNe D) : GapNe (movD D z) := h
theorem tur_ne {D : PD} (h : GapNe D) : GapNe (turD D) := fun x hx => by
  obtain ⟨y, hy, rfl⟩ := List.mem_map.mp hx
  exact fun z => h y hy z.symm
theorem str_ne {D : PD} {js : List Int} (h : GapNe D) : GapNe (strD D js) := h
theorem both_ne {D E : PD} (h : GapNe D) (k : GapNe E) : GapNe (bothD D E) := fun x hx => (List.mem_append.mp hx).elim (h x) (k x)
theorem ren_ne {D : PD} {es ws : List Int} {ev wi : Int} (h : GapNe D) (ok : D.Ok ev wi) (o : Ord es ev) : GapNe (renD D es ws) := fun x hx => by
  obtain ⟨y, hy, rfl⟩ := List.mem_map.mp hx
  obtain ⟨a, b, _⟩ := ok.g y hy
  exact fun z => h y hy (o.inj b.1 b.2 a.1 a.2 z)
theorem num_neg {x : Int} (h : NumOk x) : NumOk (-x) := ⟨by have := h.2; omega, by have := h.1; omega⟩
theorem turnS_ok {s : Str} (h : s = "least" ∨ s = "most") : turnS s = "least" ∨ turnS s = "most" := by
  unfold turnS
  rcases h with rfl | rfl
  · exact .inr (if_pos rfl)
  · exact .inl (if_neg (by decide))
theorem otherK_ok {s : Str} : otherK s = "early" ∨ otherK s = "late" := by
  unfold otherK
  split
  · exact .inr rfl
  · exact .inl rfl
theorem tur_ok {D : PD} {ev wi : Int} (ok : D.Ok ev wi) : (turD D).Ok ev wi := by
  refine ⟨fun x hx => ?_, fun x hx => ?_, fun x hx => ?_, fun x hx => ?_⟩ <;> obtain ⟨y, hy, rfl⟩ := List.mem_map.mp hx
  · obtain ⟨a, b, c⟩ := ok.t y hy
    exact ⟨a, b, num_neg c⟩
  · obtain ⟨a, b, c⟩ := ok.g y hy
    exact ⟨b, a, c⟩
  · obtain ⟨a, b, c⟩ := ok.s y hy
    exact ⟨a, turnS_ok b, num_neg c⟩
  · obtain ⟨a, b, c, d⟩ := ok.l y hy
    exact ⟨a, otherK_ok, c, otherK_ok⟩
theorem ren_ok {D : PD} {es ws : List Int} {ev wi : Int} (ok : D.Ok ev wi) (o : Ord es ev) (u : Ord ws wi) : (renD D es ws).Ok ev wi := by
  refine ⟨fun x hx => ?_, fun x hx => ?_, fun x hx => ?_, fun x hx => ?_⟩ <;> obtain ⟨y, hy, rfl⟩ := List.mem_map.mp hx
  · obtain ⟨a, b, c⟩ := ok.t y hy
    exact ⟨(u.nth a.1 a.2).2, (o.nth b.1 b.2).2, c⟩
  · obtain ⟨a, b, c⟩ := ok.g y hy
    exact ⟨(o.nth a.1 a.2).2, (o.nth b.1 b.2).2, c⟩
  · obtain ⟨a, b, c⟩ := ok.s y hy
    exact ⟨(o.nth a.1 a.2).2, b, c⟩
  · obtain ⟨a, b, c, d⟩ := ok.l y hy
    exact ⟨(u.nth a.1 a.2).2, b, (u.nth c.1 c.2).2, d⟩
theorem str_ok {D : PD} {js : List Int} {ev wi : Int} (ok : D.Ok ev wi) : (strD D js).Ok ev wi := ⟨fun x hx => ok.t x ((List.mem_filter.mp hx).1), ok.g, ok.s, fun x hx => ok.l x ((List.mem_filter.mp hx).1)⟩
theorem both_ok {D E : PD} {ev wi : Int} (ok : D.Ok ev wi) (ok' : E.Ok ev wi) : (bothD D E).Ok ev wi := ⟨all_app ok.t ok'.t, all_app ok.g ok'.g, all_app ok.s ok'.s, all_app ok.l ok'.l⟩
theorem rows_two {α : Type} {enc : α → List V} {H : Hp} {xs ys : List V} {D E : List α} (r : RowsAre enc H xs D) (u : RowsAre enc H ys E) : RowsAre enc H (xs ++ ys) (D ++ E) := by
  refine ⟨by rw [List.length_append, List.length_append, r.len, u.len], fun i v hv => ?_⟩
  rw [List.getElem?_append] at hv
  split at hv
  · rename_i li
    obtain ⟨p, y, e1, e2, e3⟩ := r.at_ i v hv
    exact ⟨p, y, e1, by rw [List.getElem?_append_left (by rw [← r.len]; exact li)]; exact e2, e3⟩
  · rename_i li
    obtain ⟨p, y, e1, e2, e3⟩ := u.at_ _ v hv
    exact ⟨p, y, e1, by rw [List.getElem?_append_right (by rw [← r.len]; omega), ← r.len]; exact e2, e3⟩
theorem nth_at {es : List Int} {n i : Int} (o : Ord es n) (i0 : 0 ≤ i) (i1 : i < n) : atI (es.map V.int) i = some (.int (nth es i)) := by
  obtain ⟨a, _⟩ := o.nth i0 i1
  have ei : ((i.toNat : Nat) : Int) = i := by omega
  rw [← ei]
  refine atI_nat ?_
  rw [List.getElem?_map, a, ei]; rfl
theorem inV_ints' {n : Int} : ∀ (js : List Int), inV (.int n) (js.map V.int) = decide (n ∈ js)
  | [] => by simp [inV]
  | j :: r => by
    show ((j == n) || inV (.int n) (r.map V.int)) = _
    rw [inV_ints' r, Bool.eq_iff_iff]
    simp only [Bool.or_eq_true, decide_eq_true_iff, List.mem_cons]
    constructor
    · rintro (h | h)
      · exact .inl (eq_of_beq h).symm
      · exact .inr h
    · rintro (h | h)
      · subst h
        exact .inl (beq_self_eq_true _)
      · exact .inr h
theorem flat_ints' : ∀ (js : List Int), (js.map V.int).all flatV = true
  | [] => rfl
  | _ :: r => by
    show (true && (r.map V.int).all flatV) = true
    rw [flat_ints' r]; rfl
theorem n_notinA {K : Frag} {H : Hp} {Q : VK} {n : Int} {p : Addr} {js : List Int} (h : SqA K H p (js.map V.int)) (q : Q (.bl (!decide (n ∈ js))) H) : rIn K true (.int n) (.ref p) H Q :=
  ⟨p, _, rfl, h.elim (fun h => .inl (SqL.of h)) .inr, rfl, flat_ints' js, by rw [inV_ints']; exact q⟩
section
variable {P : Program} {w : World} {K : Frag} {mg : Str → Option Value} {base : Heap} {f : Addr} {fd : FuncData} {C : Addr} {D0 : BookD}
theorem bk6_lists {H0 H : Hp} {Q : VK} {ev wi : Int} {d1 d2 d3 d4 : Addr} {ts gs ss cs : List V} {D : PD} (s0 : Same H0 H) (e0 : 0 ≤ ev) (e8 : ev ≤ 8) (w0 : 0 ≤ wi) (w8 : wi ≤ 8) (h1 : SqA K H d1 ts) (h2 : SqA K H d2 gs) (h3 : SqA K H d3 ss) (h4 : SqA K H d4 cs)
    (r : PR H (fun u => match u with | .tel => ts | .gap => gs | .sur => ss | .cla => cs) D) (ok : D.Ok ev wi) (ne : GapNe D) (l : D.T.length ≤ 24 ∧ D.G.length ≤ 24 ∧ D.S.length ≤ 24 ∧ D.L.length ≤ 24) (k : NewBD K C ev wi D H0 Q) : MkB K C [] [.int ev, .int wi, .ref d1, .ref d2, .ref d3, .ref d4] H Q := by
  have io := items_ok r ok ne
  have l1 : ts.length ≤ 24 := by have := r.t.len; have : ts.length = D.T.length := this; omega
  have l2 : gs.length ≤ 24 := by have := r.g.len; have : gs.length = D.G.length := this; omega
  have l3 : ss.length ≤ 24 := by have := r.s.len; have : ss.length = D.S.length := this; omega
  have l4 : cs.length ≤ 24 := by have := r.l.len; have : cs.length = D.L.length := this; omega
  exact n_bk6 e0 e8 w0 w8 ⟨h1, l1, io .tel⟩ ⟨h2, l2, io .gap⟩ ⟨h3, l3, io .sur⟩ ⟨h4, l4, io .cla⟩ (newBD_of s0 e0 e8 w0 w8 r ok ne ⟨l1, l2, l3, l4⟩ k)
/-- an item more, as data -/
inductive Itm
  | t (x : Int × Int × Int)
  | g (x : Int × Int × Int)
  | s (x : Int × Str × Int)
  | l (x : Int × Str × Int × Str)
def Itm.pt : Itm → Pt | .t _ => .tel | .g _ => .gap | .s _ => .sur | .l _ => .cla
def Itm.enc : Itm → List V | .t x => encT x | .g x => encT x | .s x => encS x | .l x => encL x
def moreD (D : PD) : Itm → PD
  | .t x => ⟨D.T ++ [x], D.G, D.S, D.L⟩
  | .g x => ⟨D.T, D.G ++ [x], D.S, D.L⟩
  | .s x => ⟨D.T, D.G, D.S ++ [x], D.L⟩
  | .l x => ⟨D.T, D.G, D.S, D.L ++ [x]⟩
def Itm.Ok (ev wi : Int) : Itm → Prop
  | .t x => (0 ≤ x.1 ∧ x.1 < wi) ∧ (0 ≤ x.2.1 ∧ x.2.1 < ev) ∧ NumOk x.2.2
  | .g x => ((0 ≤ x.1 ∧ x.1 < ev) ∧ (0 ≤ x.2.1 ∧ x.2.1 < ev) ∧ NumOk x.2.2) ∧ x.2.1 ≠ x.1
  | .s x => (0 ≤ x.1 ∧ x.1 < ev) ∧ (x.2.1 = "least" ∨ x.2.1 = "most") ∧ NumOk x.2.2
  | .l x => (0 ≤ x.1 ∧ x.1 < wi) ∧ (x.2.1 = "early" ∨ x.2.1 = "late") ∧ (0 ≤ x.2.2.1 ∧ x.2.2.1 < wi) ∧ (x.2.2.2 = "early" ∨ x.2.2.2 = "late")
theorem more_ok {D : PD} {m : Itm} {ev wi : Int} (ok : D.Ok ev wi) (h : m.Ok ev wi) : (moreD D m).Ok ev wi := by
  cases m with
  | t x => exact ⟨all_app ok.t (all_cons h all_nil), ok.g, ok.s, ok.l⟩
  | g x => exact ⟨ok.t, all_app ok.g (all_cons h.1 all_nil), ok.s, ok.l⟩
  | s x => exact ⟨ok.t, ok.g, all_app ok.s (all_cons h all_nil), ok.l⟩
  | l x => exact ⟨ok.t, ok.g, ok.s, all_app ok.l (all_cons h all_nil)⟩
theorem more_ne {D : PD} {m : Itm} {ev wi : Int} (ne : GapNe D) (h : m.Ok ev wi) : GapNe (moreD D m) := by
  cases m with
  | t x => exact ne
  | g x => exact all_app ne (all_cons h.2 all_nil)
  | s x => exact ne
  | l x => exact ne
theorem itm_ok {H : Hp} {q : Addr} {m : Itm} {ev wi : Int} (hq : H q = some (.tup m.enc)) (h : m.Ok ev wi) : ItemOk m.pt H (.ref q) ev wi := by
  cases m with
  | t x => exact item_tel hq h.1.1 h.1.2 h.2.1.1 h.2.1.2 h.2.2.1 h.2.2.2
  | g x => exact item_gap hq h.1.1.1 h.1.1.2 h.1.2.1.1 h.1.2.1.2 h.2 h.1.2.2.1 h.1.2.2.2
  | s x => exact item_sur hq h.1.1 h.1.2 h.2.1 h.2.2.1 h.2.2.2
  | l x => exact item_cla hq h.1.1 h.1.2 h.2.1 h.2.2.1.1 h.2.2.1.2 h.2.2.2
theorem more_pr {H : Hp} {xs : Pt → List V} {D : PD} {q : Addr} {m : Itm} (r : PR H xs D) (hq : H q = some (.tup m.enc)) : PR H (setP xs m.pt (xs m.pt ++ [.ref q])) (moreD D m) := by
  cases m with
  | t x => exact ⟨rows_app r.t hq, r.g, r.s, r.l⟩
  | g x => exact ⟨r.t, rows_app r.g hq, r.s, r.l⟩
  | s x => exact ⟨r.t, r.g, rows_app r.s hq, r.l⟩
  | l x => exact ⟨r.t, r.g, r.s, rows_app r.l hq⟩
/-- a book with an item more: the arguments vs make the item m -/
def spMoreW (K : Frag) (C : Addr) (args : Itm → List V → Prop) : Sp := fun vs H Q _ => ∃ (A : BA) (D : PD) (m : Itm) (ys : List V), vs = .ref A.o :: ys ∧ args m ys ∧ BkD K C H A D ∧ (A.xs m.pt).length ≤ 23 ∧ m.Ok A.ev A.wi ∧ NewBD K C A.ev A.wi (moreD D m) H Q
def argT (m : Itm) (ys : List V) : Prop := ∃ x, m = .t x ∧ ys = encT x
def argG (m : Itm) (ys : List V) : Prop := ∃ x, m = .g x ∧ ys = encT x
def argS (m : Itm) (ys : List V) : Prop := ∃ x, m = .s x ∧ ys = encS x
def argL (m : Itm) (ys : List V) : Prop := ∃ x, m = .l x ∧ ys = encL x
def argK (m : Itm) (ys : List V) : Prop := ∃ (w : Int) (s : Str), m = .l (w, s, w, s) ∧ ys = [.int w, .str s]
/-- what with_item asks, of an item at its address -/
theorem with_of {H0 H : Hp} {Q : VK} {A : BA} {D : PD} {m : Itm} {q : Addr} (s0 : Same H0 H) (Z : BkD K C H A D) (hq : H q = some (.tup m.enc)) (lg : (A.xs m.pt).length ≤ 23) (hm : m.Ok A.ev A.wi) (k : NewBD K C A.ev A.wi (moreD D m) H0 Q) {E : XK} : spWI K C [.ref A.o, .str m.pt.name, .ref q] H Q E := by
  refine ⟨A, D, q, m.pt, m.enc, hq, rfl, Z.v, lg, itm_ok hq hm, fun o dx t g s c H' s1 n0 h0 h1 h2 h3 h4 => ?_⟩
  have r' := more_pr (Z.v.bb.r.same s1) (s1 _ _ hq)
  have ok' := more_ok Z.ok hm
  have ne' := more_ne Z.ne hm
  refine k H' ⟨o, dx, t, g, s, c, A.ev, A.wi, setP A.xs m.pt (A.xs m.pt ++ [.ref q])⟩ (s0.trans s1) (s0.free n0) rfl rfl ⟨⟨h0, h1, h2, h3, h4, r'⟩, Z.v.e0, Z.v.e8, Z.v.w0, Z.v.w8, fun u => ?_, items_ok r' ok' ne'⟩
  show (setP A.xs m.pt _ u).length ≤ 24
  by_cases e : u = m.pt
  · subst e; rw [setP_at, List.length_append]; exact Nat.succ_le_succ lg
  · rw [setP_ne e]; exact Z.v.len u
end
end EL

/- part Z14 -/
namespace EL
open PySem PySem.Spec PyProof.Rows L2
open PySem.W (Frag)
local macro_rules | `(tactic| walk_at "el1") => `(tactic| with_reducible first
  | refine a_sasg ?_ | refine a_sdrop ?_ | refine a_saugS ?_ | refine a_spar ?_ | refine a_seq ?_ | refine a_asg ?_ | refine a_drop ?_ | refine a_ret ?_ | refine a_if ?_ | refine a_next ?_
  | refine a_op ?_ | refine a_cons ?_ | refine a_nil ?_ | refine a_cb ?_ | refine a_call ?_ | refine a_c ?_ | refine a_gn ?_ | refine a_nx ?_ | refine a_rt ?_ | refine a_un ?_
  | refine a_test ?_ | refine a_B ?_ | refine a_bl ?_ | refine a_and ?_ | refine a_or ?_ | refine a_not ?_ | refine a_andV ?_ | refine a_orV ?_ | refine a_notV ?_ | refine a_ifx ?_ | refine a_chain ?_
  | refine a_nT ?_ | refine a_nF ?_ | refine a_fld ?_ | refine a_getF ?_ | refine a_T ?_ | refine a_F ?_ | refine a_tup ?_ | refine a_lst ?_ | refine a_sub ?_ | refine a_augS ?_ | refine a_two ?_ | refine a_I0 ?_ | refine a_U ?_ | refine n_add ?_ | refine n_int ?_ | refine n_ib ?_ | refine a_ip ?_ | refine a_rng1 ?_ | refine a_rng2 ?_ | refine a_bm ?_ | refine a_abs ?_ | refine a_pairs ?_ | refine a_pairs0 ?_ | refine a_bk ?_ | refine a_prp ?_ | refine a_lc ?_ | refine a_yes ?_ | refine a_sl ?_ | refine a_nop ?_ | refine a_prt ?_ | refine a_ex1 ?_ | refine a_for ?_ | refine a_sfor ?_ | refine a_iE1 ?_ | refine a_iEs ?_ | refine a_iEz ?_ | refine a_iEnum ?_ | refine a_iTup ?_ | refine a_iList ?_ | refine a_gcons ?_ | refine a_gnil ?_ | refine a_revT ?_ | refine a_spar3 ?_ | refine a_par3 ?_ | refine a_three ?_)
local macro_rules | `(tactic| walk_at "el2") => `(tactic| first
  | (refine a_var (by rfl) ?_)
  | (refine n_ixL (SqL.of (by assumption)) (by rfl) ?_) | (refine n_ixT (SqT.of (by assumption)) (by rfl) ?_) | (refine n_eq (by rfl) ?_) | (refine n_ne (by rfl) ?_)
  | (refine n_isN ?_) | (refine n_notN ?_) | (refine n_isB ?_) | (refine n_notB ?_) | (refine n_isBI ?_) | (refine n_notBI ?_) | (refine n_len (.inl (SqL.of (by assumption))) ?_) | (refine n_len (.inr (SqT.of (by assumption))) ?_)
  | (refine a_getL (SqL.of (by assumption)) (by rfl) ?_)
  | (refine n_isInt (by assumption) ?_) | (refine n_isBool (by assumption) ?_) | (refine n_isStr (by assumption) ?_) | (refine n_isTup (by assumption) ?_) | (refine n_isLst (by assumption) ?_))
local macro_rules | `(tactic| walk_at "el") => `(tactic| repeat (first | walk_at "el1" | walk_at "el2"))

/-! ### a book made of anything: what is raised, and when -/
abbrev pAt : List Pt := [.tel, .gap, .sur, .cla]
def isSeq (H : Hp) (x : V) : Bool := isL H x || isT H x
theorem seq_of {K : Frag} {H : Hp} {x : V} (th : Th K H x) (h : isSeq H x = true) : ∃ a xs, x = .ref a ∧ (H a = some (.lst xs) ∨ H a = some (.tup xs)) := by
  cases th with
  | @lst a xs e => exact ⟨a, xs, rfl, .inl e⟩
  | @tup a xs e => exact ⟨a, xs, rfl, .inr e⟩
  | @dct a kvs e =>
    exfalso
    have q : (obL (H a) || obT (H a)) = true := h
    rw [e] at q; cases q
  | @dtt a kvs e =>
    exfalso
    have q : (obL (H a) || obT (H a)) = true := h
    rw [e] at q; cases q
  | @ins a C dx fs e c =>
    exfalso
    have q : (obL (H a) || obT (H a)) = true := h
    rw [e] at q; cases q
  | _ => cases h
theorem seq_same {K : Frag} {H H' : Hp} {x : V} (th : Th K H x) (s : Same H H') : isSeq H' x = isSeq H x := by
  cases th with
  | @lst a xs e => show (obL (H' a) || obT (H' a)) = (obL (H a) || obT (H a)); rw [e, s _ _ e]
  | @tup a xs e => show (obL (H' a) || obT (H' a)) = (obL (H a) || obT (H a)); rw [e, s _ _ e]
  | @dct a kvs e => show (obL (H' a) || obT (H' a)) = (obL (H a) || obT (H a)); rw [e, s _ _ e]
  | @dtt a kvs e => show (obL (H' a) || obT (H' a)) = (obL (H a) || obT (H a)); rw [e, s _ _ e]
  | @ins a C dx fs e c => show (obL (H' a) || obT (H' a)) = (obL (H a) || obT (H a)); rw [e, s _ _ e]
  | _ => rfl
/-- known, with what stands in it -/
def ThD (K : Frag) (H : Hp) (x : V) : Prop := Th K H x ∧ ∀ (q : Addr) (ys : List V), x = .ref q → H q = some (.tup ys) → ∀ y ∈ ys, Th K H y
/-- six values that a book may be made of -/
structure Six (K : Frag) (H : Hp) (ev wi : V) (ps : Pt → V) (xs : Pt → List V) : Prop where
  e : Th K H ev
  w : Th K H wi
  p : ∀ u, Th K H (ps u)
  q : ∀ u, isSeq H (ps u) = true → ∃ a, ps u = .ref a ∧ (H a = some (.lst (xs u)) ∨ H a = some (.tup (xs u))) ∧ ∀ x ∈ xs u, ThD K H x
theorem th_backT {K : Frag} {H H' : Hp} {x : V} {q : Addr} {ys : List V} (th : Th K H x) (s : Same H H') (e : x = .ref q) (hq : H' q = some (.tup ys)) : H q = some (.tup ys) := by
  have go : ∀ u, H q = some u → H q = some (.tup ys) := fun u hu => by
    have w := s _ _ hu
    rw [hq] at w
    rw [hu, ← w]
  subst e
  cases th with
  | lst h => exact go _ h
  | tup h => exact go _ h
  | dct h => exact go _ h
  | ins h c => exact go _ h
  | dtt h => exact go _ h
theorem ThD.same {K : Frag} {H H' : Hp} {x : V} (h : ThD K H x) (s : Same H H') : ThD K H' x := ⟨h.1.same s, fun q ys e hq y hy => (h.2 q ys e (th_backT h.1 s e hq) y hy).same s⟩
theorem Six.same {K : Frag} {H H' : Hp} {ev wi : V} {ps : Pt → V} {xs : Pt → List V} (h : Six K H ev wi ps xs) (s : Same H H') : Six K H' ev wi ps xs :=
  ⟨h.e.same s, h.w.same s, fun u => (h.p u).same s, fun u hu => by
    rw [seq_same (h.p u) s] at hu
    obtain ⟨a, e, ha, hx⟩ := h.q u hu
    exact ⟨a, e, ha.elim (fun z => .inl (s _ _ z)) (fun z => .inr (s _ _ z)), fun x hx' => (hx x hx').same s⟩⟩
def vI : V → Int | .int i => i | _ => 0
/-- the first item that is none, if there is one -/
def Fb (H : Hp) (u : Pt) (xs : List V) (e w : Int) : Option Nat → Prop
  | none => ∀ x ∈ xs, ItemOk u H x e w
  | some i => (∃ x, xs[i]? = some x ∧ ¬ ItemOk u H x e w) ∧ ∀ (k : Nat) y, k < i → xs[k]? = some y → ItemOk u H y e w
inductive Out
  | wrong (i : Nat)
  | many
  | bad (j i : Nat)
  | made
def Out.enc : Out → List V
  | .wrong i => [.str "wrong", .int (i : Nat)]
  | .many => [.str "many", .int 24]
  | .bad j i => [.str "bad", .int (j : Nat), .int (i : Nat)]
  | .made => [.str "made", .bl true]
/-- part by part -/
def outP (n : Pt → Nat) (fb : Pt → Option Nat) : Nat → List Pt → Out
  | _, [] => .made
  | j, u :: r => if 24 < n u then .many else match fb u with | some i => .bad j i | none => outP n fb (j + 1) r
def outS (H : Hp) (ps : Pt → V) (n : Pt → Nat) (fb : Pt → Option Nat) : Nat → List Pt → Out
  | _, [] => outP n fb 2 pAt
  | j, u :: r => if isSeq H (ps u) = true then outS H ps n fb (j + 1) r else .wrong j
def outF (H : Hp) (ev wi : V) (ps : Pt → V) (xs : Pt → List V) (fb : Pt → Option Nat) : Out :=
  if belowB ev 9 = true then (if belowB wi 9 = true then outS H ps (fun u => (xs u).length) fb 2 pAt else .wrong 1) else .wrong 0
/-- what making raises for an outcome -/
def outE (CW CT CB : Addr) (E : XK) (H : Hp) : Out → Prop
  | .wrong i => ∀ H' d, Same H H' → H' d = none → E (.ref CW) (some d) (upd H' d (.xd [("place", .int (i : Nat))]))
  | .many => ∀ H' d, Same H H' → H' d = none → E (.ref CT) (some d) (upd H' d (.xd [("limit", .int 24)]))
  | .bad j i => ∀ H' d, Same H H' → H' d = none → E (.ref CB) (some d) (upd H' d (.xd [("index", .int (i : Nat)), ("place", .int (j : Nat))]))
  | .made => True
theorem outE.from {CW CT CB : Addr} {E : XK} {H H1 : Hp} {r : Out} (h : outE CW CT CB E H r) (s : Same H H1) : outE CW CT CB E H1 r := by
  cases r with
  | wrong i => exact fun H' d s' hd => h H' d (s.trans s') hd
  | many => exact fun H' d s' hd => h H' d (s.trans s') hd
  | bad j i => exact fun H' d s' hd => h H' d (s.trans s') hd
  | made => trivial
def spCaY (K : Frag) (CW : Addr) : Sp := fun vs H Q E => ∃ (ev wi : V) (q : Addr) (ps : Pt → V), vs = [ev, wi, .ref q] ∧ H q = some (.tup [ps .tel, ps .gap, ps .sur, ps .cla]) ∧ Th K H ev ∧ Th K H wi ∧ (∀ u, Th K H (ps u)) ∧
  (belowB ev 9 = false → ∀ H' d, Same H H' → H' d = none → E (.ref CW) (some d) (upd H' d (.xd [("place", .int 0)]))) ∧
  (belowB ev 9 = true → belowB wi 9 = false → ∀ H' d, Same H H' → H' d = none → E (.ref CW) (some d) (upd H' d (.xd [("place", .int 1)]))) ∧
  (belowB ev 9 = true → belowB wi 9 = true → ∀ (j : Nat) u, pAt[j]? = some u → (∀ (i : Nat) v, i < j → pAt[i]? = some v → isSeq H (ps v) = true) → isSeq H (ps u) = false → ∀ H' d, Same H H' → H' d = none → E (.ref CW) (some d) (upd H' d (.xd [("place", .int (2 + (j : Nat)))]))) ∧
  (belowB ev 9 = true → belowB wi 9 = true → (∀ u, isSeq H (ps u) = true) → ∀ H', Same H H' → Q .non H')
section
variable {P : Program} {w : World} {K : Frag} {mg : Str → Option Value} {base : Heap} {f C aForms aParts : Addr} {fd : FuncData}
theorem ok_check_argumentsY {CW : Addr} (F : Fun K "_check_arguments" "_check_arguments" s__check_arguments f fd) (T : BoT K w mg aForms aParts) (c_is_below : Cal P w K mg base CX0 2 "is_below" ["thing", "many"] (spBelow K)) (c_Wrong : ErrG P w K mg base "Wrong" CW ["self", "place"] (spErr1 CW "place")) :
    FnOk P w K mg base (L2.CX P w) 3 f fd ["events", "witnesses", "parts"] (spCaY K CW) := by
  refine F.okX sc__check_arguments (fun vs H Q E h => ?_) (fun cdv A outer s H vs Q E hr h => ?_)
  · obtain ⟨_, _, _, _, rfl, _⟩ := h
    rfl
  · obtain ⟨ev, wi, q, ps, rfl, hq, te, tw, tp, k0, k1, kp, k⟩ := h
    refine ⟨_, (pss_cons (ps_if (pt_not (pt_val (pe_cal c_is_below (hr.mono (by decide)) pass0 (pa_cons (pv 0) (pa_cons (pe_op u_add (pe_gc (v := .int 8) rfl T.k_MOST_EVENTS) pe_int) pa_nil)))))
    (pss_one (ps_rz c_Wrong (hr.mono (by decide)) rfl (takes_of rfl rfl rfl rfl) (pa_cons pe_int pa_nil)))
    pss_nil)
  (pss_cons (ps_if (pt_not (pt_val (pe_cal c_is_below (hr.mono (by decide)) pass0 (pa_cons (pv 1) (pa_cons (pe_op u_add (pe_gc (v := .int 8) rfl T.k_MOST_WITNESSES) pe_int) pa_nil)))))
    (pss_one (ps_rz c_Wrong (hr.mono (by decide)) rfl (takes_of rfl rfl rfl rfl) (pa_cons pe_int pa_nil)))
    pss_nil)
  (pss_one (ps_for (passes_of rfl) rfl (pi_es rfl T.b.enumerate_ (pa_cons (pv 2) pa_nil) (by decide) (by decide)) (pg_tup rfl (pgs_cons (pg_name (i := 3) sc__check_arguments.nd rfl (Or.inl rfl)) (pgs_cons (pg_name (i := 4) sc__check_arguments.nd rfl (Or.inl rfl)) pgs_nil)))
    (pss_one (ps_if (pt_not (pt_val (pe_callB u_isi rfl T.b.isinstance_ boot_isinstance (pa_cons (pv 4) (pa_cons (pe_tup (pa_cons (pe_bltn (v := V.ty "list") rfl T.b.list_ (by decide +kernel) rfl) (pa_cons (pe_bltn (v := V.ty "tuple") rfl T.b.tuple_ (by decide +kernel) rfl) pa_nil))) pa_nil)))))
    (pss_one (ps_rz c_Wrong (hr.mono (by decide)) rfl (takes_of rfl rfl rfl rfl) (pa_cons (pv 3) pa_nil)))
    pss_nil)))))), ?_⟩
    walk_at "el"
    refine ⟨ev, 9, rfl, te, fun H1 s1 => ?_⟩
    cases b0 : belowB ev 9
    · walk_at "el"
      refine n_err1 fun d hd => ?_
      exact k0 b0 H1 d s1 hd
    walk_at "el"
    refine ⟨wi, 9, rfl, tw.same s1, fun H2 s2 => ?_⟩
    have s12 := s1.trans s2
    cases b1 : belowB wi 9
    · walk_at "el"
      refine n_err1 fun d hd => ?_
      exact k1 b0 b1 H2 d s12 hd
    walk_at "el"
    refine ⟨q, _, rfl, SqT.of (s12 _ _ hq), ?_⟩
    have all : ∀ (i : Nat) (x : V), [ps .tel, ps .gap, ps .sur, ps .cla][i]? = some x → ∃ u, pAt[i]? = some u ∧ x = ps u := by
      intro i x hx
      rcases i with _ | _ | _ | _ | i <;> cases hx <;> exact ⟨_, rfl, rfl⟩
    refine lp_it walk_es (fun i σ H3 => Same H H3 ∧ (∀ (j : Nat) v, j < i → pAt[j]? = some v → isSeq H (ps v) = true) ∧ ∃ v3 v4, σ = [some ev, some wi, some (.ref q), v3, v4]) ⟨s12, fun j v h => absurd h (Nat.not_lt_zero j), _, _, rfl⟩ (fun i σ H3 hi h => SqT.of (h.1 _ _ hq)) ?_ ?_
    · rintro i x σ H3 H4 hi ⟨s3, pre, v3, v4, rfl⟩ ⟨r, y, rfl, hr, rfl, hy⟩
      obtain ⟨u, hu, rfl⟩ := all i y hy
      have s4 := L2.Same.nw (o := .tup [.int ((2 : Int) + i), ps u]) s3 hr
      refine a_gtup (SqT.of upd_same) rfl ?_
      walk_at "el"
      refine ⟨by show 2 ≤ sizeLine; decide, fun r2 hr2 => ?_⟩
      have s5 := L2.Same.nw (o := .tup [.ty "list", .ty "tuple"]) s4 hr2
      obtain ⟨t, kt⟩ := ((tp u).same s5).kit
      walk_at "el"
      refine n_isLT kt upd_same ?_
      have es := seq_same (tp u) s5
      unfold isSeq at es
      rw [es]
      cases bs : (isL H (ps u) || isT H (ps u))
      · walk_at "el"
        refine n_err1 fun d hd => ?_
        exact kp b0 b1 i u hu pre bs _ d s5 hd
      · walk_at "el"
        refine ⟨s5, fun j v hj hv => ?_, _, _, rfl⟩
        by_cases e : j = i
        · subst e
          rw [hu] at hv
          cases hv
          exact bs
        · exact pre j v (by omega) hv
    · rintro σ H3 ⟨s3, pre, v3, v4, rfl⟩
      exact k b0 b1 (fun u => by
        cases u
        · exact pre 0 _ (by show 0 < 4; decide) rfl
        · exact pre 1 _ (by show 1 < 4; decide) rfl
        · exact pre 2 _ (by show 2 < 4; decide) rfl
        · exact pre 3 _ (by show 3 < 4; decide) rfl) _ s3
theorem outS_wrong {H : Hp} {ps : Pt → V} {n : Pt → Nat} {fb : Pt → Option Nat} {j : Nat} {u : Pt} (hu : pAt[j]? = some u) (pre : ∀ (i : Nat) v, i < j → pAt[i]? = some v → isSeq H (ps v) = true) (no : isSeq H (ps u) = false) : outS H ps n fb 2 pAt = .wrong (2 + j) := by
  have no' : ¬ isSeq H (ps u) = true := by rw [no]; exact Bool.false_ne_true
  rcases j with _ | _ | _ | _ | j
  · cases hu
    unfold pAt outS; rw [if_neg no']
  · cases hu
    unfold pAt outS; rw [if_pos (pre 0 _ (by decide) rfl)]
    unfold outS; rw [if_neg no']
  · cases hu
    unfold pAt outS; rw [if_pos (pre 0 _ (by decide) rfl)]
    unfold outS; rw [if_pos (pre 1 _ (by decide) rfl)]
    unfold outS; rw [if_neg no']
  · cases hu
    unfold pAt outS; rw [if_pos (pre 0 _ (by decide) rfl)]
    unfold outS; rw [if_pos (pre 1 _ (by decide) rfl)]
    unfold outS; rw [if_pos (pre 2 _ (by decide) rfl)]
    unfold outS; rw [if_neg no']
  · cases hu
theorem outS_all {H : Hp} {ps : Pt → V} {n : Pt → Nat} {fb : Pt → Option Nat} (h : ∀ u, isSeq H (ps u) = true) : outS H ps n fb 2 pAt = outP n fb 2 pAt := by
  unfold pAt outS; rw [if_pos (h _)]
  unfold outS; rw [if_pos (h _)]
  unfold outS; rw [if_pos (h _)]
  unfold outS; rw [if_pos (h _)]
  unfold outS; rfl
theorem outP_at {n : Pt → Nat} {fb : Pt → Option Nat} {i : Nat} {u : Pt} (hu : pAt[i]? = some u) (pre : ∀ (j : Nat) v, j < i → pAt[j]? = some v → n v ≤ 24 ∧ fb v = none) : outP n fb 2 pAt = if 24 < n u then .many else match fb u with | some k => .bad (2 + i) k | none => outP n fb (2 + i + 1) (pAt.drop (i + 1)) := by
  have go : ∀ (v : Pt) (m : Nat) (r : List Pt), n v ≤ 24 → fb v = none → outP n fb m (v :: r) = outP n fb (m + 1) r := fun v m r a b => by
    show (if 24 < n v then Out.many else match fb v with | some k => .bad m k | none => outP n fb (m + 1) r) = _
    rw [if_neg (by omega), b]
  rcases i with _ | _ | _ | _ | i
  · cases hu; rfl
  · cases hu
    obtain ⟨a0, b0⟩ := pre 0 _ (by decide) rfl
    unfold pAt
    rw [go _ _ _ a0 b0]; rfl
  · cases hu
    obtain ⟨a0, b0⟩ := pre 0 _ (by decide) rfl
    obtain ⟨a1, b1⟩ := pre 1 _ (by decide) rfl
    unfold pAt
    rw [go _ _ _ a0 b0, go _ _ _ a1 b1]; rfl
  · cases hu
    obtain ⟨a0, b0⟩ := pre 0 _ (by decide) rfl
    obtain ⟨a1, b1⟩ := pre 1 _ (by decide) rfl
    obtain ⟨a2, b2⟩ := pre 2 _ (by decide) rfl
    unfold pAt
    rw [go _ _ _ a0 b0, go _ _ _ a1 b1, go _ _ _ a2 b2]; rfl
  · cases hu
def spInitY (K : Frag) (C CW CT CB : Addr) : Sp := fun vs H Q E => ∃ (o dx : Addr) (ev wi : V) (ps : Pt → V) (xs : Pt → List V) (fb : Pt → Option Nat), vs = [.ref o, ev, wi, ps .tel, ps .gap, ps .sur, ps .cla] ∧ H o = some (.ins C dx []) ∧ Six K H ev wi ps xs ∧
  (belowB ev 9 = true → belowB wi 9 = true → ∀ u, isSeq H (ps u) = true → Fb H u (xs u) (vI ev) (vI wi) (fb u)) ∧ outE CW CT CB E H (outF H ev wi ps xs fb) ∧
  (outF H ev wi ps xs fb = .made → ∀ H' t g s c, Kp o H H' → H' o = some (bookO C dx (vI ev) (vI wi) t g s c) → Q .non H')
theorem ok_initY {dvs : List V} {CW CT CB : Addr} (F : FunD K "__init__" "Book.__init__" (defArgs s_Book_init) (defBody s_Book_init) (defScope s_Book_init) dvs [] f fd) (T : BoT K w mg aForms aParts) (B : BkC K C)
    (c__check_arguments : Cal P w K mg base (L2.CX P w) 3 "_check_arguments" ["events", "witnesses", "parts"] (spCaY K CW)) (c__check_items : Cal P w K mg base (L2.CX P w) 6 "_check_items" ["place", "part", "items", "events", "witnesses"] (spCiX K CT CB)) :
    FnOk P w K mg base (L2.CX P w) 7 f fd ["self", "events", "witnesses", "tellings", "gaps", "sure", "clauses"] (spInitY K C CW CT CB) := by
  refine F.ok sc_Book_init (fun vs H Q E h => ?_) (fun cdv A outer s H vs Q E hr h => ?_)
  · obtain ⟨_, _, _, _, _, _, _, rfl, _⟩ := h
    rfl
  · obtain ⟨o, dx, ev, wi, ps, xs, fb, rfl, ho, S, hfb, kE, kQ⟩ := h
    refine ⟨_, (pss_cons (ps_set (i := 7) sc_Book_init.nd rfl (Or.inl rfl) (pe_tup (pa_cons (pv 3) (pa_cons (pv 4) (pa_cons (pv 5) (pa_cons (pv 6) pa_nil))))))
  (pss_cons (ps_expr (pe_cal c__check_arguments (hr.mono (by decide)) (passE (takes_of rfl rfl rfl rfl)) (pa_cons (pv 1) (pa_cons (pv 2) (pa_cons (pv 7) pa_nil)))))
  (pss_cons (ps_for (passes_of rfl) rfl (pi_ez rfl T.b.enumerate_ rfl T.b.zip_ (pa_cons (pe_glob (v := .ref aParts) rfl T.gParts rfl) (pa_cons (pv 7) pa_nil)) (by decide) (by decide)) (pg_tup rfl (pgs_cons (pg_name (i := 8) sc_Book_init.nd rfl (Or.inl rfl)) (pgs_cons (pg_tup rfl (pgs_cons (pg_name (i := 9) sc_Book_init.nd rfl (Or.inl rfl)) (pgs_cons (pg_name (i := 10) sc_Book_init.nd rfl (Or.inl rfl)) pgs_nil))) pgs_nil)))
    (pss_one (ps_expr (pe_cal c__check_items (hr.mono (by decide)) (passE (takes_of rfl rfl rfl rfl)) (pa_cons (pv 8) (pa_cons (pv 9) (pa_cons (pv 10) (pa_cons (pv 1) (pa_cons (pv 2) pa_nil)))))))))
  (pss_cons (ps_fld (pv 0) (pv 1) rfl)
  (pss_cons (ps_fld (pv 0) (pv 2) rfl)
  (pss_cons (ps_fld (pv 0) (pe_callTy u_tuple rfl T.b.tuple_ (by decide +kernel) (pa_cons (pv 3) pa_nil)) rfl)
  (pss_cons (ps_fld (pv 0) (pe_callTy u_tuple rfl T.b.tuple_ (by decide +kernel) (pa_cons (pv 4) pa_nil)) rfl)
  (pss_cons (ps_fld (pv 0) (pe_callTy u_tuple rfl T.b.tuple_ (by decide +kernel) (pa_cons (pv 5) pa_nil)) rfl)
  (pss_one (ps_fld (pv 0) (pe_callTy u_tuple rfl T.b.tuple_ (by decide +kernel) (pa_cons (pv 6) pa_nil)) rfl)))))))))), ?_⟩
    walk_at "el"
    refine ⟨by show 4 ≤ sizeLine; decide, fun q hq => ?_⟩
    have s1 := L2.Same.nw (o := .tup [ps .tel, ps .gap, ps .sur, ps .cla]) (Same.refl H) hq
    walk_at "el"
    refine ⟨ev, wi, q, ps, rfl, upd_same, S.e.same s1, S.w.same s1, fun u => (S.p u).same s1, fun b0 => ?_, fun b0 b1 => ?_, fun b0 b1 j u hu pre no => ?_, fun b0 b1 sq H2 s2 => ?_⟩
    · have e0 : outF H ev wi ps xs fb = .wrong 0 := by unfold outF; rw [b0, if_neg Bool.false_ne_true]
      rw [e0] at kE
      exact fun H' d s' hd => kE H' d (s1.trans s') hd
    · have e0 : outF H ev wi ps xs fb = .wrong 1 := by unfold outF; rw [b0, if_pos rfl, b1, if_neg Bool.false_ne_true]
      rw [e0] at kE
      exact fun H' d s' hd => kE H' d (s1.trans s') hd
    · have e0 : outF H ev wi ps xs fb = .wrong (2 + j) := by
        unfold outF; rw [b0, if_pos rfl, b1, if_pos rfl]
        exact outS_wrong hu (fun i v hi hv => by have := pre i v hi hv; rw [seq_same (S.p v) s1] at this; exact this) (by rw [seq_same (S.p u) s1] at no; exact no)
      rw [e0] at kE
      exact fun H' d s' hd => by
        have := kE H' d (s1.trans s') hd
        rw [Int.natCast_add] at this
        exact this
    obtain ⟨e, rfl, e0, e9⟩ := below_int b0
    obtain ⟨w', rfl, w0, w9⟩ := below_int b1
    have sq' : ∀ u, isSeq H (ps u) = true := fun u => by have := sq u; rw [seq_same (S.p u) s1] at this; exact this
    have oF : outF H (.int e) (.int w') ps xs fb = outP (fun u => (xs u).length) fb 2 pAt := by
      unfold outF; rw [b0, if_pos rfl, b1, if_pos rfl]
      exact outS_all sq'
    have hfb := fun u => hfb b0 b1 u (sq' u)
    have hq2 : H2 q = some (.tup [ps .tel, ps .gap, ps .sur, ps .cla]) := s2 _ _ upd_same
    have s12 := s1.trans s2
    clear s1 s2 sq
    have sa : ∀ u, ∃ a, ps u = .ref a ∧ SqA K H a (xs u) ∧ ∀ x ∈ xs u, ThD K H x := fun u => by
      obtain ⟨a, ea, ha, hx⟩ := S.q u (sq' u)
      exact ⟨a, ea, ha.elim (fun z => .inl z) (fun z => .inr (SqT.of z)), hx⟩
    walk_at "el"
    refine ⟨aParts, q, _, _, rfl, T.parts _, SqT.of hq2, ?_⟩
    have all : ∀ (i : Nat) (x y : V), [V.str "tellings", V.str "gaps", V.str "sure", V.str "clauses"][i]? = some x → [ps .tel, ps .gap, ps .sur, ps .cla][i]? = some y → ∃ u, pAt[i]? = some u ∧ x = .str (Pt.name u) ∧ y = ps u := by
      intro i x y hx hy
      rcases i with _ | _ | _ | _ | i <;> cases hx <;> cases hy <;> exact ⟨_, rfl, rfl, rfl⟩
    refine lp_it (walk_ez (xs := [.str "tellings", .str "gaps", .str "sure", .str "clauses"]) (ys := [ps .tel, ps .gap, ps .sur, ps .cla]) rfl) (fun i σ H3 => Same H H3 ∧ H3 q = some (.tup [ps .tel, ps .gap, ps .sur, ps .cla]) ∧ (∀ (j : Nat) v, j < i → pAt[j]? = some v → (xs v).length ≤ 24 ∧ fb v = none) ∧ ∃ v3 v4 v5, σ = [some (.ref o), some (.int e), some (.int w'), some (ps .tel), some (ps .gap), some (ps .sur), some (ps .cla), some (.ref q), v3, v4, v5]) ⟨s12, hq2, fun j _ h => absurd h (Nat.not_lt_zero j), _, _, _, rfl⟩ (fun i σ H3 hi h => ⟨T.parts _, SqT.of h.2.1⟩) ?_ ?_
    · rintro i x σ H3 H4 hi ⟨s3, hq3, sh, v3, v4, v5, rfl⟩ ⟨r0, r1, x0, y0, rfl, hr0, hr1, ne, rfl, hx, hy⟩
      obtain ⟨u, hu, rfl, rfl⟩ := all i _ _ hx hy
      obtain ⟨a, ea, ha, hth⟩ := sa u
      have s4 := L2.Same.nw (o := .tup [.str u.name, ps u]) (Same.refl H3) hr0
      have s5 := L2.Same.nw (H1 := upd H3 r0 (.tup [.str u.name, ps u])) (o := .tup [.int ((2 : Int) + i), .ref r0]) s4 (by rw [upd_ne (Ne.symm ne)]; exact hr1)
      have s35 := s3.trans s5
      refine a_gtup (SqT.of upd_same) rfl ?_
      walk_at "el"
      refine a_gtup (SqT.of (by rw [upd_ne ne]; exact upd_same)) rfl ?_
      walk_at "el"
      have oA := outP_at (n := fun u => (xs u).length) hu sh
      rw [← oF] at oA
      have kE' := kE.from s35
      have fu := hfb u
      refine ⟨_, u, a, xs u, e, w', by rw [ea], ha.same s35, fun x hx => (hth x hx).same s35, fun lg d hd => ?_, fun l24 ok H6 s6 => ?_, fun l24 i' x' hx' pre no H6 d s6 hd => ?_⟩
      · rw [oA, if_pos lg] at kE'
        exact kE' _ d (Same.refl _) hd
      · have fn : fb u = none := by
          cases ef : fb u with
          | none => rfl
          | some i' =>
            rw [ef] at fu
            obtain ⟨⟨x, hx, no⟩, _⟩ := fu
            exact absurd ((ok x (List.mem_of_getElem? hx)).back (hth x (List.mem_of_getElem? hx)).1 s35) no
        walk_at "el"
        refine ⟨s35.trans s6, s6 _ _ (s5 _ _ hq3), fun j v hj hv => ?_, _, _, _, rfl⟩
        by_cases ej : j = i
        · subst ej
          rw [hu] at hv
          cases hv
          exact ⟨l24, fn⟩
        · exact sh j v (by omega) hv
      · have tx := (hth x' (List.mem_of_getElem? hx')).1
        have fn : fb u = some i' := by
          cases ef : fb u with
          | none =>
            rw [ef] at fu
            exact absurd ((fu x' (List.mem_of_getElem? hx')).same s35) no
          | some i2 =>
            rw [ef] at fu
            obtain ⟨⟨x, hx, no2⟩, pre2⟩ := fu
            rcases Nat.lt_trichotomy i' i2 with l | el | l
            · exact absurd ((pre2 i' x' l hx').same s35) no
            · rw [el]
            · exact absurd ((pre i2 x l hx).back (hth x (List.mem_of_getElem? hx)).1 s35) no2
        rw [oA, if_neg (by show ¬ 24 < (xs u).length; omega), fn] at kE'
        have := kE' H6 d s6 hd
        rw [Int.natCast_add] at this
        exact this
    · rintro σ H3 ⟨s3, _, sh, v3, v4, v5, rfl⟩
      have o3 := s3 _ _ ho
      have k0 : Kp o H H3 := same_kp s3
      clear all hq2 s12
      obtain ⟨t, et, ht, _⟩ := sa .tel
      obtain ⟨g, eg, hg, _⟩ := sa .gap
      obtain ⟨s, es, hs, _⟩ := sa .sur
      obtain ⟨c, ec, hc, _⟩ := sa .cla
      rw [et, eg, es, ec]
      walk_at "el"
      refine ⟨o, C, dx, _, rfl, o3, B.own.cl, B.n0, by decide, ?_⟩
      walk_at "el"
      refine ⟨o, C, dx, _, rfl, upd_same, B.own.cl, B.n1, by show 1 < 1000; decide, ?_⟩
      walk_at "el"
      have k1 : Kp o H (upd (upd H3 o (.ins C dx (putF "_events" (.int e) []))) o (.ins C dx (putF "_witnesses" (.int w') (putF "_events" (.int e) [])))) := k0.bag.bag
      refine n_tuple (ht.kp ho k1) fun t' H4 s4 ht' => ?_
      have o4 := s4 _ _ upd_same
      have k2 := k1.trans (same_kp s4)
      clear k1 s4 o3 k0
      walk_at "el"
      refine ⟨o, C, dx, _, rfl, o4, B.own.cl, B.n2, by show 2 < 1000; decide, ?_⟩
      walk_at "el"
      have k3 := k2.bag (o := .ins C dx (putF "_tellings" (.ref t') (putF "_witnesses" (.int w') (putF "_events" (.int e) []))))
      have ht1 := SqT.kp ht' o4 (Kp.bag (Kp.refl o H4) (o := .ins C dx (putF "_tellings" (.ref t') (putF "_witnesses" (.int w') (putF "_events" (.int e) [])))))
      refine n_tuple (hg.kp ho k3) fun g' H5 s5 hg' => ?_
      have o5 := s5 _ _ upd_same
      have k4 := k3.trans (same_kp s5)
      have ht2 := ht1.same s5
      clear k3 s5 o4 k2 ht1 ht'
      walk_at "el"
      refine ⟨o, C, dx, _, rfl, o5, B.own.cl, B.n3, by show 3 < 1000; decide, ?_⟩
      walk_at "el"
      generalize hfs : putF "_gaps" (.ref g') (putF "_tellings" (.ref t') (putF "_witnesses" (.int w') (putF "_events" (.int e) []))) = fs4
      have k5 := k4.bag (o := .ins C dx fs4)
      have kk := Kp.bag (Kp.refl o H5) (o := .ins C dx fs4)
      refine n_tuple (hs.kp ho k5) fun s' H6 s6 hs' => ?_
      have o6 := s6 _ _ upd_same
      have k6 := k5.trans (same_kp s6)
      have ht3 := (SqT.kp ht2 o5 kk).same s6
      have hg3 := (SqT.kp hg' o5 kk).same s6
      clear k5 s6 o5 k4 ht2 hg' kk
      walk_at "el"
      refine ⟨o, C, dx, _, rfl, o6, B.own.cl, B.n4, by subst hfs; show 4 < 1000; decide, ?_⟩
      walk_at "el"
      generalize hfs5 : putF "_sure" (.ref s') fs4 = fs5
      have k7 := k6.bag (o := .ins C dx fs5)
      have kk := Kp.bag (Kp.refl o H6) (o := .ins C dx fs5)
      refine n_tuple (hc.kp ho k7) fun c' H7 s7 hc' => ?_
      have o7 := s7 _ _ upd_same
      have k8 := k7.trans (same_kp s7)
      have ht4 := (SqT.kp ht3 o6 kk).same s7
      have hg4 := (SqT.kp hg3 o6 kk).same s7
      have hs4 := (SqT.kp hs' o6 kk).same s7
      clear k7 s7 o6 k6 ht3 hg3 hs' kk
      walk_at "el"
      refine ⟨o, C, dx, _, rfl, o7, B.own.cl, B.n5, by subst hfs5; subst hfs; show 5 < 1000; decide, ?_⟩
      walk_at "el"
      have kk := Kp.bag (Kp.refl o H7) (o := .ins C dx (putF "_clauses" (.ref c') fs5))
      refine kQ ?_ _ t' g' s' c' (k8.trans kk) ?_
      · rw [oF]
        unfold pAt outP
        rw [if_neg (show ¬ 24 < (xs .tel).length by have := (sh 0 .tel (by decide) rfl).1; omega), (sh 0 .tel (by decide) rfl).2]
        dsimp only
        unfold outP
        rw [if_neg (show ¬ 24 < (xs .gap).length by have := (sh 1 .gap (by decide) rfl).1; omega), (sh 1 .gap (by decide) rfl).2]
        dsimp only
        unfold outP
        rw [if_neg (show ¬ 24 < (xs .sur).length by have := (sh 2 .sur (by decide) rfl).1; omega), (sh 2 .sur (by decide) rfl).2]
        dsimp only
        unfold outP
        rw [if_neg (show ¬ 24 < (xs .cla).length by have := (sh 3 .cla (by decide) rfl).1; omega), (sh 3 .cla (by decide) rfl).2]
        dsimp only
        unfold outP
        rfl
      rw [upd_same]
      subst hfs5
      subst hfs
      rfl
end
end EL

/- part Z14B -/
namespace EL
open PySem PySem.Spec PyProof.Rows L2
open PySem.W (Frag)
abbrev s_heard : Stmt := top 37
abbrev N_heard : List Str := ["_law_things", "e", "_law_flags"]
theorem sc_heard : FnScope N_heard ["_law_things"] (defScope s_heard) := ⟨rfl, rfl, rfl, by decide +kernel, rfl, by decide +kernel, by decide +kernel⟩
abbrev s_due : Stmt := top 42
abbrev N_due : List Str := ["_law_things", "_law_spoilt_here", "_law_place"]
theorem sc_due : FnScope N_due ["_law_things", "_law_spoilt_here"] (defScope s_due) := ⟨rfl, rfl, rfl, by decide +kernel, rfl, by decide +kernel, by decide +kernel⟩
local macro_rules | `(tactic| walk_at "el1") => `(tactic| with_reducible first
  | refine a_sasg ?_ | refine a_sdrop ?_ | refine a_saugS ?_ | refine a_spar ?_ | refine a_seq ?_ | refine a_asg ?_ | refine a_drop ?_ | refine a_ret ?_ | refine a_if ?_ | refine a_next ?_
  | refine a_op ?_ | refine a_cons ?_ | refine a_nil ?_ | refine a_cb ?_ | refine a_call ?_ | refine a_c ?_ | refine a_gn ?_ | refine a_nx ?_ | refine a_rt ?_ | refine a_un ?_
  | refine a_test ?_ | refine a_B ?_ | refine a_bl ?_ | refine a_and ?_ | refine a_or ?_ | refine a_not ?_ | refine a_andV ?_ | refine a_orV ?_ | refine a_notV ?_ | refine a_ifx ?_ | refine a_chain ?_
  | refine a_nT ?_ | refine a_nF ?_ | refine a_fld ?_ | refine a_getF ?_ | refine a_T ?_ | refine a_F ?_ | refine a_tup ?_ | refine a_lst ?_ | refine a_sub ?_ | refine a_augS ?_ | refine a_two ?_ | refine a_I0 ?_ | refine a_U ?_ | refine n_add ?_ | refine n_int ?_ | refine n_ib ?_ | refine a_ip ?_ | refine a_rng1 ?_ | refine a_rng2 ?_ | refine a_bm ?_ | refine a_abs ?_ | refine a_pairs ?_ | refine a_pairs0 ?_ | refine a_bk ?_ | refine a_prp ?_ | refine a_lc ?_ | refine a_yes ?_ | refine a_sl ?_ | refine a_nop ?_ | refine a_prt ?_ | refine a_ex1 ?_ | refine a_for ?_ | refine a_sfor ?_ | refine a_iE1 ?_ | refine a_iEs ?_ | refine a_iEz ?_ | refine a_iEnum ?_ | refine a_iTup ?_ | refine a_iList ?_ | refine a_gcons ?_ | refine a_gnil ?_ | refine a_revT ?_ | refine a_spar3 ?_ | refine a_par3 ?_ | refine a_three ?_)
local macro_rules | `(tactic| walk_at "el2") => `(tactic| first
  | (refine a_var (by rfl) ?_)
  | (refine n_ixL (SqL.of (by assumption)) (by rfl) ?_) | (refine n_ixT (SqT.of (by assumption)) (by rfl) ?_) | (refine n_eq (by rfl) ?_) | (refine n_ne (by rfl) ?_)
  | (refine n_isN ?_) | (refine n_notN ?_) | (refine n_isB ?_) | (refine n_notB ?_) | (refine n_isBI ?_) | (refine n_notBI ?_) | (refine n_len (.inl (SqL.of (by assumption))) ?_) | (refine n_len (.inr (SqT.of (by assumption))) ?_)
  | (refine a_getL (SqL.of (by assumption)) (by rfl) ?_)
  | (refine n_isInt (by assumption) ?_) | (refine n_isBool (by assumption) ?_) | (refine n_isStr (by assumption) ?_) | (refine n_isTup (by assumption) ?_) | (refine n_isLst (by assumption) ?_))
local macro_rules | `(tactic| walk_at "el") => `(tactic| repeat (first | walk_at "el1" | walk_at "el2"))

/-! ### a making in a try whose suite reads slots -/
theorem takes_len {X : Cx} {W : WX} (tk : Takes X W) : Takes X (fun cls d _ H => ∀ σ' : L2.St, σ'.length = X.N.length → W cls d σ' H) := fun u s' ⟨a, B, sI, pins, σ, H, cls, d, e, I, nb, up, sky, na, os, ag, w⟩ => tk u s' ⟨a, B, sI, pins, σ, H, cls, d, e, I, nb, up, sky, na, os, ag, w σ I.len⟩
structure BookGY (P : Program) (w : World) (K : Frag) (mg : Str → Option Value) (base : Heap) (C CW CT CB : Addr) (fI : Addr) (fd : FuncData) : Prop where
  made : Mk K C fI
  fn : FnOk P w K mg base (L2.CX P w) 7 fI fd psBook (spInitY K C CW CT CB)
  b6 : L2.Binds K fd psBook []
  g : mg "Book" = some (.ref C)
def MkBY (K : Frag) (C CW CT CB : Addr) (E : XK) (vs : List V) (H1 : Hp) (Q : VK) : Prop := ∀ x dx, H1 x = none → H1 dx = none → dx ≠ x → spInitY K C CW CT CB (.ref x :: (vs ++ [])) (upd (upd H1 dx (.own x)) x (.ins C dx [])) (fun v H2 => v = .non ∧ Q (.ref x) H2) E
def tBkY (K : Frag) (C CW CT CB : Addr) (n : Nat) (W : WX) (t : TA) : TE := fun σ H Q => t σ H fun vs H1 => MkBY K C CW CT CB (fun cls d H => ∀ σ' : L2.St, σ'.length = n → W cls d σ' H) vs H1 Q
theorem a_bkY {K : Frag} {C CW CT CB : Addr} {n : Nat} {W : WX} {σ : L2.St} {H : Hp} {Q : VK} {t : TA} (q : t σ H fun vs H1 => MkBY K C CW CT CB (fun cls d H => ∀ σ' : L2.St, σ'.length = n → W cls d σ' H) vs H1 Q) : tBkY K C CW CT CB n W t σ H Q := q
theorem pe_bk6Y {X : Cx} {W : WX} {C CW CT CB fI : Addr} {fd : FuncData} {pos p : Pos} {e : Expr} {es : List Expr} {t : TA} (B : BookGY X.prog X.w X.K X.mg X.base C CW CT CB fI fd) (hr : Room 8 X.A) (tk : Takes X W) (ha : PA X (e :: es) t) (hg : Gl X "Book" := by rfl) (he : starEach (e :: es) X.env = (false, eval e X.env) :: starEach es X.env := by rfl) (hpl : (backTo pos (starEach es X.env)).any (·.1) = false := by rfl) :
    PE X (.Call (.Name "Book" p) (e :: es) [] pos) (tBkY X.K C CW CT CB X.N.length W t) := pe_make (p := p) (pos := pos) B.made B.fn hr hg B.g B.b6 .nil (passE (takes_len tk)) ha (by decide) he hpl
theorem outS_same {H H' : Hp} {ps : Pt → V} {n : Pt → Nat} {fb : Pt → Option Nat} (h : ∀ u, isSeq H' (ps u) = isSeq H (ps u)) : ∀ (j : Nat) (r : List Pt), outS H' ps n fb j r = outS H ps n fb j r
  | _, [] => rfl
  | j, u :: r => by
    show (if isSeq H' (ps u) = true then outS H' ps n fb (j + 1) r else Out.wrong j) = if isSeq H (ps u) = true then outS H ps n fb (j + 1) r else Out.wrong j
    rw [h, outS_same h (j + 1) r]
theorem outF_same {H H' : Hp} {ev wi : V} {ps : Pt → V} {xs : Pt → List V} {fb : Pt → Option Nat} (h : ∀ u, isSeq H' (ps u) = isSeq H (ps u)) : outF H' ev wi ps xs fb = outF H ev wi ps xs fb := by
  unfold outF; rw [outS_same h]
theorem Fb.same {K : Frag} {H H' : Hp} {u : Pt} {xs : List V} {e w : Int} {o : Option Nat} (h : Fb H u xs e w o) (th : ∀ x ∈ xs, ThD K H x) (s : Same H H') : Fb H' u xs e w o := by
  cases o with
  | none => exact fun x hx => (h x hx).same s
  | some i =>
    obtain ⟨⟨x, hx, no⟩, pre⟩ := h
    exact ⟨⟨x, hx, fun z => no (z.back (th x (List.mem_of_getElem? hx)).1 s)⟩, fun k y hk hy => (pre k y hk hy).same s⟩
theorem n_bk6Y {K : Frag} {C CW CT CB : Addr} {E : XK} {H : Hp} {Q : VK} {ev wi : V} {ps : Pt → V} {xs : Pt → List V} {fb : Pt → Option Nat} (S : Six K H ev wi ps xs) (hfb : belowB ev 9 = true → belowB wi 9 = true → ∀ u, isSeq H (ps u) = true → Fb H u (xs u) (vI ev) (vI wi) (fb u)) (kE : outE CW CT CB E H (outF H ev wi ps xs fb))
    (k : outF H ev wi ps xs fb = .made → ∀ o dx H' t g s c, Same H H' → H' o = some (bookO C dx (vI ev) (vI wi) t g s c) → Q (.ref o) H') : MkBY K C CW CT CB E [ev, wi, ps .tel, ps .gap, ps .sur, ps .cla] H Q := fun x dx nx nd ne => by
  have s0 := new_same (C := C) nx nd ne
  have es : ∀ u, isSeq (upd (upd H dx (.own x)) x (.ins C dx [])) (ps u) = isSeq H (ps u) := fun u => seq_same (S.p u) s0
  refine ⟨x, dx, ev, wi, ps, xs, fb, rfl, upd_same, S.same s0, fun b0 b1 u hu => ?_, ?_, fun em H' t g s c kp ho => ⟨rfl, ?_⟩⟩
  · rw [es] at hu
    obtain ⟨_, _, _, hx⟩ := S.q u hu
    exact (hfb b0 b1 u hu).same hx s0
  · rw [outF_same es]
    exact kE.from s0
  · rw [outF_same es] at em
    exact k em x dx H' t g s c (made_same nx nd kp) ho
/-! ### what a law hears of it -/
structure HearY (K : Frag) (mg : Str → Option Value) (C_Wrong C_TooMany C_BadItem C_CaseError : Addr) : Prop where
  gC : mg "CaseError" = some (.ref C_CaseError)
  gW : mg "Wrong" = some (.ref C_Wrong)
  gT : mg "TooMany" = some (.ref C_TooMany)
  gB : mg "BadItem" = some (.ref C_BadItem)
  xmW : PySem.W.exmOne K (.ref C_Wrong) (.ref C_CaseError) = some true
  xmT : PySem.W.exmOne K (.ref C_TooMany) (.ref C_CaseError) = some true
  xmB : PySem.W.exmOne K (.ref C_BadItem) (.ref C_CaseError) = some true
  xcW : ExcC K C_Wrong
  xfW : XfC K C_Wrong
  xcT : ExcC K C_TooMany
  xfT : XfC K C_TooMany
  xcB : ExcC K C_BadItem
  xfB : XfC K C_BadItem
  n1 : PySem.W.findIn K (.ref C_Wrong) "place" = some none
  n2 : PySem.W.findIn K (.ref C_TooMany) "limit" = some none
  n3 : PySem.W.findIn K (.ref C_BadItem) "place" = some none
  n4 : PySem.W.findIn K (.ref C_BadItem) "index" = some none
  ww : PySem.W.kitOne K (.ref C_Wrong) (.ref C_Wrong) = some true
  wt : PySem.W.kitOne K (.ref C_Wrong) (.ref C_TooMany) = some false
  wb : PySem.W.kitOne K (.ref C_Wrong) (.ref C_BadItem) = some false
  tw : PySem.W.kitOne K (.ref C_TooMany) (.ref C_Wrong) = some false
  tt : PySem.W.kitOne K (.ref C_TooMany) (.ref C_TooMany) = some true
  tb : PySem.W.kitOne K (.ref C_TooMany) (.ref C_BadItem) = some false
  bw : PySem.W.kitOne K (.ref C_BadItem) (.ref C_Wrong) = some false
  bt : PySem.W.kitOne K (.ref C_BadItem) (.ref C_TooMany) = some false
  bb : PySem.W.kitOne K (.ref C_BadItem) (.ref C_BadItem) = some true
def spHeardY (K : Frag) : Sp := fun vs H Q _ => ∃ (q : Addr) (ev wi : V) (ps : Pt → V) (xs : Pt → List V) (fb : Pt → Option Nat), vs = [.ref q] ∧ H q = some (.lst [ev, wi, ps .tel, ps .gap, ps .sur, ps .cla]) ∧ Six K H ev wi ps xs ∧
  (belowB ev 9 = true → belowB wi 9 = true → ∀ u, isSeq H (ps u) = true → Fb H u (xs u) (vI ev) (vI wi) (fb u)) ∧ ∀ H' r, Same H H' → H' r = some (.tup (outF H ev wi ps xs fb).enc) → Q (.ref r) H'
theorem cnt3 {a b c : Bool} (h : (a.toNat + b.toNat + c.toNat) = 1) : ((([PyData.bool a, .bool b, .bool c].countP fun z => PyData.eqv z (.bool true) : Nat)) : Int) = 1 := by
  cases a <;> cases b <;> cases c <;> first | rfl | (exfalso; revert h; decide) | (simp [List.countP, List.countP.go, PyData.eqv])
section
variable {P : Program} {w : World} {K : Frag} {mg : Str → Option Value} {base : Heap} {f C C_Wrong C_TooMany C_BadItem C_CaseError fI : Addr} {fd fdI : FuncData}
theorem ok_heardY (F : Fun K "_law_heard" "_law_heard" s_heard f fd) (T : Tb mg) (c_BookY : BookGY P w K mg base C C_Wrong C_TooMany C_BadItem fI fdI) (p_events : PrpG P w K mg base C "events" "_events") (HT : HearY K mg C_Wrong C_TooMany C_BadItem C_CaseError) :
    FnOk P w K mg base CX0 9 f fd ["_law_things"] (spHeardY K) := by
  refine F.ok sc_heard (fun vs H Q E h => ?_) (fun cdv A outer s H vs Q E hr h => ?_)
  · obtain ⟨_, _, _, _, _, _, rfl, _⟩ := h
    rfl
  · obtain ⟨q, ev, wi, ps, xs, fb, rfl, hq, S, hfb, k⟩ := h
    have g_CaseError := HT.gC
    have g_Wrong := HT.gW
    have g_TooMany := HT.gT
    have g_BadItem := HT.gB
    refine ⟨_, (pss_one (ps_try_as (i := 1) rfl rfl sc_heard.nd rfl rfl ⟨rfl, by decide, .inl g_CaseError⟩ takes0 (fun W pn xe tk _ => (pss_one (ps_ret (pe_tup (pa_cons pe_str (pa_cons (pe_cmpR (show OpR _ (compareOp .Eq) (rEqU K) from (u_eq hr.units)) (pe_prp p_events (hr.mono (by decide)) (show PE _ _ (tBkY K C C_Wrong C_TooMany C_BadItem 3 W _) from (pe_bk6Y c_BookY (show Room 8 _ from hr.mono (by decide)) tk (pa_cons (pe_ix (show IxR _ (rIx K) from ix_seq) (pv 0) pe_int (fun _ _ => rfl)) (pa_cons (pe_ix (show IxR _ (rIx K) from ix_seq) (pv 0) pe_int (fun _ _ => rfl)) (pa_cons (pe_ix (show IxR _ (rIx K) from ix_seq) (pv 0) pe_int (fun _ _ => rfl)) (pa_cons (pe_ix (show IxR _ (rIx K) from ix_seq) (pv 0) pe_int (fun _ _ => rfl)) (pa_cons (pe_ix (show IxR _ (rIx K) from ix_seq) (pv 0) pe_int (fun _ _ => rfl)) (pa_cons (pe_ix (show IxR _ (rIx K) from ix_seq) (pv 0) pe_int (fun _ _ => rfl)) pa_nil))))))))) (pe_ix (show IxR _ (rIx K) from ix_seq) (pv 0) pe_int (fun _ _ => rfl)) (nomark _)) pa_nil))))))
    (fun a oe cls d pn hz hf => (pss_cons (ps_set (i := 2) sc_heard.nd rfl (Or.inl rfl) (pe_lst (pa_cons (pe_callB (call_isX hz hf) rfl T.b.isinstance_ boot_isinstance (pa_cons (pv 1) (pa_cons (pe_glob (v := .ref C_Wrong) rfl g_Wrong rfl) pa_nil))) (pa_cons (pe_callB (call_isX hz hf) rfl T.b.isinstance_ boot_isinstance (pa_cons (pv 1) (pa_cons (pe_glob (v := .ref C_TooMany) rfl g_TooMany rfl) pa_nil))) (pa_cons (pe_callB (call_isX hz hf) rfl T.b.isinstance_ boot_isinstance (pa_cons (pv 1) (pa_cons (pe_glob (v := .ref C_BadItem) rfl g_BadItem rfl) pa_nil))) pa_nil)))))
  (pss_cons (ps_if (pt_cmpR (show OpR _ (compareOp .NotEq) (rNeU K) from (u_ne hr.units)) (show PE _ _ (tBM K "list" (rCntD K) _ _) from (pe_bm PySem.F.plainAttrs_list PySem.F.slot_list_count PySem.F.type_list_count (show MtR _ "list.count" (rCntD K) from mt_lcountD hr.units) (pv 2) (pa_cons pe_bl pa_nil))) pe_int (nomark _))
    (pss_one (ps_ret (pe_tup (pa_cons pe_str (pa_cons pe_non pa_nil)))))
    pss_nil)
  (pss_one (ps_ret (pe_ifExp (pt_val (pe_ix (show IxR _ (rIx K) from ix_seq) (pv 2) pe_int (fun _ _ => rfl))) (pe_tup (pa_cons pe_str (pa_cons (pe_xfR hz hf (pv 1)) pa_nil))) (pe_ifExp (pt_val (pe_ix (show IxR _ (rIx K) from ix_seq) (pv 2) pe_int (fun _ _ => rfl))) (pe_tup (pa_cons pe_str (pa_cons (pe_xfR hz hf (pv 1)) pa_nil))) (pe_tup (pa_cons pe_str (pa_cons (pe_xfR hz hf (pv 1)) (pa_cons (pe_xfR hz hf (pv 1)) pa_nil))))))))))))), ?_⟩
    walk_at "el"
    refine a_bkY ?_
    walk_at "el"
    refine n_bk6Y S hfb ?_ fun em o dx H1 t g s c s1 ho => ?_
    · cases er : outF H ev wi ps xs fb with
      | wrong i =>
        rw [er] at k
        intro H1 d s1 hd σ' hl
        match σ', hl with
        | [x0, x1, x2], _ =>
        have e2 := nw_of hd (.xd [("place", .int (i : Nat))])
        have g2 := upd_at hd (.xd [("place", .int (i : Nat))])
        have s2 : Same H _ := s1.trans e2
        generalize upd H1 d (.xd [("place", .int (i : Nat))]) = H2 at g2 s2 ⊢
        refine ⟨true, HT.xmW, fun _ a0 ha0 => ?_, fun z => nomatch z⟩
        walk_at "el"
        refine ⟨C_Wrong, .ref C_Wrong, .ref C_Wrong, true, d, _, rfl, rfl, HT.xcW, rfl, g2, fun u r => r, HT.ww, ?_⟩
        walk_at "el"
        refine ⟨C_Wrong, .ref C_TooMany, .ref C_TooMany, false, d, _, rfl, rfl, HT.xcW, rfl, g2, fun u r => r, HT.wt, ?_⟩
        walk_at "el"
        refine ⟨C_Wrong, .ref C_BadItem, .ref C_BadItem, false, d, _, rfl, rfl, HT.xcW, rfl, g2, fun u r => r, HT.wb, ?_⟩
        walk_at "el"
        refine ⟨by show 3 ≤ sizeLine; decide, fun fl hfl => ?_⟩
        have e3 := nw_of hfl (.lst [.bl true, .bl false, .bl false])
        have g3 := upd_at hfl (.lst [.bl true, .bl false, .bl false])
        have g2' := e3 _ _ g2
        have s3 : Same H _ := s2.trans e3
        generalize upd H2 fl (.lst [.bl true, .bl false, .bl false]) = H3 at g3 g2' s3 ⊢
        walk_at "el"
        refine ⟨.inl ⟨rfl, _, SqL.of g3⟩, ?_⟩
        walk_at "el"
        refine ⟨fl, _, [.bool true, .bool false, .bool false], .bl true, .bool true, rfl, rfl, SqL.of g3, .cons (.bl _) (.cons (.bl _) (.cons (.bl _) .nil)), .bl _, rfl, rfl, by decide, ?_⟩
        rw [cnt3 (a := true) (b := false) (c := false) rfl]
        walk_at "el"
        rw [show decide (V.int 1 = V.int 1) = true from decide_eq_true rfl]
        walk_at "el"
        refine ⟨rfl, C_Wrong, d, _, _, rfl, HT.xfW, HT.n1, rfl, g2', rfl, ?_⟩
        walk_at "el"
        refine ⟨by show 2 ≤ sizeLine; decide, fun r hr => ?_⟩
        have e4 := nw_of hr (.tup [.str "wrong", .int (i : Nat)])
        exact k _ r (s3.trans e4) upd_same
      | many =>
        rw [er] at k
        intro H1 d s1 hd σ' hl
        match σ', hl with
        | [x0, x1, x2], _ =>
        have e2 := nw_of hd (.xd [("limit", .int 24)])
        have g2 := upd_at hd (.xd [("limit", .int 24)])
        have s2 : Same H _ := s1.trans e2
        generalize upd H1 d (.xd [("limit", .int 24)]) = H2 at g2 s2 ⊢
        refine ⟨true, HT.xmT, fun _ a0 ha0 => ?_, fun z => nomatch z⟩
        walk_at "el"
        refine ⟨C_TooMany, .ref C_Wrong, .ref C_Wrong, false, d, _, rfl, rfl, HT.xcT, rfl, g2, fun u r => r, HT.tw, ?_⟩
        walk_at "el"
        refine ⟨C_TooMany, .ref C_TooMany, .ref C_TooMany, true, d, _, rfl, rfl, HT.xcT, rfl, g2, fun u r => r, HT.tt, ?_⟩
        walk_at "el"
        refine ⟨C_TooMany, .ref C_BadItem, .ref C_BadItem, false, d, _, rfl, rfl, HT.xcT, rfl, g2, fun u r => r, HT.tb, ?_⟩
        walk_at "el"
        refine ⟨by show 3 ≤ sizeLine; decide, fun fl hfl => ?_⟩
        have e3 := nw_of hfl (.lst [.bl false, .bl true, .bl false])
        have g3 := upd_at hfl (.lst [.bl false, .bl true, .bl false])
        have g2' := e3 _ _ g2
        have s3 : Same H _ := s2.trans e3
        generalize upd H2 fl (.lst [.bl false, .bl true, .bl false]) = H3 at g3 g2' s3 ⊢
        walk_at "el"
        refine ⟨.inl ⟨rfl, _, SqL.of g3⟩, ?_⟩
        walk_at "el"
        refine ⟨fl, _, [.bool false, .bool true, .bool false], .bl true, .bool true, rfl, rfl, SqL.of g3, .cons (.bl _) (.cons (.bl _) (.cons (.bl _) .nil)), .bl _, rfl, rfl, by decide, ?_⟩
        rw [cnt3 (a := false) (b := true) (c := false) rfl]
        walk_at "el"
        rw [show decide (V.int 1 = V.int 1) = true from decide_eq_true rfl]
        walk_at "el"
        refine ⟨rfl, C_TooMany, d, _, _, rfl, HT.xfT, HT.n2, rfl, g2', rfl, ?_⟩
        walk_at "el"
        refine ⟨by show 2 ≤ sizeLine; decide, fun r hr => ?_⟩
        have e4 := nw_of hr (.tup [.str "many", .int 24])
        exact k _ r (s3.trans e4) upd_same
      | bad j i =>
        rw [er] at k
        intro H1 d s1 hd σ' hl
        match σ', hl with
        | [x0, x1, x2], _ =>
        have e2 := nw_of hd (.xd [("index", .int (i : Nat)), ("place", .int (j : Nat))])
        have g2 := upd_at hd (.xd [("index", .int (i : Nat)), ("place", .int (j : Nat))])
        have s2 : Same H _ := s1.trans e2
        generalize upd H1 d (.xd [("index", .int (i : Nat)), ("place", .int (j : Nat))]) = H2 at g2 s2 ⊢
        refine ⟨true, HT.xmB, fun _ a0 ha0 => ?_, fun z => nomatch z⟩
        walk_at "el"
        refine ⟨C_BadItem, .ref C_Wrong, .ref C_Wrong, false, d, _, rfl, rfl, HT.xcB, rfl, g2, fun u r => r, HT.bw, ?_⟩
        walk_at "el"
        refine ⟨C_BadItem, .ref C_TooMany, .ref C_TooMany, false, d, _, rfl, rfl, HT.xcB, rfl, g2, fun u r => r, HT.bt, ?_⟩
        walk_at "el"
        refine ⟨C_BadItem, .ref C_BadItem, .ref C_BadItem, true, d, _, rfl, rfl, HT.xcB, rfl, g2, fun u r => r, HT.bb, ?_⟩
        walk_at "el"
        refine ⟨by show 3 ≤ sizeLine; decide, fun fl hfl => ?_⟩
        have e3 := nw_of hfl (.lst [.bl false, .bl false, .bl true])
        have g3 := upd_at hfl (.lst [.bl false, .bl false, .bl true])
        have g2' := e3 _ _ g2
        have s3 : Same H _ := s2.trans e3
        generalize upd H2 fl (.lst [.bl false, .bl false, .bl true]) = H3 at g3 g2' s3 ⊢
        walk_at "el"
        refine ⟨.inl ⟨rfl, _, SqL.of g3⟩, ?_⟩
        walk_at "el"
        refine ⟨fl, _, [.bool false, .bool false, .bool true], .bl true, .bool true, rfl, rfl, SqL.of g3, .cons (.bl _) (.cons (.bl _) (.cons (.bl _) .nil)), .bl _, rfl, rfl, by decide, ?_⟩
        rw [cnt3 (a := false) (b := false) (c := true) rfl]
        walk_at "el"
        rw [show decide (V.int 1 = V.int 1) = true from decide_eq_true rfl]
        walk_at "el"
        refine ⟨rfl, C_BadItem, d, _, _, rfl, HT.xfB, HT.n3, rfl, g2', rfl, ?_⟩
        walk_at "el"
        refine ⟨rfl, C_BadItem, d, _, _, rfl, HT.xfB, HT.n4, rfl, g2', rfl, ?_⟩
        walk_at "el"
        refine ⟨by show 3 ≤ sizeLine; decide, fun r hr => ?_⟩
        have e4 := nw_of hr (.tup [.str "bad", .int (j : Nat), .int (i : Nat)])
        exact k _ r (s3.trans e4) upd_same
      | made => trivial
    · have bb : belowB ev 9 = true := by
        cases b0 : belowB ev 9
        · unfold outF at em; rw [b0, if_neg Bool.false_ne_true] at em; cases em
        · rfl
      obtain ⟨e, rfl, _, _⟩ := below_int bb
      rw [em] at k
      have hq1 := s1 _ _ hq
      walk_at "el"
      refine n_prp ho rfl ?_
      walk_at "el"
      rw [show decide (V.int (vI (V.int e)) = V.int e) = true from decide_eq_true rfl]
      refine ⟨by show 2 ≤ sizeLine; decide, fun r hr => ?_⟩
      have e4 := nw_of hr (.tup [.str "made", .bl true])
      exact k _ r (s1.trans e4) upd_same
/-- the least of a list of places -/
def MinO (js : List Int) : Option Nat → Prop
  | none => js = []
  | some n => (n : Int) ∈ js ∧ ∀ y ∈ js, (n : Int) ≤ y
def spDueY (K : Frag) : Sp := fun vs H Q _ => ∃ (q sp : Addr) (ev wi : V) (ps : Pt → V) (xs : Pt → List V) (fb : Pt → Option Nat) (ja : Pt → Addr) (js : Pt → List Int), vs = [.ref q, .ref sp] ∧ H q = some (.lst [ev, wi, ps .tel, ps .gap, ps .sur, ps .cla]) ∧ Six K H ev wi ps xs ∧
  H sp = some (.lst [.ref (ja .tel), .ref (ja .gap), .ref (ja .sur), .ref (ja .cla)]) ∧ (∀ u, H (ja u) = some (.lst ((js u).map V.int))) ∧ (∀ u, MinO (js u) (fb u)) ∧ ∀ H' r, Same H H' → H' r = some (.tup (outF H ev wi ps xs fb).enc) → Q (.ref r) H'
theorem below_cases (x : V) : (isB x = true ∧ belowB x 9 = false) ∨ (isB x = false ∧ isI x = false ∧ belowB x 9 = false) ∨ ∃ i, x = .int i := by
  cases x with
  | int i => exact .inr (.inr ⟨i, rfl⟩)
  | bl b => exact .inl ⟨rfl, rfl⟩
  | _ => exact .inr (.inl ⟨rfl, rfl, rfl⟩)
theorem at6 {ev wi : V} {ps : Pt → V} {i : Nat} {u : Pt} (h : pAt[i]? = some u) : atI [ev, wi, ps .tel, ps .gap, ps .sur, ps .cla] (2 + (i : Int)) = some (ps u) := by
  rcases i with _ | _ | _ | _ | i <;> cases h <;> rfl
theorem at4 {ja : Pt → Addr} {i : Nat} {u : Pt} (h : pAt[i]? = some u) : atI [V.ref (ja .tel), .ref (ja .gap), .ref (ja .sur), .ref (ja .cla)] (2 + (i : Int) - 2) = some (.ref (ja u)) := by
  rcases i with _ | _ | _ | _ | i <;> cases h <;> rfl
theorem pAt_some {i : Nat} (h : i < 4) : ∃ u, pAt[i]? = some u := ⟨pAt[i], List.getElem?_eq_getElem h⟩
theorem eqvL_nil (ds : List PyData) : PyData.eqv (.list ds) (.list []) = decide (ds = []) := by
  cases ds with
  | nil => simp [PyData.eqv, PyData.eqvAll]
  | cons d r => simp [PyData.eqv, PyData.eqvAll]
theorem ok_dueY (F : Fun K "_law_due" "_law_due" s_due f fd) (T : Tb mg) : FnOk P w K mg base CX0 1 f fd ["_law_things", "_law_spoilt_here"] (spDueY K) := by
  refine F.ok sc_due (fun vs H Q E h => ?_) (fun cdv A outer s H vs Q E hr h => ?_)
  · obtain ⟨_, _, _, _, _, _, _, _, _, rfl, _⟩ := h
    rfl
  · obtain ⟨q, sp, ev, wi, ps, xs, fb, ja, js, rfl, hq, S, hsp, hja, hmin, k⟩ := h
    refine ⟨_, (pss_cons (ps_for PassesOwn.never rfl (pi_range1 rfl T.b.range_ (pa_cons pe_int pa_nil)) (pg_name (i := 2) sc_due.nd rfl (Or.inl rfl))
    (pss_one (ps_if (PW.pt (pw_or (pt_val (pe_callB u_isi rfl T.b.isinstance_ boot_isinstance (pa_cons (pe_ix ix_seq (pv 0) (pv 2) (fun _ _ => rfl)) (pa_cons (pe_bltn (v := V.ty "bool") rfl T.b.bool_ (by decide +kernel) rfl) pa_nil)))) (pw_or (pt_not (pt_val (pe_callB u_isi rfl T.b.isinstance_ boot_isinstance (pa_cons (pe_ix ix_seq (pv 0) (pv 2) (fun _ _ => rfl)) (pa_cons (pe_bltn (v := V.ty "int") rfl T.b.int_ (by decide +kernel) rfl) pa_nil))))) (pw_or1 (pt_not (pt_chain op_le op_le pe_int (pe_ix ix_seq (pv 0) (pv 2) (fun _ _ => rfl)) pe_int))))))
    (pss_one (ps_ret (pe_tup (pa_cons pe_str (pa_cons (pv 2) pa_nil)))))
    pss_nil)))
  (pss_cons (ps_for PassesOwn.never rfl (pi_range2 rfl T.b.range_ (pa_cons pe_int (pa_cons pe_int pa_nil))) (pg_name (i := 2) sc_due.nd rfl (Or.inl rfl))
    (pss_one (ps_if (pt_not (pt_val (pe_callB u_isi rfl T.b.isinstance_ boot_isinstance (pa_cons (pe_ix ix_seq (pv 0) (pv 2) (fun _ _ => rfl)) (pa_cons (pe_tup (pa_cons (pe_bltn (v := V.ty "list") rfl T.b.list_ (by decide +kernel) rfl) (pa_cons (pe_bltn (v := V.ty "tuple") rfl T.b.tuple_ (by decide +kernel) rfl) pa_nil))) pa_nil)))))
    (pss_one (ps_ret (pe_tup (pa_cons pe_str (pa_cons (pv 2) pa_nil)))))
    pss_nil)))
  (pss_cons (ps_for PassesOwn.never rfl (pi_range2 rfl T.b.range_ (pa_cons pe_int (pa_cons pe_int pa_nil))) (pg_name (i := 2) sc_due.nd rfl (Or.inl rfl))
    (pss_cons (ps_if (pt_cmpR op_gt (pe_callB u_len rfl T.b.len_ boot_len (pa_cons (pe_ix ix_seq (pv 0) (pv 2) (fun _ _ => rfl)) pa_nil)) pe_int (nomark _))
    (pss_one (ps_ret (pe_tup (pa_cons pe_str (pa_cons pe_int pa_nil)))))
    pss_nil)
  (pss_one (ps_if (pt_cmpR (u_ne hr.units) (pe_ix ix_seq (pv 1) (pe_op op_sub (pv 2) pe_int) (fun _ _ => rfl)) (pe_lst pa_nil) (nomark _))
    (pss_one (ps_ret (pe_tup (pa_cons pe_str (pa_cons (pv 2) (pa_cons (pe_callB (u_min rfl) rfl T.b.min_ (by decide +kernel) (pa_cons (pe_ix ix_seq (pv 1) (pe_op op_sub (pv 2) pe_int) (fun _ _ => rfl)) pa_nil)) pa_nil))))))
    pss_nil))))
  (pss_one (ps_ret (pe_tup (pa_cons pe_str (pa_cons pe_bl pa_nil)))))))), ?_⟩
    walk_at "el"
    refine ⟨by decide, by decide, ?_⟩
    refine lp_range (fun i σ H1 => Same H H1 ∧ (0 < i → belowB ev 9 = true) ∧ (1 < i → belowB wi 9 = true) ∧ ∃ v2, σ = [some (.ref q), some (.ref sp), v2]) ⟨Same.refl _, fun h => absurd h (Nat.lt_irrefl 0), fun h => absurd h (by decide), _, rfl⟩ ?_ ?_
    · rintro i σ H1 hi ⟨s1, b0, b1, v2, rfl⟩
      have hi : i < 2 := hi
      obtain ⟨x, hx, tx, er⟩ : ∃ x, atI [ev, wi, ps .tel, ps .gap, ps .sur, ps .cla] (0 + (i : Int)) = some x ∧ Th K H x ∧ ((belowB x 9 = false → outF H ev wi ps xs fb = .wrong i) ∧ (belowB x 9 = true → (0 < i + 1 → belowB ev 9 = true) ∧ (1 < i + 1 → belowB wi 9 = true))) := by
        have h2 : i = 0 ∨ i = 1 := by omega
        rcases h2 with rfl | rfl
        · refine ⟨ev, rfl, S.e, fun e => ?_, fun e => ⟨fun _ => e, fun h => absurd h (by decide)⟩⟩
          unfold outF; rw [e, if_neg Bool.false_ne_true]
        · refine ⟨wi, rfl, S.w, fun e => ?_, fun e => ⟨fun _ => b0 (by decide), fun _ => e⟩⟩
          unfold outF; rw [b0 (by decide), if_pos rfl, e, if_neg Bool.false_ne_true]
      have hq1 := s1 _ _ hq
      obtain ⟨t, kt⟩ := (tx.same s1).kit
      have wr : belowB x 9 = false → ∀ {σ' : L2.St}, ∀ {H2 : Hp}, Same H1 H2 → ∀ r, H2 r = none → Q (.ref r) (upd H2 r (.tup [.str "wrong", .int (0 + (i : Int))])) := fun e {σ' H2} s2 r hr => by
        rw [er.1 e] at k
        refine k _ r ((s1.trans s2).trans (nw_of hr _)) ?_
        rw [upd_same, Int.zero_add]; rfl
      walk_at "el"
      refine n_ixL (SqL.of hq1) hx ?_
      walk_at "el"
      rcases below_cases x with ⟨e1, e2⟩ | ⟨e1, e3, e2⟩ | ⟨z, rfl⟩
      · rw [e1]
        walk_at "el"
        exact ⟨by show 2 ≤ sizeLine; decide, fun r hr => wr e2 (σ' := []) (Same.refl _) r hr⟩
      · rw [e1]
        walk_at "el"
        refine n_ixL (SqL.of hq1) hx ?_
        walk_at "el"
        rw [e3]
        walk_at "el"
        exact ⟨by show 2 ≤ sizeLine; decide, fun r hr => wr e2 (σ' := []) (Same.refl _) r hr⟩
      · rw [show isB (V.int z) = false from rfl]
        walk_at "el"
        refine n_ixL (SqL.of hq1) hx ?_
        walk_at "el"
        rw [show isI (V.int z) = true from rfl]
        walk_at "el"
        refine n_ixL (SqL.of hq1) hx ?_
        walk_at "el"
        cases c0 : decide (0 ≤ z)
        · have e2 : belowB (.int z) 9 = false := by show (decide _ && decide _) = false; rw [c0]; rfl
          walk_at "el"
          exact ⟨by show 2 ≤ sizeLine; decide, fun r hr => wr e2 (σ' := []) (Same.refl _) r hr⟩
        · walk_at "el"
          cases c1 : decide (z ≤ 8)
          · have e2 : belowB (.int z) 9 = false := by
              show (decide _ && decide _) = false
              have := of_decide_eq_false c1
              rw [decide_eq_false (show ¬ z < 9 by omega), Bool.and_false]
            walk_at "el"
            exact ⟨by show 2 ≤ sizeLine; decide, fun r hr => wr e2 (σ' := []) (Same.refl _) r hr⟩
          · have e2 : belowB (.int z) 9 = true := by
              show (decide _ && decide _) = true
              have := of_decide_eq_true c1
              rw [c0, decide_eq_true (show z < 9 by omega)]; rfl
            walk_at "el"
            exact ⟨s1, (er.2 e2).1, (er.2 e2).2, _, rfl⟩
    · rintro σ H1 ⟨s1, b0, b1, v2, rfl⟩
      have b0 : belowB ev 9 = true := b0 (by decide)
      have b1 : belowB wi 9 = true := b1 (by decide)
      have oF : outF H ev wi ps xs fb = outS H ps (fun u => (xs u).length) fb 2 pAt := by unfold outF; rw [b0, if_pos rfl, b1, if_pos rfl]
      rw [oF] at k
      walk_at "el"
      refine ⟨2, 6, rfl, ⟨by decide, by decide, by decide, by decide⟩, ?_⟩
      refine lp_range (fun i σ H2 => Same H H2 ∧ (∀ (j : Nat) v, j < i → pAt[j]? = some v → isSeq H (ps v) = true) ∧ ∃ v2, σ = [some (.ref q), some (.ref sp), v2]) ⟨s1, fun j v h => absurd h (Nat.not_lt_zero j), _, rfl⟩ ?_ ?_
      · rintro i σ H2 hi ⟨s2, pre, v2, rfl⟩
        obtain ⟨u, hu⟩ := pAt_some hi
        have hq2 := s2 _ _ hq
        walk_at "el"
        refine n_ixL (SqL.of hq2) (at6 hu) ?_
        walk_at "el"
        refine ⟨by show 2 ≤ sizeLine; decide, fun r2 hr2 => ?_⟩
        have e3 := nw_of hr2 (.tup [.ty "list", .ty "tuple"])
        have s3 := s2.trans e3
        obtain ⟨t, kt⟩ := ((S.p u).same s3).kit
        walk_at "el"
        refine n_isLT kt upd_same ?_
        have es := seq_same (S.p u) s3
        unfold isSeq at es
        rw [es]
        cases bs : (isL H (ps u) || isT H (ps u))
        · walk_at "el"
          refine ⟨by show 2 ≤ sizeLine; decide, fun r hr => ?_⟩
          rw [outS_wrong hu pre bs] at k
          refine k _ r (s3.trans (nw_of hr _)) ?_
          rw [upd_same]
          show some (HO.tup [V.str "wrong", .int ((2 : Int) + (i : Int))]) = some (.tup [.str "wrong", .int ((2 + i : Nat) : Int)])
          rw [Int.natCast_add]; rfl
        · walk_at "el"
          refine ⟨s3, fun j v hj hv => ?_, _, rfl⟩
          by_cases e : j = i
          · subst e
            rw [hu] at hv
            cases hv
            exact bs
          · exact pre j v (by omega) hv
      · rintro σ H2 ⟨s2, pre, v2, rfl⟩
        have sq : ∀ u, isSeq H (ps u) = true := fun u => by
          cases u
          · exact pre 0 _ (by decide) rfl
          · exact pre 1 _ (by decide) rfl
          · exact pre 2 _ (by decide) rfl
          · exact pre 3 _ (by decide) rfl
        rw [outS_all sq] at k
        walk_at "el"
        refine ⟨2, 6, rfl, ⟨by decide, by decide, by decide, by decide⟩, ?_⟩
        refine lp_range (fun i σ H3 => Same H H3 ∧ (∀ (j : Nat) v, j < i → pAt[j]? = some v → (xs v).length ≤ 24 ∧ fb v = none) ∧ ∃ v2, σ = [some (.ref q), some (.ref sp), v2]) ⟨s2, fun j v h => absurd h (Nat.not_lt_zero j), _, rfl⟩ ?_ ?_
        · rintro i σ H3 hi ⟨s3, pre, v2, rfl⟩
          obtain ⟨u, hu⟩ := pAt_some hi
          have hq3 := s3 _ _ hq
          obtain ⟨a, ea, ha, _⟩ := S.q u (sq u)
          have ha3 : SqL K H3 a (xs u) ∨ SqT K H3 a (xs u) := ha.elim (fun z => .inl (SqL.of (s3 _ _ z))) (fun z => .inr (SqT.of (s3 _ _ z)))
          have oA := outP_at (n := fun u => (xs u).length) hu pre
          rw [oA] at k
          walk_at "el"
          refine n_ixL (SqL.of hq3) (at6 hu) ?_
          rw [ea]
          walk_at "el"
          refine n_len ha3 ?_
          walk_at "el"
          refine ite2 (fun g => ?_) (fun g => ?_)
          · have lg : 24 < (xs u).length := by have : (xs u).length > (24 : Int) := of_decide_eq_true g; omega
            rw [if_pos lg] at k
            walk_at "el"
            exact ⟨by show 2 ≤ sizeLine; decide, fun r hr => k _ r (s3.trans (nw_of hr _)) upd_same⟩
          · have lg : ¬ 24 < (xs u).length := fun z => g (decide_eq_true (by show ((xs u).length : Int) > 24; omega))
            rw [if_neg lg] at k
            have hsp3 := s3 _ _ hsp
            walk_at "el"
            refine n_ixL (SqL.of hsp3) (at4 hu) ?_
            walk_at "el"
            refine ⟨by show 0 ≤ sizeLine; decide, fun z hz => ?_⟩
            have e4 := nw_of hz (.lst [])
            have g4 := upd_at hz (.lst [])
            have s4 := s3.trans e4
            have hj4 := s4 _ _ (hja u)
            have hq4 := s4 _ _ hq
            have hsp4 := s4 _ _ hsp
            generalize upd H3 z (.lst []) = H4 at g4 s4 hj4 hq4 hsp4 ⊢
            refine n_neD (.lst (SqL.of hj4) (dp_ints _)) (.lst (SqL.of g4) .nil) (shp_ints _) rfl ?_
            rw [eqvL_nil]
            have mo := hmin u
            cases ef : fb u with
            | none =>
              rw [ef] at mo
              have mo : js u = [] := mo
              rw [decide_eq_true (by rw [mo]; rfl)]
              walk_at "el"
              rw [ef] at k
              refine ⟨s4, fun j v hj hv => ?_, _, rfl⟩
              by_cases e : j = i
              · subst e
                rw [hu] at hv
                cases hv
                exact ⟨by omega, ef⟩
              · exact pre j v (by omega) hv
            | some n =>
              rw [ef] at mo
              obtain ⟨mm, ml⟩ := mo
              have nj : js u ≠ [] := fun z => by rw [z] at mm; cases mm
              rw [decide_eq_false (show ¬ (js u).map PyData.int = [] from fun z => nj (List.map_eq_nil_iff.mp z))]
              walk_at "el"
              refine n_ixL (SqL.of hsp4) (at4 hu) ?_
              walk_at "el"
              refine .inr ⟨ja u, js u, rfl, SqL.of hj4, List.length_pos_iff.mpr nj, fun mn hm hle => ?_⟩
              have em : mn = (n : Int) := by have := ml mn hm; have := hle _ mm; omega
              subst em
              rw [ef] at k
              walk_at "el"
              refine ⟨by show 3 ≤ sizeLine; decide, fun r hr => k _ r (s4.trans (nw_of hr _)) ?_⟩
              rw [upd_same]
              show some (HO.tup [V.str "bad", .int ((2 : Int) + (i : Int)), .int (n : Int)]) = some (.tup [.str "bad", .int ((2 + i : Nat) : Int), .int (n : Int)])
              rw [Int.natCast_add]; rfl
        · rintro σ H3 ⟨s3, pre, v2, rfl⟩
          have p0 := pre 0 .tel (by decide) rfl
          have p1 := pre 1 .gap (by decide) rfl
          have p2 := pre 2 .sur (by decide) rfl
          have p3 := pre 3 .cla (by decide) rfl
          have oA := outP_at (n := fun u => (xs u).length) (fb := fb) (i := 3) (u := .cla) rfl (fun j v hj hv => by
            rcases j with _ | _ | _ | j
            · cases hv; exact p0
            · cases hv; exact p1
            · cases hv; exact p2
            · omega)
          rw [oA, if_neg (show ¬ 24 < (xs .cla).length by omega), p3.2] at k
          walk_at "el"
          exact ⟨by show 2 ≤ sizeLine; decide, fun r hr => k _ r (s3.trans (nw_of hr _)) upd_same⟩
end
end EL

/- part Z14C -/
namespace EL
open PySem PySem.Spec PyProof.Rows L2
open PySem.W (Frag)
abbrev s_good : Stmt := top 41
abbrev N_good : List Str := ["_law_bag_here", "_law_part"]
theorem sc_good : FnScope N_good ["_law_bag_here", "_law_part"] (defScope s_good) := ⟨rfl, rfl, rfl, by decide +kernel, rfl, by decide +kernel, by decide +kernel⟩
abbrev s_spoilt_number : Stmt := top 38
abbrev N_spoilt_number : List Str := ["_law_bag_here"]
theorem sc_spoilt_number : FnScope N_spoilt_number ["_law_bag_here"] (defScope s_spoilt_number) := ⟨rfl, rfl, rfl, by decide +kernel, rfl, by decide +kernel, by decide +kernel⟩
abbrev s_beyond : Stmt := top 39
abbrev N_beyond : List Str := ["_law_bag_here", "_law_many"]
theorem sc_beyond : FnScope N_beyond ["_law_bag_here", "_law_many"] (defScope s_beyond) := ⟨rfl, rfl, rfl, by decide +kernel, rfl, by decide +kernel, by decide +kernel⟩
abbrev s_spoilt : Stmt := top 40
abbrev N_spoilt : List Str := ["_law_bag_here", "_law_part", "_law_item", "_law_events", "_law_witnesses", "_law_mode", "_law_far", "_law_kind_here", "_law_odd"]
theorem sc_spoilt : FnScope N_spoilt ["_law_bag_here", "_law_part", "_law_item", "_law_events", "_law_witnesses"] (defScope s_spoilt) := ⟨rfl, rfl, rfl, by decide +kernel, rfl, by decide +kernel, by decide +kernel⟩
local macro_rules | `(tactic| walk_at "el1") => `(tactic| with_reducible first
  | refine a_sasg ?_ | refine a_sdrop ?_ | refine a_saugS ?_ | refine a_spar ?_ | refine a_seq ?_ | refine a_asg ?_ | refine a_drop ?_ | refine a_ret ?_ | refine a_if ?_ | refine a_next ?_
  | refine a_op ?_ | refine a_cons ?_ | refine a_nil ?_ | refine a_cb ?_ | refine a_call ?_ | refine a_c ?_ | refine a_gn ?_ | refine a_nx ?_ | refine a_rt ?_ | refine a_un ?_
  | refine a_test ?_ | refine a_B ?_ | refine a_bl ?_ | refine a_and ?_ | refine a_or ?_ | refine a_not ?_ | refine a_andV ?_ | refine a_orV ?_ | refine a_notV ?_ | refine a_ifx ?_ | refine a_chain ?_
  | refine a_nT ?_ | refine a_nF ?_ | refine a_fld ?_ | refine a_getF ?_ | refine a_T ?_ | refine a_F ?_ | refine a_tup ?_ | refine a_lst ?_ | refine a_sub ?_ | refine a_augS ?_ | refine a_two ?_ | refine a_I0 ?_ | refine a_U ?_ | refine n_add ?_ | refine n_int ?_ | refine n_ib ?_ | refine a_ip ?_ | refine a_rng1 ?_ | refine a_rng2 ?_ | refine a_bm ?_ | refine a_abs ?_ | refine a_pairs ?_ | refine a_pairs0 ?_ | refine a_bk ?_ | refine a_prp ?_ | refine a_lc ?_ | refine a_yes ?_ | refine a_sl ?_ | refine a_nop ?_ | refine a_prt ?_ | refine a_ex1 ?_ | refine a_for ?_ | refine a_sfor ?_ | refine a_iE1 ?_ | refine a_iEs ?_ | refine a_iEz ?_ | refine a_iEnum ?_ | refine a_iTup ?_ | refine a_iList ?_ | refine a_gcons ?_ | refine a_gnil ?_ | refine a_revT ?_ | refine a_spar3 ?_ | refine a_par3 ?_ | refine a_three ?_)
local macro_rules | `(tactic| walk_at "el2") => `(tactic| first
  | (refine a_var (by rfl) ?_)
  | (refine n_ixL (SqL.of (by assumption)) (by rfl) ?_) | (refine n_ixT (SqT.of (by assumption)) (by rfl) ?_) | (refine n_eq (by rfl) ?_) | (refine n_ne (by rfl) ?_)
  | (refine n_isN ?_) | (refine n_notN ?_) | (refine n_isB ?_) | (refine n_notB ?_) | (refine n_isBI ?_) | (refine n_notBI ?_) | (refine n_len (.inl (SqL.of (by assumption))) ?_) | (refine n_len (.inr (SqT.of (by assumption))) ?_)
  | (refine a_getL (SqL.of (by assumption)) (by rfl) ?_)
  | (refine n_isInt (by assumption) ?_) | (refine n_isBool (by assumption) ?_) | (refine n_isStr (by assumption) ?_) | (refine n_isTup (by assumption) ?_) | (refine n_isLst (by assumption) ?_))
local macro_rules | `(tactic| walk_at "el") => `(tactic| repeat (first | walk_at "el1" | walk_at "el2"))

/-! ### items drawn, and spoilt ones -/
def pNo : Pt → Int | .tel => 0 | .gap => 1 | .sur => 2 | .cla => 3
def spGood : Sp := fun vs H Q _ => ∃ (b c : Addr) (p : Pt), vs = [.ref b, .int (pNo p)] ∧ Bag H b c ∧ ∀ (q : Addr) (m : Itm) H', m.pt = p → m.Ok 3 3 → H' q = some (.tup m.enc) → Bag H' b c → Kp b H H' → Q (.ref q) H'
theorem pNo_eq {p q : Pt} (h : decide (V.int (pNo p) = V.int (pNo q)) = true) : p = q := by
  have h : V.int (pNo p) = V.int (pNo q) := of_decide_eq_true h
  have h := V.int.inj h
  cases p <;> cases q <;> first | rfl | (exfalso; revert h; decide)
theorem Itm.th {K : Frag} {H : Hp} (m : Itm) : ∀ y ∈ m.enc, Th K H y := by
  cases m with
  | t x => exact all_cons (.int _) (all_cons (.int _) (all_cons (.int _) all_nil))
  | g x => exact all_cons (.int _) (all_cons (.int _) (all_cons (.int _) all_nil))
  | s x => exact all_cons (.int _) (all_cons (.str _) (all_cons (.int _) all_nil))
  | l x => exact all_cons (.int _) (all_cons (.str _) (all_cons (.int _) (all_cons (.str _) all_nil)))
theorem Itm.len (m : Itm) : m.enc.length = m.pt.form.length := by cases m <;> rfl
def spBeyond (K : Frag) : Sp := fun vs H Q _ => ∃ (b c : Addr) (n : Int), vs = [.ref b, .int n] ∧ Bag H b c ∧ 0 ≤ n ∧ n ≤ 9 ∧ ∀ (x : V) H', belowB x n = false → Th K H' x → Bag H' b c → Kp b H H' → Q x H'
def spSpoiltN (K : Frag) : Sp := fun vs H Q _ => ∃ (b c : Addr), vs = [.ref b] ∧ Bag H b c ∧ ∀ (x : V) H', numB x = false → Th K H' x → Bag H' b c → Kp b H H' → Q x H'
def spSpoilt (K : Frag) : Sp := fun vs H Q _ => ∃ (b c it : Addr) (m : Itm) (ev wi : Int), vs = [.ref b, .int (pNo m.pt), .ref it, .int ev, .int wi] ∧ Bag H b c ∧ H it = some (.tup m.enc) ∧ m.Ok 3 3 ∧ (3 ≤ ev ∧ ev ≤ 8) ∧ (3 ≤ wi ∧ wi ≤ 8) ∧
  ∀ x H', ThD K H' x → ¬ ItemOk m.pt H' x ev wi → Bag H' b c → Kp b H H' → Q x H'
theorem not_lst {u : Pt} {H : Hp} {q : Addr} {ys : List V} {e w : Int} (h : H q = some (.lst ys)) : ¬ ItemOk u H (.ref q) e w := by
  rintro ⟨a, zs, ea, ha, _⟩
  cases ea
  rw [h] at ha
  cases ha
theorem not_len {u : Pt} {H : Hp} {q : Addr} {ys : List V} {e w : Int} (h : H q = some (.tup ys)) (n : ys.length ≠ u.form.length) : ¬ ItemOk u H (.ref q) e w := by
  rintro ⟨a, zs, ea, ha, hl, _⟩
  cases ea
  rw [h] at ha
  cases ha
  exact n hl
theorem not_at {u : Pt} {H : Hp} {q : Addr} {ys : List V} {e w : Int} {j : Nat} {wd : Str} {x : V} (h : H q = some (.tup ys)) (hw : u.form[j]? = some wd) (hx : ys[j]? = some x) (b : standB wd ys j x e w = false) : ¬ ItemOk u H (.ref q) e w := by
  rintro ⟨a, zs, ea, ha, _, hs⟩
  cases ea
  rw [h] at ha
  cases ha
  rw [hs j (List.getElem?_eq_some_iff.mp hw).1 wd x hw hx] at b
  cases b
theorem not_val {u : Pt} {H : Hp} {x : V} {e w : Int} (h : ∀ a, x ≠ .ref a) : ¬ ItemOk u H x e w := fun ⟨a, _, ea, _⟩ => h a ea
theorem not_obj {u : Pt} {H : Hp} {q : Addr} {o : HO} {e w : Int} (h : H q = some o) (n : ∀ ys, o ≠ .tup ys) : ¬ ItemOk u H (.ref q) e w := by
  rintro ⟨a, zs, ea, ha, _⟩
  cases ea
  rw [h] at ha
  exact n _ (Option.some.inj ha)
theorem thd_tup {K : Frag} {H : Hp} {q : Addr} {ys : List V} (h : H q = some (.tup ys)) (t : ∀ y ∈ ys, Th K H y) : ThD K H (.ref q) := ⟨.tup h, fun q' zs e hz y hy => by
  cases e
  rw [h] at hz
  cases hz
  exact t y hy⟩
theorem thd_obj {K : Frag} {H : Hp} {q : Addr} {o : HO} (th : Th K H (.ref q)) (h : H q = some o) (n : ∀ ys, o ≠ .tup ys) : ThD K H (.ref q) := ⟨th, fun q' zs e hz => by
  cases e
  rw [h] at hz
  exact absurd (Option.some.inj hz) (n _)⟩
theorem thd_val {K : Frag} {H : Hp} {x : V} (th : Th K H x) (h : ∀ a, x ≠ .ref a) : ThD K H x := ⟨th, fun q _ e => absurd e (h q)⟩
section
variable {P : Program} {w : World} {K : Frag} {mg : Str → Option Value} {base : Heap} {f : Addr} {fd : FuncData} {C : Addr} {D0 : BookD}
theorem ok_good (F : Fun K "_law_good" "_law_good" s_good f fd) (T : Tb mg) (c_take : Cal P w K mg base CX0 1 "_law_take" ["_law_bag_here", "_law_many"] spTake) (c_one : Cal P w K mg base CX0 2 "_law_one" ["_law_bag_here", "_law_menu"] (spOne K)) (c_kind : Cal P w K mg base CX0 2 "_law_kind" ["_law_bag_here"] spKnd) :
    FnOk P w K mg base CX0 3 f fd ["_law_bag_here", "_law_part"] spGood := by
  refine F.ok sc_good (fun vs H Q E h => ?_) (fun cdv A outer s H vs Q E hr h => ?_)
  · obtain ⟨_, _, _, rfl, _⟩ := h
    rfl
  · obtain ⟨b, c, p, rfl, hb, k⟩ := h
    refine ⟨_, (pss_cons (ps_if (pt_cmpR (u_eq hr.units) (pv 1) pe_int (nomark _))
    (pss_one (ps_ret (pe_tup (pa_cons (pe_cal c_take (hr.mono (by decide)) pass0 (pa_cons (pv 0) (pa_cons pe_int pa_nil))) (pa_cons (pe_cal c_take (hr.mono (by decide)) pass0 (pa_cons (pv 0) (pa_cons pe_int pa_nil))) (pa_cons (pe_cal c_one (hr.mono (by decide)) pass0 (pa_cons (pv 0) (pa_cons (pe_lst (pa_cons (pe_op op_pow pe_int pe_int) (pa_cons (pe_un un_neg (pe_op op_pow pe_int pe_int)) (pa_cons pe_int (pa_cons pe_int pa_nil))))) pa_nil))) pa_nil))))))
    pss_nil)
  (pss_cons (ps_if (pt_cmpR (u_eq hr.units) (pv 1) pe_int (nomark _))
    (pss_one (ps_ret (pe_ix ix_seq (pe_lst (pa_cons (pe_tup (pa_cons pe_int (pa_cons pe_int (pa_cons (pe_op op_pow pe_int pe_int) pa_nil)))) (pa_cons (pe_tup (pa_cons pe_int (pa_cons pe_int (pa_cons (pe_un un_neg (pe_op op_pow pe_int pe_int)) pa_nil)))) (pa_cons (pe_tup (pa_cons pe_int (pa_cons pe_int (pa_cons pe_int pa_nil)))) pa_nil)))) (pe_cal c_take (hr.mono (by decide)) pass0 (pa_cons (pv 0) (pa_cons pe_int pa_nil))) (fun _ _ => rfl))))
    pss_nil)
  (pss_cons (ps_if (pt_cmpR (u_eq hr.units) (pv 1) pe_int (nomark _))
    (pss_one (ps_ret (pe_tup (pa_cons (pe_cal c_take (hr.mono (by decide)) pass0 (pa_cons (pv 0) (pa_cons pe_int pa_nil))) (pa_cons (pe_ix ix_seq (pe_lst (pa_cons pe_str (pa_cons pe_str pa_nil))) (pe_cal c_take (hr.mono (by decide)) pass0 (pa_cons (pv 0) (pa_cons pe_int pa_nil))) (fun _ _ => rfl)) (pa_cons (pe_ix ix_seq (pe_lst (pa_cons pe_int (pa_cons (pe_op op_pow pe_int pe_int) (pa_cons (pe_un un_neg (pe_op op_pow pe_int pe_int)) pa_nil)))) (pe_cal c_take (hr.mono (by decide)) pass0 (pa_cons (pv 0) (pa_cons pe_int pa_nil))) (fun _ _ => rfl)) pa_nil))))))
    pss_nil)
  (pss_one (ps_ret (pe_tup (pa_cons (pe_cal c_take (hr.mono (by decide)) pass0 (pa_cons (pv 0) (pa_cons pe_int pa_nil))) (pa_cons (pe_cal c_kind (hr.mono (by decide)) pass0 (pa_cons (pv 0) pa_nil)) (pa_cons (pe_cal c_take (hr.mono (by decide)) pass0 (pa_cons (pv 0) (pa_cons pe_int pa_nil))) (pa_cons (pe_cal c_kind (hr.mono (by decide)) pass0 (pa_cons (pv 0) pa_nil)) pa_nil)))))))))), ?_⟩
    have d1 : decide (V.int 1 = V.int 0) = false := by decide
    have d2 : decide (V.int 2 = V.int 0) = false := by decide
    have d3 : decide (V.int 3 = V.int 0) = false := by decide
    have d4 : decide (V.int 2 = V.int 1) = false := by decide
    have d5 : decide (V.int 3 = V.int 1) = false := by decide
    have d6 : decide (V.int 3 = V.int 2) = false := by decide
    cases p with
    | tel =>
      show tIfS _ _ _ _ [some (.ref b), some (.int 0)] H
      walk_at "el"
      refine ⟨b, c, 3, rfl, hb, by decide, by decide, fun r1 H1 r10 r11 hb1 k1 => ?_⟩
      walk_at "el"
      refine ⟨b, c, 3, rfl, hb1, by decide, by decide, fun r2 H2 r20 r21 hb2 k2 => ?_⟩
      walk_at "el"
      refine a_I ⟨by decide, by decide, by decide⟩ ?_
      walk_at "el"
      refine a_I ⟨by decide, by decide, by decide⟩ ?_
      walk_at "el"
      refine ⟨by show 4 ≤ sizeLine; decide, fun m hm => ?_⟩
      have e3 := nw_of hm
      walk_at "el"
      refine ⟨b, c, m, _, rfl, hb2.same (e3 _), hb2.ne hm, .inl upd_same, by show 0 < 4; decide, by show 4 ≤ 1000000000; decide, fun x H3 hx hb3 k3 => ?_⟩
      obtain ⟨n, rfl, n0⟩ : ∃ n, x = .int n ∧ NumOk n := by
        revert x
        exact all_cons ⟨_, rfl, by decide +kernel, by decide +kernel⟩ (all_cons ⟨_, rfl, by decide +kernel, by decide +kernel⟩ (all_cons ⟨_, rfl, by decide +kernel, by decide +kernel⟩ (all_cons ⟨_, rfl, by decide +kernel, by decide +kernel⟩ all_nil)))
      walk_at "el"
      refine ⟨by show 3 ≤ sizeLine; decide, fun q hq => ?_⟩
      have e4 := nw_of hq (.tup (Itm.enc (.t (r1, r2, n))))
      exact k q (.t (r1, r2, n)) _ rfl ⟨⟨r10, r11⟩, ⟨r20, r21⟩, n0⟩ upd_same (hb3.same e4) ((k1.trans k2).trans ((Kp.into k3 (e3 _)).trans (same_kp e4)))
    | gap =>
      walk_at "el"
      show if decide (V.int 1 = V.int 0) = true then _ else _
      rw [d1]
      walk_at "el"
      show if decide (V.int 1 = V.int 1) = true then _ else _
      rw [decide_eq_true rfl]
      walk_at "el"
      refine a_I ⟨by decide, by decide, by decide⟩ ?_
      walk_at "el"
      refine ⟨by show 3 ≤ sizeLine; decide, fun q1 hq1 => ?_⟩
      have e1 := nw_of hq1
      walk_at "el"
      refine a_I ⟨by decide, by decide, by decide⟩ ?_
      walk_at "el"
      refine ⟨by show 3 ≤ sizeLine; decide, fun q2 hq2 => ?_⟩
      have e2 := nw_of hq2
      walk_at "el"
      refine ⟨by show 3 ≤ sizeLine; decide, fun q3 hq3 => ?_⟩
      have e3 := nw_of hq3
      walk_at "el"
      refine ⟨by show 3 ≤ sizeLine; decide, fun m hm => ?_⟩
      have e4 := nw_of hm
      have g4 := upd_at hm (.lst [.ref q1, .ref q2, .ref q3])
      have g1 := e4 (.lst [.ref q1, .ref q2, .ref q3]) _ _ (e3 (.tup [.int 1, .int 2, .int 0]) _ _ (e2 (.tup [.int 2, .int 0, .int (-(10 : Int) ^ (15 : Int).toNat)]) _ _ (upd_at hq1 (.tup [.int 0, .int 1, .int ((10 : Int) ^ (15 : Int).toNat)]))))
      have g2 := e4 (.lst [.ref q1, .ref q2, .ref q3]) _ _ (e3 (.tup [.int 1, .int 2, .int 0]) _ _ (upd_at hq2 (.tup [.int 2, .int 0, .int (-(10 : Int) ^ (15 : Int).toNat)])))
      have g3 := e4 (.lst [.ref q1, .ref q2, .ref q3]) _ _ (upd_at hq3 (.tup [.int 1, .int 2, .int 0]))
      have s4 : Same H _ := (((e1 (.tup [.int 0, .int 1, .int ((10 : Int) ^ (15 : Int).toNat)])).trans (e2 (.tup [.int 2, .int 0, .int (-(10 : Int) ^ (15 : Int).toNat)]))).trans (e3 (.tup [.int 1, .int 2, .int 0]))).trans (e4 (.lst [.ref q1, .ref q2, .ref q3]))
      generalize upd (upd (upd (upd H q1 (.tup [.int 0, .int 1, .int ((10 : Int) ^ (15 : Int).toNat)])) q2 (.tup [.int 2, .int 0, .int (-(10 : Int) ^ (15 : Int).toNat)])) q3 (.tup [.int 1, .int 2, .int 0])) m (.lst [.ref q1, .ref q2, .ref q3]) = H4 at g1 g2 g3 g4 s4 ⊢
      have hb4 := hb.same s4
      have nm : m ≠ b := fun z => by rw [z] at g4; exact hb4.neL g4 (by intro z; cases z)
      walk_at "el"
      refine ⟨b, c, 3, rfl, hb4, by decide, by decide, fun r H5 r0 r1 hb5 k5 => ?_⟩
      have kk : Kp b H H5 := Kp.into k5 s4
      have h1 := k5 _ _ (hb4.neT g1) g1
      have h2 := k5 _ _ (hb4.neT g2) g2
      have h3 := k5 _ _ (hb4.neT g3) g3
      have h4 := k5 _ _ nm g4
      walk_at "el"
      have hr3 : r = 0 ∨ r = 1 ∨ r = 2 := by omega
      rcases hr3 with rfl | rfl | rfl
      · refine n_ixL (SqL.of h4) rfl ?_
        exact k q1 (.g (0, 1, (10 : Int) ^ (15 : Int).toNat)) _ rfl ⟨⟨by decide, by decide, by decide +kernel, by decide +kernel⟩, by decide⟩ h1 hb5 kk
      · refine n_ixL (SqL.of h4) rfl ?_
        exact k q2 (.g (2, 0, -(10 : Int) ^ (15 : Int).toNat)) _ rfl ⟨⟨by decide, by decide, by decide +kernel, by decide +kernel⟩, by decide⟩ h2 hb5 kk
      · refine n_ixL (SqL.of h4) rfl ?_
        exact k q3 (.g (1, 2, 0)) _ rfl ⟨⟨by decide, by decide, by decide +kernel, by decide +kernel⟩, by decide⟩ h3 hb5 kk
    | sur =>
      walk_at "el"
      show if decide (V.int 2 = V.int 0) = true then _ else _
      rw [d2]
      walk_at "el"
      show if decide (V.int 2 = V.int 1) = true then _ else _
      rw [d4]
      walk_at "el"
      refine ⟨b, c, 3, rfl, hb, by decide, by decide, fun r1 H1 r10 r11 hb1 k1 => ?_⟩
      walk_at "el"
      refine ⟨by show 2 ≤ sizeLine; decide, fun m hm => ?_⟩
      have e1 := nw_of hm (.lst [.str "least", .str "most"])
      have g1 := upd_at hm (.lst [.str "least", .str "most"])
      walk_at "el"
      refine ⟨b, c, 2, rfl, hb1.same e1, by decide, by decide, fun r2 H2 r20 r21 hb2 k2 => ?_⟩
      have g2 := k2 _ _ (hb1.ne hm) g1
      have kk2 : Kp b H H2 := k1.trans (Kp.into k2 e1)
      obtain ⟨s, hs, so⟩ : ∃ s, atI [V.str "least", V.str "most"] r2 = some (.str s) ∧ (s = "least" ∨ s = "most") := by
        have h : r2 = 0 ∨ r2 = 1 := by omega
        rcases h with rfl | rfl
        · exact ⟨_, rfl, .inl rfl⟩
        · exact ⟨_, rfl, .inr rfl⟩
      walk_at "el"
      refine n_ixL (SqL.of g2) hs ?_
      walk_at "el"
      refine a_I ⟨by decide, by decide, by decide⟩ ?_
      walk_at "el"
      refine a_I ⟨by decide, by decide, by decide⟩ ?_
      walk_at "el"
      refine ⟨by show 3 ≤ sizeLine; decide, fun m2 hm2 => ?_⟩
      have e3 := nw_of hm2 (.lst [.int 5, .int ((10 : Int) ^ (15 : Int).toNat), .int (-(10 : Int) ^ (15 : Int).toNat)])
      have g3 := upd_at hm2 (.lst [.int 5, .int ((10 : Int) ^ (15 : Int).toNat), .int (-(10 : Int) ^ (15 : Int).toNat)])
      walk_at "el"
      refine ⟨b, c, 3, rfl, hb2.same e3, by decide, by decide, fun r3 H3 r30 r31 hb3 k3 => ?_⟩
      have g4 := k3 _ _ (hb2.ne hm2) g3
      have kk3 : Kp b H H3 := kk2.trans (Kp.into k3 e3)
      obtain ⟨n, hn, n0⟩ : ∃ n, atI [V.int 5, .int ((10 : Int) ^ (15 : Int).toNat), .int (-(10 : Int) ^ (15 : Int).toNat)] r3 = some (.int n) ∧ NumOk n := by
        have h : r3 = 0 ∨ r3 = 1 ∨ r3 = 2 := by omega
        rcases h with rfl | rfl | rfl
        · exact ⟨_, rfl, by decide +kernel, by decide +kernel⟩
        · exact ⟨_, rfl, by decide +kernel, by decide +kernel⟩
        · exact ⟨_, rfl, by decide +kernel, by decide +kernel⟩
      walk_at "el"
      refine n_ixL (SqL.of g4) hn ?_
      walk_at "el"
      refine ⟨by show 3 ≤ sizeLine; decide, fun q hq => ?_⟩
      have e4 := nw_of hq (.tup (Itm.enc (.s (r1, s, n))))
      exact k q (.s (r1, s, n)) _ rfl ⟨⟨r10, r11⟩, so, n0⟩ upd_same (hb3.same e4) (kk3.trans (same_kp e4))
    | cla =>
      walk_at "el"
      show if decide (V.int 3 = V.int 0) = true then _ else _
      rw [d3]
      walk_at "el"
      show if decide (V.int 3 = V.int 1) = true then _ else _
      rw [d5]
      walk_at "el"
      refine ⟨b, c, 3, rfl, hb, by decide, by decide, fun r1 H1 r10 r11 hb1 k1 => ?_⟩
      walk_at "el"
      refine ⟨b, c, rfl, hb1, fun s2 H2 so2 hb2 k2 => ?_⟩
      walk_at "el"
      refine ⟨b, c, 3, rfl, hb2, by decide, by decide, fun r3 H3 r30 r31 hb3 k3 => ?_⟩
      walk_at "el"
      refine ⟨b, c, rfl, hb3, fun s4 H4 so4 hb4 k4 => ?_⟩
      walk_at "el"
      refine ⟨by show 4 ≤ sizeLine; decide, fun q hq => ?_⟩
      have e4 := nw_of hq (.tup (Itm.enc (.l (r1, s2, r3, s4))))
      exact k q (.l (r1, s2, r3, s4)) _ rfl ⟨⟨r10, r11⟩, so2, ⟨r30, r31⟩, so4⟩ upd_same (hb4.same e4) ((((k1.trans k2).trans k3).trans k4).trans (same_kp e4))
theorem ok_spoiltN (F : Fun K "_law_spoilt_number" "_law_spoilt_number" s_spoilt_number f fd) (T : Tb mg) (c_one : Cal P w K mg base CX0 2 "_law_one" ["_law_bag_here", "_law_menu"] (spOne K)) : FnOk P w K mg base CX0 3 f fd ["_law_bag_here"] (spSpoiltN K) := by
  refine F.ok sc_spoilt_number (fun vs H Q E h => ?_) (fun cdv A outer s H vs Q E hr h => ?_)
  · obtain ⟨_, _, rfl, _⟩ := h
    rfl
  · obtain ⟨b, c, rfl, hb, k⟩ := h
    refine ⟨_, (pss_one (ps_ret (pe_cal c_one (hr.mono (by decide)) pass0 (pa_cons (pv 0) (pa_cons (pe_lst (pa_cons (pe_op u_add (pe_op op_pow pe_int pe_int) pe_int) (pa_cons (pe_op op_sub (pe_un un_neg (pe_op op_pow pe_int pe_int)) pe_int) (pa_cons pe_bl (pa_cons pe_non (pa_cons pe_str (pa_cons (pe_tup (pa_cons pe_int pa_nil)) (pa_cons (pe_lst (pa_cons pe_int pa_nil)) (pa_cons (pe_op op_pow pe_int pe_int) pa_nil))))))))) pa_nil))))), ?_⟩
    walk_at "el"
    refine a_I ⟨by decide, by decide, by decide⟩ ?_
    walk_at "el"
    refine a_I ⟨by decide, by decide, by decide⟩ ?_
    walk_at "el"
    refine ⟨by show 1 ≤ sizeLine; decide, fun p1 hp1 => ?_⟩
    have e1 := nw_of hp1
    walk_at "el"
    refine ⟨by show 1 ≤ sizeLine; decide, fun p2 hp2 => ?_⟩
    have e2 := nw_of hp2
    have w1 := e2 (.lst [.int 0]) _ _ (upd_at hp1 (.tup [.int 3]))
    have w2 := upd_at hp2 (.lst [.int 0])
    have s4 : Same H _ := (e1 (.tup [.int 3])).trans (e2 (.lst [.int 0]))
    generalize upd (upd H p1 (.tup [.int 3])) p2 (.lst [.int 0]) = H8 at w1 w2 s4 ⊢
    walk_at "el"
    refine a_I ⟨by decide, by decide, by decide⟩ ?_
    walk_at "el"
    refine ⟨by show 8 ≤ sizeLine; decide, fun m hm => ?_⟩
    have e5 := nw_of hm
    have hb8 := hb.same s4
    walk_at "el"
    refine ⟨b, c, m, _, rfl, hb8.same (e5 _), hb8.ne hm, .inl upd_same, by show 0 < 8; decide, by show 8 ≤ 1000000000; decide, fun y H9 hy hb9 k9 => ?_⟩
    have ty : Th K H9 y := by
      refine Th.kpK k9 hb9 (hb8.same (e5 _)) ?_
      clear hb9 k9
      revert y
      exact all_cons (.int _) (all_cons (.int _) (all_cons (.bl _) (all_cons .non (all_cons (.str _) (all_cons (.tup (e5 _ _ _ w1)) (all_cons (.lst (e5 _ _ _ w2)) (all_cons (.int _) all_nil)))))))
    have by_ : numB y = false := by
      clear hb9 k9 ty
      revert y
      exact all_cons (by decide +kernel) (all_cons (by decide +kernel) (all_cons rfl (all_cons rfl (all_cons rfl (all_cons rfl (all_cons rfl (all_cons (by decide +kernel) all_nil)))))))
    exact k y H9 by_ ty hb9 (Kp.into k9 (s4.trans (e5 _)))
theorem ok_beyond (F : Fun K "_law_beyond" "_law_beyond" s_beyond f fd) (T : Tb mg) (c_one : Cal P w K mg base CX0 2 "_law_one" ["_law_bag_here", "_law_menu"] (spOne K)) (c_Book : BookG P w K mg base C D0) : FnOk P w K mg base CX0 9 f fd ["_law_bag_here", "_law_many"] (spBeyond K) := by
  refine F.ok sc_beyond (fun vs H Q E h => ?_) (fun cdv A outer s H vs Q E hr h => ?_)
  · obtain ⟨_, _, _, rfl, _⟩ := h
    rfl
  · obtain ⟨b, c, n, rfl, hb, n0, n9, k⟩ := h
    refine ⟨_, (pss_one (ps_ret (pe_cal c_one (hr.mono (by decide)) pass0 (pa_cons (pv 0) (pa_cons (pe_lst (pa_cons (pe_un un_neg pe_int) (pa_cons (pv 1) (pa_cons (pv 1) (pa_cons pe_bl (pa_cons pe_bl (pa_cons pe_non (pa_cons pe_str (pa_cons (pe_tup (pa_cons pe_int pa_nil)) (pa_cons pe_int (pa_cons (pe_bk2 c_Book (hr.mono (by decide)) rfl (pa_cons pe_int (pa_cons pe_int pa_nil))) (pa_cons (pe_lst (pa_cons pe_int pa_nil)) (pa_cons pe_dnewK pa_nil))))))))))))) pa_nil))))), ?_⟩
    walk_at "el"
    refine ⟨by show 1 ≤ sizeLine; decide, fun p1 hp1 => ?_⟩
    have e1 := nw_of hp1
    walk_at "el"
    refine n_bk2 c_Book.dflt (by decide) (by decide) (by decide) (by decide) fun o dx t1 g1 s1 c1 H4 e4 ho ho4 _ _ _ _ => ?_
    have w1 := e4 _ _ (upd_at hp1 (.tup [.int 0]))
    have s4 : Same H H4 := (e1 _).trans e4
    clear e1 e4 ho hp1
    walk_at "el"
    refine ⟨by show 1 ≤ sizeLine; decide, fun p2 hp2 => ?_⟩
    have e2 := nw_of hp2
    walk_at "el"
    intro p3 hp3
    have e3 := nw_of hp3
    have w1' := e3 (.dK []) _ _ (e2 (.lst [.int 0]) _ _ w1)
    have w2 := e3 (.dK []) _ _ (upd_at hp2 (.lst [.int 0]))
    have w3 := upd_at hp3 (.dK [])
    have wo' := e3 (.dK []) _ _ (e2 (.lst [.int 0]) _ _ ho4)
    have s5 : Same H _ := (s4.trans (e2 (.lst [.int 0]))).trans (e3 (.dK []))
    generalize upd (upd H4 p2 (.lst [.int 0])) p3 (.dK []) = H5 at w1' w2 w3 wo' s5 ⊢
    walk_at "el"
    refine ⟨by show 12 ≤ sizeLine; decide, fun m hm => ?_⟩
    have e5 := nw_of hm
    have hb5 := hb.same s5
    walk_at "el"
    refine ⟨b, c, m, _, rfl, hb5.same (e5 _), hb5.ne hm, .inl upd_same, by show 0 < 12; decide, by show 12 ≤ 1000000000; decide, fun y H9 hy hb9 k9 => ?_⟩
    have ty : Th K H9 y := by
      refine Th.kpK k9 hb9 (hb5.same (e5 _)) ?_
      clear hb9 k9
      revert y
      exact all_cons (.int _) (all_cons (.int _) (all_cons (.int _) (all_cons (.bl _) (all_cons (.bl _) (all_cons .non (all_cons (.str _) (all_cons (.tup (e5 _ _ _ w1')) (all_cons (.int _) (all_cons (.ins (e5 _ _ _ wo') c_Book.c.own) (all_cons (.lst (e5 _ _ _ w2)) (all_cons (.dct (e5 _ _ _ w3)) all_nil)))))))))))
    have by_ : belowB y n = false := by
      have ge : ∀ i : Int, i < 0 ∨ n ≤ i → belowB (.int i) n = false := fun i h => by
        show (decide (0 ≤ i) && decide (i < n)) = false
        rcases h with h | h
        · rw [decide_eq_false (show ¬ 0 ≤ i by omega), Bool.false_and]
        · rw [decide_eq_false (show ¬ i < n by omega), Bool.and_false]
      clear hb9 k9 ty
      revert y
      exact all_cons (ge _ (.inl (by decide))) (all_cons (ge _ (.inr (Int.le_refl _))) (all_cons (ge _ (.inr (Int.le_refl _))) (all_cons rfl (all_cons rfl (all_cons rfl (all_cons rfl (all_cons rfl (all_cons (ge _ (.inr n9)) (all_cons rfl (all_cons rfl (all_cons rfl all_nil)))))))))))
    exact k y H9 by_ ty hb9 (Kp.into k9 (s5.trans (e5 _)))
end
end EL

/- part Z14D -/
namespace EL
open PySem PySem.Spec PyProof.Rows L2
open PySem.W (Frag)
local macro_rules | `(tactic| walk_at "el1") => `(tactic| with_reducible first
  | refine a_sasg ?_ | refine a_sdrop ?_ | refine a_saugS ?_ | refine a_spar ?_ | refine a_seq ?_ | refine a_asg ?_ | refine a_drop ?_ | refine a_ret ?_ | refine a_if ?_ | refine a_next ?_
  | refine a_op ?_ | refine a_cons ?_ | refine a_nil ?_ | refine a_cb ?_ | refine a_call ?_ | refine a_c ?_ | refine a_gn ?_ | refine a_nx ?_ | refine a_rt ?_ | refine a_un ?_
  | refine a_test ?_ | refine a_B ?_ | refine a_bl ?_ | refine a_and ?_ | refine a_or ?_ | refine a_not ?_ | refine a_andV ?_ | refine a_orV ?_ | refine a_notV ?_ | refine a_ifx ?_ | refine a_chain ?_
  | refine a_nT ?_ | refine a_nF ?_ | refine a_fld ?_ | refine a_getF ?_ | refine a_T ?_ | refine a_F ?_ | refine a_tup ?_ | refine a_lst ?_ | refine a_sub ?_ | refine a_augS ?_ | refine a_two ?_ | refine a_I0 ?_ | refine a_U ?_ | refine n_add ?_ | refine n_int ?_ | refine n_ib ?_ | refine a_ip ?_ | refine a_rng1 ?_ | refine a_rng2 ?_ | refine a_bm ?_ | refine a_abs ?_ | refine a_pairs ?_ | refine a_pairs0 ?_ | refine a_bk ?_ | refine a_prp ?_ | refine a_lc ?_ | refine a_yes ?_ | refine a_sl ?_ | refine a_nop ?_ | refine a_prt ?_ | refine a_ex1 ?_ | refine a_for ?_ | refine a_sfor ?_ | refine a_iE1 ?_ | refine a_iEs ?_ | refine a_iEz ?_ | refine a_iEnum ?_ | refine a_iTup ?_ | refine a_iList ?_ | refine a_gcons ?_ | refine a_gnil ?_ | refine a_revT ?_ | refine a_spar3 ?_ | refine a_par3 ?_ | refine a_three ?_)
local macro_rules | `(tactic| walk_at "el2") => `(tactic| first
  | (refine a_var (by rfl) ?_)
  | (refine n_ixL (SqL.of (by assumption)) (by rfl) ?_) | (refine n_ixT (SqT.of (by assumption)) (by rfl) ?_) | (refine n_eq (by rfl) ?_) | (refine n_ne (by rfl) ?_)
  | (refine n_isN ?_) | (refine n_notN ?_) | (refine n_isB ?_) | (refine n_notB ?_) | (refine n_isBI ?_) | (refine n_notBI ?_) | (refine n_len (.inl (SqL.of (by assumption))) ?_) | (refine n_len (.inr (SqT.of (by assumption))) ?_)
  | (refine a_getL (SqL.of (by assumption)) (by rfl) ?_)
  | (refine n_isInt (by assumption) ?_) | (refine n_isBool (by assumption) ?_) | (refine n_isStr (by assumption) ?_) | (refine n_isTup (by assumption) ?_) | (refine n_isLst (by assumption) ?_))
local macro_rules | `(tactic| walk_at "el") => `(tactic| repeat (first | walk_at "el1" | walk_at "el2"))

section
variable {P : Program} {w : World} {K : Frag} {mg : Str → Option Value} {base : Heap} {f : Addr} {fd : FuncData} {C : Addr} {D0 : BookD}
theorem itm_nb {m : Itm} {ev wi : Int} (e : 3 ≤ ev) (w : 3 ≤ wi) (h : m.Ok 3 3) : m.Ok ev wi := by
  cases m with
  | t x => exact ⟨⟨h.1.1, by have := h.1.2; omega⟩, ⟨h.2.1.1, by have := h.2.1.2; omega⟩, h.2.2⟩
  | g x => exact ⟨⟨⟨h.1.1.1, by have := h.1.1.2; omega⟩, ⟨h.1.2.1.1, by have := h.1.2.1.2; omega⟩, h.1.2.2⟩, h.2⟩
  | s x => exact ⟨⟨h.1.1, by have := h.1.2; omega⟩, h.2⟩
  | l x => exact ⟨⟨h.1.1, by have := h.1.2; omega⟩, h.2.1, ⟨h.2.2.1.1, by have := h.2.2.1.2; omega⟩, h.2.2.2⟩
theorem ok_spoilt (F : Fun K "_law_spoilt" "_law_spoilt" s_spoilt f fd) (T : Tb mg) (c_take : Cal P w K mg base CX0 1 "_law_take" ["_law_bag_here", "_law_many"] spTake) (c_one : Cal P w K mg base CX0 2 "_law_one" ["_law_bag_here", "_law_menu"] (spOne K)) (c_beyond : Cal P w K mg base CX0 9 "_law_beyond" ["_law_bag_here", "_law_many"] (spBeyond K)) (c_spoilt_number : Cal P w K mg base CX0 3 "_law_spoilt_number" ["_law_bag_here"] (spSpoiltN K)) (c_Book : BookG P w K mg base C D0) :
    FnOk P w K mg base CX0 10 f fd ["_law_bag_here", "_law_part", "_law_item", "_law_events", "_law_witnesses"] (spSpoilt K) := by
  refine F.ok sc_spoilt (fun vs H Q E h => ?_) (fun cdv A outer s H vs Q E hr h => ?_)
  · obtain ⟨_, _, _, _, _, _, rfl, _⟩ := h
    rfl
  · obtain ⟨b, c, it, m, ev, wi, rfl, hb, hit, mo, ⟨e3, e8⟩, ⟨w3, w8⟩, k⟩ := h
    refine ⟨_, (pss_cons (ps_set (i := 5) sc_spoilt.nd rfl (Or.inl rfl) (pe_cal c_take (hr.mono (by decide)) pass0 (pa_cons (pv 0) (pa_cons pe_int pa_nil))))
  (pss_cons (ps_if (pt_cmpR (u_eq hr.units) (pv 5) pe_int (nomark _))
    (pss_one (ps_ret (pe_cal c_one (hr.mono (by decide)) pass0 (pa_cons (pv 0) (pa_cons (pe_lst (pa_cons (pe_callTy u_list rfl T.b.list_ (by decide +kernel) (pa_cons (pv 2) pa_nil)) (pa_cons (pe_slice u_slice (pv 2) po_none (po_some (pe_un un_neg pe_int))) (pa_cons (pe_op u_add (pv 2) (pe_tup (pa_cons pe_int pa_nil))) (pa_cons pe_non (pa_cons pe_int (pa_cons pe_str (pa_cons pe_dnewK (pa_cons (pe_tup pa_nil) (pa_cons (pe_bk2 c_Book (hr.mono (by decide)) rfl (pa_cons pe_int (pa_cons pe_int pa_nil))) pa_nil)))))))))) pa_nil)))))
    pss_nil)
  (pss_cons (ps_if (pt_cmpR (u_eq hr.units) (pv 1) pe_int (nomark _))
    (pss_cons (ps_if (pt_cmpR op_lt (pv 5) pe_int (nomark _))
    (pss_cons (ps_set (i := 6) sc_spoilt.nd rfl (Or.inl rfl) (pe_cal c_beyond (hr.mono (by decide)) pass0 (pa_cons (pv 0) (pa_cons (pv 4) pa_nil))))
  (pss_one (ps_ret (pe_ifExp (pt_cmpR (u_eq hr.units) (pv 5) pe_int (nomark _)) (pe_op u_add (pe_tup (pa_cons (pv 6) pa_nil)) (pe_slice u_slice (pv 2) (po_some pe_int) po_none)) (pe_op u_add (pe_op u_add (pe_slice u_slice (pv 2) po_none (po_some pe_int)) (pe_tup (pa_cons (pv 6) pa_nil))) (pe_slice u_slice (pv 2) (po_some pe_int) po_none))))))
    pss_nil)
  (pss_cons (ps_set (i := 7) sc_spoilt.nd rfl (Or.inl rfl) (pe_cal c_one (hr.mono (by decide)) pass0 (pa_cons (pv 0) (pa_cons (pe_lst (pa_cons pe_str (pa_cons pe_str (pa_cons pe_non (pa_cons pe_int (pa_cons (pe_tup (pa_cons pe_str pa_nil)) (pa_cons pe_str (pa_cons (pe_lst (pa_cons pe_str pa_nil)) (pa_cons pe_str pa_nil))))))))) pa_nil))))
  (pss_one (ps_ret (pe_ifExp (pt_cmpR (u_eq hr.units) (pv 5) pe_int (nomark _)) (pe_op u_add (pe_op u_add (pe_slice u_slice (pv 2) po_none (po_some pe_int)) (pe_tup (pa_cons (pv 7) pa_nil))) (pe_slice u_slice (pv 2) (po_some pe_int) po_none)) (pe_op u_add (pe_slice u_slice (pv 2) po_none (po_some pe_int)) (pe_tup (pa_cons (pv 7) pa_nil))))))))
    pss_nil)
  (pss_cons (ps_if (pt_cmpR op_lt (pv 5) pe_int (nomark _))
    (pss_one (ps_ret (pe_op u_add (pe_tup (pa_cons (pe_cal c_beyond (hr.mono (by decide)) pass0 (pa_cons (pv 0) (pa_cons (pe_ifExp (pt_cmpR (u_eq hr.units) (pv 1) pe_int (nomark _)) (pv 4) (pv 3)) pa_nil))) pa_nil)) (pe_slice u_slice (pv 2) (po_some pe_int) po_none))))
    pss_nil)
  (pss_cons (ps_if (PW.pt (pw_and (pt_cmpR (u_eq hr.units) (pv 5) pe_int (nomark _)) (pw_and1 (pt_cmpR (u_eq hr.units) (pv 1) pe_int (nomark _)))))
    (pss_one (ps_ret (pe_tup (pa_cons (pe_ix ix_seq (pv 2) pe_int (fun _ _ => rfl)) (pa_cons (pe_ix ix_seq (pv 2) pe_int (fun _ _ => rfl)) (pa_cons (pe_ix ix_seq (pv 2) pe_int (fun _ _ => rfl)) pa_nil))))))
    pss_nil)
  (pss_cons (ps_if (pt_cmpR op_lt (pv 5) pe_int (nomark _))
    (pss_cons (ps_set (i := 8) sc_spoilt.nd rfl (Or.inl rfl) (pe_cal c_beyond (hr.mono (by decide)) pass0 (pa_cons (pv 0) (pa_cons (pv 3) pa_nil))))
  (Evl.pss_cut (ps_if (pt_cmpR (u_eq hr.units) (pv 1) pe_int (nomark _))
    (pss_one (ps_set (i := 8) sc_spoilt.nd rfl (Or.inl rfl) (pe_cal c_one (hr.mono (by decide)) pass0 (pa_cons (pv 0) (pa_cons (pe_lst (pa_cons pe_str (pa_cons pe_str (pa_cons pe_non (pa_cons pe_int (pa_cons (pe_tup (pa_cons pe_str pa_nil)) (pa_cons pe_str (pa_cons (pe_lst (pa_cons pe_str pa_nil)) (pa_cons pe_dnewK pa_nil))))))))) pa_nil)))))
    pss_nil)
  (pss_one (ps_ret (pe_op u_add (pe_op u_add (pe_slice u_slice (pv 2) po_none (po_some pe_int)) (pe_tup (pa_cons (pv 8) pa_nil))) (pe_slice u_slice (pv 2) (po_some pe_int) po_none))))))
    pss_nil)
  (pss_one (ps_ret (pe_op u_add (pe_slice u_slice (pv 2) po_none (po_some pe_int)) (pe_tup (pa_cons (pe_cal c_spoilt_number (hr.mono (by decide)) pass0 (pa_cons (pv 0) pa_nil)) pa_nil))))))))))), ?_⟩
    walk_at "el"
    refine ⟨b, c, 7, rfl, hb, by decide, by decide, fun md H1 m0 m7 hb1 k1 => ?_⟩
    have hit1 := k1 _ _ (hb.neT hit) hit
    have ml := m.len
    have l4 : m.enc.length ≤ 4 := by rw [ml]; generalize m.pt = u; cases u <;> decide
    have l3 : 3 ≤ m.enc.length := by rw [ml]; generalize m.pt = u; cases u <;> decide
    have mth : ∀ {H' : Hp}, ∀ y ∈ m.enc, Th K H' y := fun {H'} => m.th
    clear hit hb
    walk_at "el"
    refine ite2 (fun h0 => ?_) (fun h0 => ?_)
    · -- something else altogether
      walk_at "el"
      refine ⟨it, _, rfl, .inr (SqT.of hit1), fun p1 hp1 => ?_⟩
      have e1 := nw_of hp1 (.lst m.enc)
      have g1 := upd_at hp1 (.lst m.enc)
      have n1 := hb1.ne hp1
      have hit2 := e1 _ _ hit1
      generalize upd H1 p1 (.lst m.enc) = H2 at e1 g1 hit2 ⊢
      walk_at "el"
      refine n_slT hit2 fun p2 H3 s3 g2 => ?_
      have lc : (cutV m.enc none (some (-1))).length ≠ m.pt.form.length := by
        cases m with
        | t x => exact (by decide : (2 : Nat) ≠ 3)
        | g x => exact (by decide : (2 : Nat) ≠ 3)
        | s x => exact (by decide : (2 : Nat) ≠ 3)
        | l x => exact (by decide : (3 : Nat) ≠ 4)
      have cm : ∀ y ∈ cutV m.enc none (some (-1)), y ∈ m.enc := fun y hy => cut_mem hy
      generalize cutV m.enc none (some (-1)) = zs at g2 lc cm
      have hit3 := s3 _ _ hit2
      have g1' := s3 _ _ g1
      have s13 := e1.trans s3
      clear e1 g1 hit2 s3 hp1
      walk_at "el"
      refine ⟨by show 1 ≤ sizeLine; decide, fun p3 hp3 => ?_⟩
      have e4 := nw_of hp3 (.tup [.int 0])
      have hit4 := e4 _ _ hit3
      walk_at "el"
      refine n_catT hit4 (upd_at hp3 _) (Nat.le_trans (m := 5) (by show m.enc.length + 1 ≤ 5; omega) (by decide)) fun p4 H5 s5 g4 => ?_
      have s15 := (s13.trans e4).trans s5
      have g1'' := s5 _ _ (e4 _ _ g1')
      have g2'' := s5 _ _ (e4 _ _ g2)
      clear e4 hit4 hit3 g1' g2 s5 s13 hp3
      walk_at "el"
      intro p5 hp5
      have e6 := nw_of hp5 (.dK [])
      have g5 := upd_at hp5 (.dK [])
      have g1 := e6 _ _ g1''
      have g2 := e6 _ _ g2''
      have g4 := e6 _ _ g4
      have s16 := s15.trans e6
      generalize upd H5 p5 (.dK []) = H6 at g1 g2 g4 g5 s16 ⊢
      clear e6 g1'' g2'' s15 hp5
      walk_at "el"
      refine ⟨by show 0 ≤ sizeLine; decide, fun p6 hp6 => ?_⟩
      have e7 := nw_of hp6 (.tup [])
      have g6 := upd_at hp6 (.tup [])
      have g1 := e7 _ _ g1
      have g2 := e7 _ _ g2
      have g4 := e7 _ _ g4
      have g5 := e7 _ _ g5
      have s17 := s16.trans e7
      generalize upd H6 p6 (.tup []) = H7 at g1 g2 g4 g5 g6 s17 ⊢
      clear e7 s16 hp6
      walk_at "el"
      refine n_bk2 c_Book.dflt (by decide) (by decide) (by decide) (by decide) fun o dx t1 q1 s1 c1 H8 e8' ho g7 _ _ _ _ => ?_
      have g1 := e8' _ _ g1
      have g2 := e8' _ _ g2
      have g4 := e8' _ _ g4
      have g5 := e8' _ _ g5
      have g6 := e8' _ _ g6
      have s18 := s17.trans e8'
      clear e8' s17 ho
      have hb8 := hb1.same s18
      walk_at "el"
      refine ⟨by show 9 ≤ sizeLine; decide, fun p9 hm => ?_⟩
      have e9 := nw_of hm
      walk_at "el"
      refine ⟨b, c, p9, _, rfl, hb8.same (e9 _), hb8.ne hm, .inl upd_same, by show 0 < 9; decide, by show 9 ≤ 1000000000; decide, fun y H9 hy hb9 k9 => ?_⟩
      have kf : Kp b H8 H9 := Kp.into k9 (e9 _)
      have kk : Kp b H1 H9 := Kp.into kf s18
      have d1 := kf _ _ n1 g1
      have d2 := kf _ _ (hb8.neT g2) g2
      have d4 := kf _ _ (hb8.neT g4) g4
      have d5 := kf _ _ (fun z => by obtain ⟨_, _, _, _, q, _⟩ := hb8; rw [z, q] at g5; cases g5) g5
      have d6 := kf _ _ (hb8.neT g6) g6
      have d7 := kf _ _ (fun z => by obtain ⟨_, _, _, _, q, _⟩ := hb8; rw [z, q] at g7; cases g7) g7
      have both : ThD K H9 y ∧ ¬ ItemOk m.pt H9 y ev wi := by
        clear hb9 k9 kf kk
        revert y
        refine all_cons ⟨thd_obj (.lst d1) d1 (fun _ z => nomatch z), not_lst d1⟩ (all_cons ⟨thd_tup d2 fun y hy => mth y (cm y hy), not_len d2 lc⟩ (all_cons ⟨thd_tup d4 (all_app mth (all_cons (.int _) all_nil)), not_len d4 (by rw [List.length_append, ml]; show m.pt.form.length + 1 ≠ _; omega)⟩ (all_cons ⟨thd_val .non (fun _ z => nomatch z), not_val fun _ z => nomatch z⟩ (all_cons ⟨thd_val (.int _) (fun _ z => nomatch z), not_val fun _ z => nomatch z⟩ (all_cons ⟨thd_val (.str _) (fun _ z => nomatch z), not_val fun _ z => nomatch z⟩ (all_cons ⟨thd_obj (.dct d5) d5 (fun _ z => nomatch z), not_obj d5 fun _ z => nomatch z⟩ (all_cons ⟨thd_tup d6 all_nil, not_len d6 (by generalize m.pt = u; cases u <;> decide)⟩ (all_cons ⟨thd_obj (.ins d7 c_Book.c.own) d7 (fun _ z => nomatch z), not_obj d7 fun _ z => nomatch z⟩ all_nil))))))))
      exact k y H9 both.1 both.2 hb9 (k1.trans kk)
    have fin : ∀ {H' : Hp} {q : Addr} {ys : List V} {j : Nat} {wd : Str} {x : V}, Bag H' b c → Kp b H1 H' → H' q = some (.tup ys) → (∀ y ∈ ys, Th K H' y) → m.pt.form[j]? = some wd → ys[j]? = some x → standB wd ys j x ev wi = false → Q (.ref q) H' := fun {H' q ys j wd x} hb' k' hq t hw hx bd => k _ H' (thd_tup hq t) (not_at hq hw hx bd) hb' (k1.trans k')
    clear k mth ml l4 l3
    cases m with
    | t x =>
      have hit1 : H1 it = some (.tup [V.int x.1, V.int x.2.1, V.int x.2.2]) := hit1
      show tSeq _ _ _ [some (.ref b), some (.int 0), some (.ref it), some (.int ev), some (.int wi), some (.int md), none, none, none] H1
      walk_at "el"
      rw [show decide (V.int 0 = V.int 3) = false from by decide]
      walk_at "el"
      refine ite2 (fun h1 => ?_) (fun h1 => ?_)
      · walk_at "el"
        rw [show decide (V.int 0 = V.int 0) = true from by decide]
        walk_at "el"
        refine ⟨b, c, wi, rfl, hb1, by omega, by omega, fun y H2 by_ ty hb2 k2 => ?_⟩
        have hit2 := k2 _ _ (hb1.neT hit1) hit1
        walk_at "el"
        refine ⟨by show 1 ≤ sizeLine; decide, fun p1 hp1 => ?_⟩
        have a1 := nw_of hp1 (.tup [y])
        have h1 := upd_at hp1 (.tup [y])
        have hit3 := a1 _ _ hit2
        walk_at "el"
        refine n_slT hit3 fun p2 H4 s4 h2 => ?_
        rw [show cutV [V.int x.1, V.int x.2.1, V.int x.2.2] (some 1) none = [V.int x.2.1, V.int x.2.2] from rfl] at h2
        walk_at "el"
        refine n_catT (s4 _ _ h1) h2 (by show 1 + 2 ≤ sizeLine; decide) fun p3 H5 s5 h3 => ?_
        have s25 := (a1.trans s4).trans s5
        exact fin (j := 0) (wd := "witness") (hb2.same s25) (k2.trans (same_kp s25)) h3 (all_cons (ty.same s25) (all_cons (.int _) (all_cons (.int _) all_nil))) rfl rfl (st_w.trans by_)
      walk_at "el"
      refine ite2 (fun h2 => ?_) (fun h2 => ?_)
      · walk_at "el"
        rw [show decide (V.int 0 = V.int 1) = false from by decide]
        walk_at "el"
        refine ite2 (fun h3 => ?_) (fun h3 => ?_)
        · walk_at "el"
          refine ⟨b, c, ev, rfl, hb1, by omega, by omega, fun y H2 by_ ty hb2 k2 => ?_⟩
          have hit2 := k2 _ _ (hb1.neT hit1) hit1
          walk_at "el"
          refine a_cut (fun σ' H' => H2 = H' ∧ σ' = [some (.ref b), some (.int 0), some (.ref it), some (.int ev), some (.int wi), some (.int md), none, none, some y]) ?_ ?_
          · walk_at "el"
            rw [show decide (V.int 0 = V.int 2) = false from by decide]
            walk_at "el"
            exact ⟨rfl, rfl⟩
          rintro σ' H' ⟨rfl, rfl⟩
          walk_at "el"
          refine n_slT hit2 fun p1 H4 s4 h1 => ?_
          rw [show cutV [V.int x.1, V.int x.2.1, V.int x.2.2] none (some 1) = [V.int x.1] from rfl] at h1
          walk_at "el"
          refine ⟨by show 1 ≤ sizeLine; decide, fun p2 hp2 => ?_⟩
          have a2 := nw_of hp2 (.tup [y])
          have h2 := upd_at hp2 (.tup [y])
          walk_at "el"
          refine n_catT (a2 _ _ h1) h2 (by show 1 + 1 ≤ sizeLine; decide) fun p3 H5 s5 h3 => ?_
          have s45 := (s4.trans a2).trans s5
          walk_at "el"
          refine n_slT (s45 _ _ hit2) fun p4 H6 s6 h4 => ?_
          rw [show cutV [V.int x.1, V.int x.2.1, V.int x.2.2] (some 2) none = [V.int x.2.2] from rfl] at h4
          walk_at "el"
          refine n_catT (s6 _ _ h3) h4 (by show (1 + 1) + 1 ≤ sizeLine; decide) fun p5 H7 s7 h5 => ?_
          have s47 := (s45.trans s6).trans s7
          exact fin (j := 1) (wd := "event") (hb2.same s47) (k2.trans (same_kp s47)) h5 (all_cons (.int _) (all_cons (ty.same s47) (all_cons (.int _) all_nil))) rfl rfl (st_e.trans by_)
        · walk_at "el"
          refine n_slT hit1 fun p1 H2 s2 h1 => ?_
          rw [show cutV [V.int x.1, V.int x.2.1, V.int x.2.2] none (some 2) = [V.int x.1, V.int x.2.1] from rfl] at h1
          walk_at "el"
          have hb1' := hb1.same s2
          refine ⟨b, c, rfl, hb1', fun y H3 by_ ty hb3 k3 => ?_⟩
          have h1 := k3 _ _ (hb1'.neT h1) h1
          walk_at "el"
          refine ⟨by show 1 ≤ sizeLine; decide, fun p2 hp2 => ?_⟩
          have a2 := nw_of hp2 (.tup [y])
          have h2 := upd_at hp2 (.tup [y])
          walk_at "el"
          refine n_catT (a2 _ _ h1) h2 (by show 2 + 1 ≤ sizeLine; decide) fun p3 H5 s5 h3 => ?_
          have s35 := a2.trans s5
          exact fin (j := 2) (wd := "number") (hb3.same s35) ((Kp.into k3 s2).trans (same_kp s35)) h3 (all_cons (.int _) (all_cons (.int _) (all_cons (ty.same s35) all_nil))) rfl rfl (st_n.trans by_)
      · walk_at "el"
        refine ite2 (fun h3 => ?_) (fun h3 => ?_)
        · walk_at "el"
          refine ⟨b, c, ev, rfl, hb1, by omega, by omega, fun y H2 by_ ty hb2 k2 => ?_⟩
          have hit2 := k2 _ _ (hb1.neT hit1) hit1
          walk_at "el"
          refine a_cut (fun σ' H' => H2 = H' ∧ σ' = [some (.ref b), some (.int 0), some (.ref it), some (.int ev), some (.int wi), some (.int md), none, none, some y]) ?_ ?_
          · walk_at "el"
            rw [show decide (V.int 0 = V.int 2) = false from by decide]
            walk_at "el"
            exact ⟨rfl, rfl⟩
          rintro σ' H' ⟨rfl, rfl⟩
          walk_at "el"
          refine n_slT hit2 fun p1 H4 s4 h1 => ?_
          rw [show cutV [V.int x.1, V.int x.2.1, V.int x.2.2] none (some 1) = [V.int x.1] from rfl] at h1
          walk_at "el"
          refine ⟨by show 1 ≤ sizeLine; decide, fun p2 hp2 => ?_⟩
          have a2 := nw_of hp2 (.tup [y])
          have h2 := upd_at hp2 (.tup [y])
          walk_at "el"
          refine n_catT (a2 _ _ h1) h2 (by show 1 + 1 ≤ sizeLine; decide) fun p3 H5 s5 h3 => ?_
          have s45 := (s4.trans a2).trans s5
          walk_at "el"
          refine n_slT (s45 _ _ hit2) fun p4 H6 s6 h4 => ?_
          rw [show cutV [V.int x.1, V.int x.2.1, V.int x.2.2] (some 2) none = [V.int x.2.2] from rfl] at h4
          walk_at "el"
          refine n_catT (s6 _ _ h3) h4 (by show (1 + 1) + 1 ≤ sizeLine; decide) fun p5 H7 s7 h5 => ?_
          have s47 := (s45.trans s6).trans s7
          exact fin (j := 1) (wd := "event") (hb2.same s47) (k2.trans (same_kp s47)) h5 (all_cons (.int _) (all_cons (ty.same s47) (all_cons (.int _) all_nil))) rfl rfl (st_e.trans by_)
        · walk_at "el"
          refine n_slT hit1 fun p1 H2 s2 h1 => ?_
          rw [show cutV [V.int x.1, V.int x.2.1, V.int x.2.2] none (some 2) = [V.int x.1, V.int x.2.1] from rfl] at h1
          walk_at "el"
          have hb1' := hb1.same s2
          refine ⟨b, c, rfl, hb1', fun y H3 by_ ty hb3 k3 => ?_⟩
          have h1 := k3 _ _ (hb1'.neT h1) h1
          walk_at "el"
          refine ⟨by show 1 ≤ sizeLine; decide, fun p2 hp2 => ?_⟩
          have a2 := nw_of hp2 (.tup [y])
          have h2 := upd_at hp2 (.tup [y])
          walk_at "el"
          refine n_catT (a2 _ _ h1) h2 (by show 2 + 1 ≤ sizeLine; decide) fun p3 H5 s5 h3 => ?_
          have s35 := a2.trans s5
          exact fin (j := 2) (wd := "number") (hb3.same s35) ((Kp.into k3 s2).trans (same_kp s35)) h3 (all_cons (.int _) (all_cons (.int _) (all_cons (ty.same s35) all_nil))) rfl rfl (st_n.trans by_)
    | g x =>
      have hit1 : H1 it = some (.tup [V.int x.1, V.int x.2.1, V.int x.2.2]) := hit1
      show tSeq _ _ _ [some (.ref b), some (.int 1), some (.ref it), some (.int ev), some (.int wi), some (.int md), none, none, none] H1
      walk_at "el"
      rw [show decide (V.int 1 = V.int 3) = false from by decide]
      walk_at "el"
      refine ite2 (fun h1 => ?_) (fun h1 => ?_)
      · walk_at "el"
        rw [show decide (V.int 1 = V.int 0) = false from by decide]
        walk_at "el"
        refine ⟨b, c, ev, rfl, hb1, by omega, by omega, fun y H2 by_ ty hb2 k2 => ?_⟩
        have hit2 := k2 _ _ (hb1.neT hit1) hit1
        walk_at "el"
        refine ⟨by show 1 ≤ sizeLine; decide, fun p1 hp1 => ?_⟩
        have a1 := nw_of hp1 (.tup [y])
        have h1 := upd_at hp1 (.tup [y])
        have hit3 := a1 _ _ hit2
        walk_at "el"
        refine n_slT hit3 fun p2 H4 s4 h2 => ?_
        rw [show cutV [V.int x.1, V.int x.2.1, V.int x.2.2] (some 1) none = [V.int x.2.1, V.int x.2.2] from rfl] at h2
        walk_at "el"
        refine n_catT (s4 _ _ h1) h2 (by show 1 + 2 ≤ sizeLine; decide) fun p3 H5 s5 h3 => ?_
        have s25 := (a1.trans s4).trans s5
        exact fin (j := 0) (wd := "event") (hb2.same s25) (k2.trans (same_kp s25)) h3 (all_cons (ty.same s25) (all_cons (.int _) (all_cons (.int _) all_nil))) rfl rfl (st_e.trans by_)
      walk_at "el"
      refine ite2 (fun h2 => ?_) (fun h2 => ?_)
      · walk_at "el"
        rw [show decide (V.int 1 = V.int 1) = true from by decide]
        walk_at "el"
        refine ⟨by show 3 ≤ sizeLine; decide, fun p1 hp1 => ?_⟩
        have a1 := nw_of hp1 (.tup [V.int x.1, .int x.1, .int x.2.2])
        refine fin (j := 1) (wd := "another event") (hb1.same a1) (same_kp a1) (upd_at hp1 (.tup [V.int x.1, .int x.1, .int x.2.2])) (all_cons (.int _) (all_cons (.int _) (all_cons (.int _) all_nil))) rfl rfl (st_a.trans ?_)
        show (_ && !decide (some (V.int x.1) = some (V.int x.1))) = false
        rw [decide_eq_true rfl, Bool.not_true, Bool.and_false]
      · walk_at "el"
        refine ite2 (fun h3 => ?_) (fun h3 => ?_)
        · walk_at "el"
          refine ⟨b, c, ev, rfl, hb1, by omega, by omega, fun y H2 by_ ty hb2 k2 => ?_⟩
          have hit2 := k2 _ _ (hb1.neT hit1) hit1
          walk_at "el"
          refine a_cut (fun σ' H' => H2 = H' ∧ σ' = [some (.ref b), some (.int 1), some (.ref it), some (.int ev), some (.int wi), some (.int md), none, none, some y]) ?_ ?_
          · walk_at "el"
            rw [show decide (V.int 1 = V.int 2) = false from by decide]
            walk_at "el"
            exact ⟨rfl, rfl⟩
          rintro σ' H' ⟨rfl, rfl⟩
          walk_at "el"
          refine n_slT hit2 fun p1 H4 s4 h1 => ?_
          rw [show cutV [V.int x.1, V.int x.2.1, V.int x.2.2] none (some 1) = [V.int x.1] from rfl] at h1
          walk_at "el"
          refine ⟨by show 1 ≤ sizeLine; decide, fun p2 hp2 => ?_⟩
          have a2 := nw_of hp2 (.tup [y])
          have h2 := upd_at hp2 (.tup [y])
          walk_at "el"
          refine n_catT (a2 _ _ h1) h2 (by show 1 + 1 ≤ sizeLine; decide) fun p3 H5 s5 h3 => ?_
          have s45 := (s4.trans a2).trans s5
          walk_at "el"
          refine n_slT (s45 _ _ hit2) fun p4 H6 s6 h4 => ?_
          rw [show cutV [V.int x.1, V.int x.2.1, V.int x.2.2] (some 2) none = [V.int x.2.2] from rfl] at h4
          walk_at "el"
          refine n_catT (s6 _ _ h3) h4 (by show (1 + 1) + 1 ≤ sizeLine; decide) fun p5 H7 s7 h5 => ?_
          have s47 := (s45.trans s6).trans s7
          exact fin (j := 1) (wd := "another event") (hb2.same s47) (k2.trans (same_kp s47)) h5 (all_cons (.int _) (all_cons (ty.same s47) (all_cons (.int _) all_nil))) rfl rfl (st_a.trans (by rw [by_, Bool.false_and]))
        · walk_at "el"
          refine n_slT hit1 fun p1 H2 s2 h1 => ?_
          rw [show cutV [V.int x.1, V.int x.2.1, V.int x.2.2] none (some 2) = [V.int x.1, V.int x.2.1] from rfl] at h1
          walk_at "el"
          have hb1' := hb1.same s2
          refine ⟨b, c, rfl, hb1', fun y H3 by_ ty hb3 k3 => ?_⟩
          have h1 := k3 _ _ (hb1'.neT h1) h1
          walk_at "el"
          refine ⟨by show 1 ≤ sizeLine; decide, fun p2 hp2 => ?_⟩
          have a2 := nw_of hp2 (.tup [y])
          have h2 := upd_at hp2 (.tup [y])
          walk_at "el"
          refine n_catT (a2 _ _ h1) h2 (by show 2 + 1 ≤ sizeLine; decide) fun p3 H5 s5 h3 => ?_
          have s35 := a2.trans s5
          exact fin (j := 2) (wd := "number") (hb3.same s35) ((Kp.into k3 s2).trans (same_kp s35)) h3 (all_cons (.int _) (all_cons (.int _) (all_cons (ty.same s35) all_nil))) rfl rfl (st_n.trans by_)
    | s x =>
      have hit1 : H1 it = some (.tup [V.int x.1, V.str x.2.1, V.int x.2.2]) := hit1
      show tSeq _ _ _ [some (.ref b), some (.int 2), some (.ref it), some (.int ev), some (.int wi), some (.int md), none, none, none] H1
      walk_at "el"
      rw [show decide (V.int 2 = V.int 3) = false from by decide]
      walk_at "el"
      refine ite2 (fun h1 => ?_) (fun h1 => ?_)
      · walk_at "el"
        rw [show decide (V.int 2 = V.int 0) = false from by decide]
        walk_at "el"
        refine ⟨b, c, ev, rfl, hb1, by omega, by omega, fun y H2 by_ ty hb2 k2 => ?_⟩
        have hit2 := k2 _ _ (hb1.neT hit1) hit1
        walk_at "el"
        refine ⟨by show 1 ≤ sizeLine; decide, fun p1 hp1 => ?_⟩
        have a1 := nw_of hp1 (.tup [y])
        have h1 := upd_at hp1 (.tup [y])
        have hit3 := a1 _ _ hit2
        walk_at "el"
        refine n_slT hit3 fun p2 H4 s4 h2 => ?_
        rw [show cutV [V.int x.1, V.str x.2.1, V.int x.2.2] (some 1) none = [V.str x.2.1, V.int x.2.2] from rfl] at h2
        walk_at "el"
        refine n_catT (s4 _ _ h1) h2 (by show 1 + 2 ≤ sizeLine; decide) fun p3 H5 s5 h3 => ?_
        have s25 := (a1.trans s4).trans s5
        exact fin (j := 0) (wd := "event") (hb2.same s25) (k2.trans (same_kp s25)) h3 (all_cons (ty.same s25) (all_cons (.str _) (all_cons (.int _) all_nil))) rfl rfl (st_e.trans by_)
      walk_at "el"
      refine ite2 (fun h2 => ?_) (fun h2 => ?_)
      · walk_at "el"
        rw [show decide (V.int 2 = V.int 1) = false from by decide]
        walk_at "el"
        refine ite2 (fun h3 => ?_) (fun h3 => ?_)
        · walk_at "el"
          refine ⟨b, c, ev, rfl, hb1, by omega, by omega, fun y H2 by_ ty hb2 k2 => ?_⟩
          have hit2 := k2 _ _ (hb1.neT hit1) hit1
          walk_at "el"
          refine a_cut (fun σ' H' => ∃ y, σ' = [some (.ref b), some (.int 2), some (.ref it), some (.int ev), some (.int wi), some (.int md), none, none, some y] ∧ sideB y = false ∧ Th K H' y ∧ Bag H' b c ∧ Kp b H1 H') ?_ ?_
          · walk_at "el"
            refine ⟨by show 1 ≤ sizeLine; decide, fun p1 hp1 => ?_⟩
            have a1 := nw_of hp1
            walk_at "el"
            refine ⟨by show 1 ≤ sizeLine; decide, fun p2 hp2 => ?_⟩
            have a2 := nw_of hp2
            walk_at "el"
            intro p3 hp3
            have a3 := nw_of hp3
            have w1 := a3 (.dK []) _ _ (a2 (.lst [.str "least"]) _ _ (upd_at hp1 (.tup [.str "most"])))
            have w2 := a3 (.dK []) _ _ (upd_at hp2 (.lst [.str "least"]))
            have w3 := upd_at hp3 (.dK [])
            have s4 : Same H2 _ := ((a1 (.tup [.str "most"])).trans (a2 (.lst [.str "least"]))).trans (a3 (.dK []))
            generalize upd (upd (upd H2 p1 (.tup [.str "most"])) p2 (.lst [.str "least"])) p3 (.dK []) = H8 at w1 w2 w3 s4 ⊢
            walk_at "el"
            refine ⟨by show 8 ≤ sizeLine; decide, fun p9 hm => ?_⟩
            have e5 := nw_of hm
            have hb8 := hb2.same s4
            walk_at "el"
            refine ⟨b, c, p9, _, rfl, hb8.same (e5 _), hb8.ne hm, .inl upd_same, by show 0 < 8; decide, by show 8 ≤ 1000000000; decide, fun y H9 hy hb9 k9 => ?_⟩
            have ty : Th K H9 y := by
              refine Th.kpK k9 hb9 (hb8.same (e5 _)) ?_
              clear hb9 k9
              revert y
              exact all_cons (.str _) (all_cons (.str _) (all_cons .non (all_cons (.int _) (all_cons (.tup (e5 _ _ _ w1)) (all_cons (.str _) (all_cons (.lst (e5 _ _ _ w2)) (all_cons (.dct (e5 _ _ _ w3)) all_nil)))))))
            have by_ : sideB y = false := by
              clear hb9 k9 ty
              revert y
              exact all_cons (by decide +kernel) (all_cons (by decide +kernel) (all_cons rfl (all_cons rfl (all_cons rfl (all_cons (by decide +kernel) (all_cons rfl (all_cons rfl all_nil)))))))
            walk_at "el"
            exact ⟨y, rfl, by_, ty, hb9, k2.trans (Kp.into k9 (s4.trans (e5 _)))⟩
          clear by_ ty hb2 k2 hit2
          rintro σ' H2 ⟨y, rfl, by_, ty, hb2, k2⟩
          have hit2 := k2 _ _ (hb1.neT hit1) hit1
          walk_at "el"
          refine n_slT hit2 fun p1 H4 s4 h1 => ?_
          rw [show cutV [V.int x.1, V.str x.2.1, V.int x.2.2] none (some 1) = [V.int x.1] from rfl] at h1
          walk_at "el"
          refine ⟨by show 1 ≤ sizeLine; decide, fun p2 hp2 => ?_⟩
          have a2 := nw_of hp2 (.tup [y])
          have h2 := upd_at hp2 (.tup [y])
          walk_at "el"
          refine n_catT (a2 _ _ h1) h2 (by show 1 + 1 ≤ sizeLine; decide) fun p3 H5 s5 h3 => ?_
          have s45 := (s4.trans a2).trans s5
          walk_at "el"
          refine n_slT (s45 _ _ hit2) fun p4 H6 s6 h4 => ?_
          rw [show cutV [V.int x.1, V.str x.2.1, V.int x.2.2] (some 2) none = [V.int x.2.2] from rfl] at h4
          walk_at "el"
          refine n_catT (s6 _ _ h3) h4 (by show (1 + 1) + 1 ≤ sizeLine; decide) fun p5 H7 s7 h5 => ?_
          have s47 := (s45.trans s6).trans s7
          exact fin (j := 1) (wd := "side") (hb2.same s47) (k2.trans (same_kp s47)) h5 (all_cons (.int _) (all_cons (ty.same s47) (all_cons (.int _) all_nil))) rfl rfl (st_s.trans by_)
        · walk_at "el"
          refine n_slT hit1 fun p1 H2 s2 h1 => ?_
          rw [show cutV [V.int x.1, V.str x.2.1, V.int x.2.2] none (some 2) = [V.int x.1, V.str x.2.1] from rfl] at h1
          walk_at "el"
          have hb1' := hb1.same s2
          refine ⟨b, c, rfl, hb1', fun y H3 by_ ty hb3 k3 => ?_⟩
          have h1 := k3 _ _ (hb1'.neT h1) h1
          walk_at "el"
          refine ⟨by show 1 ≤ sizeLine; decide, fun p2 hp2 => ?_⟩
          have a2 := nw_of hp2 (.tup [y])
          have h2 := upd_at hp2 (.tup [y])
          walk_at "el"
          refine n_catT (a2 _ _ h1) h2 (by show 2 + 1 ≤ sizeLine; decide) fun p3 H5 s5 h3 => ?_
          have s35 := a2.trans s5
          exact fin (j := 2) (wd := "number") (hb3.same s35) ((Kp.into k3 s2).trans (same_kp s35)) h3 (all_cons (.int _) (all_cons (.str _) (all_cons (ty.same s35) all_nil))) rfl rfl (st_n.trans by_)
      · walk_at "el"
        refine ite2 (fun h3 => ?_) (fun h3 => ?_)
        · walk_at "el"
          refine ⟨b, c, ev, rfl, hb1, by omega, by omega, fun y H2 by_ ty hb2 k2 => ?_⟩
          have hit2 := k2 _ _ (hb1.neT hit1) hit1
          walk_at "el"
          refine a_cut (fun σ' H' => ∃ y, σ' = [some (.ref b), some (.int 2), some (.ref it), some (.int ev), some (.int wi), some (.int md), none, none, some y] ∧ sideB y = false ∧ Th K H' y ∧ Bag H' b c ∧ Kp b H1 H') ?_ ?_
          · walk_at "el"
            refine ⟨by show 1 ≤ sizeLine; decide, fun p1 hp1 => ?_⟩
            have a1 := nw_of hp1
            walk_at "el"
            refine ⟨by show 1 ≤ sizeLine; decide, fun p2 hp2 => ?_⟩
            have a2 := nw_of hp2
            walk_at "el"
            intro p3 hp3
            have a3 := nw_of hp3
            have w1 := a3 (.dK []) _ _ (a2 (.lst [.str "least"]) _ _ (upd_at hp1 (.tup [.str "most"])))
            have w2 := a3 (.dK []) _ _ (upd_at hp2 (.lst [.str "least"]))
            have w3 := upd_at hp3 (.dK [])
            have s4 : Same H2 _ := ((a1 (.tup [.str "most"])).trans (a2 (.lst [.str "least"]))).trans (a3 (.dK []))
            generalize upd (upd (upd H2 p1 (.tup [.str "most"])) p2 (.lst [.str "least"])) p3 (.dK []) = H8 at w1 w2 w3 s4 ⊢
            walk_at "el"
            refine ⟨by show 8 ≤ sizeLine; decide, fun p9 hm => ?_⟩
            have e5 := nw_of hm
            have hb8 := hb2.same s4
            walk_at "el"
            refine ⟨b, c, p9, _, rfl, hb8.same (e5 _), hb8.ne hm, .inl upd_same, by show 0 < 8; decide, by show 8 ≤ 1000000000; decide, fun y H9 hy hb9 k9 => ?_⟩
            have ty : Th K H9 y := by
              refine Th.kpK k9 hb9 (hb8.same (e5 _)) ?_
              clear hb9 k9
              revert y
              exact all_cons (.str _) (all_cons (.str _) (all_cons .non (all_cons (.int _) (all_cons (.tup (e5 _ _ _ w1)) (all_cons (.str _) (all_cons (.lst (e5 _ _ _ w2)) (all_cons (.dct (e5 _ _ _ w3)) all_nil)))))))
            have by_ : sideB y = false := by
              clear hb9 k9 ty
              revert y
              exact all_cons (by decide +kernel) (all_cons (by decide +kernel) (all_cons rfl (all_cons rfl (all_cons rfl (all_cons (by decide +kernel) (all_cons rfl (all_cons rfl all_nil)))))))
            walk_at "el"
            exact ⟨y, rfl, by_, ty, hb9, k2.trans (Kp.into k9 (s4.trans (e5 _)))⟩
          clear by_ ty hb2 k2 hit2
          rintro σ' H2 ⟨y, rfl, by_, ty, hb2, k2⟩
          have hit2 := k2 _ _ (hb1.neT hit1) hit1
          walk_at "el"
          refine n_slT hit2 fun p1 H4 s4 h1 => ?_
          rw [show cutV [V.int x.1, V.str x.2.1, V.int x.2.2] none (some 1) = [V.int x.1] from rfl] at h1
          walk_at "el"
          refine ⟨by show 1 ≤ sizeLine; decide, fun p2 hp2 => ?_⟩
          have a2 := nw_of hp2 (.tup [y])
          have h2 := upd_at hp2 (.tup [y])
          walk_at "el"
          refine n_catT (a2 _ _ h1) h2 (by show 1 + 1 ≤ sizeLine; decide) fun p3 H5 s5 h3 => ?_
          have s45 := (s4.trans a2).trans s5
          walk_at "el"
          refine n_slT (s45 _ _ hit2) fun p4 H6 s6 h4 => ?_
          rw [show cutV [V.int x.1, V.str x.2.1, V.int x.2.2] (some 2) none = [V.int x.2.2] from rfl] at h4
          walk_at "el"
          refine n_catT (s6 _ _ h3) h4 (by show (1 + 1) + 1 ≤ sizeLine; decide) fun p5 H7 s7 h5 => ?_
          have s47 := (s45.trans s6).trans s7
          exact fin (j := 1) (wd := "side") (hb2.same s47) (k2.trans (same_kp s47)) h5 (all_cons (.int _) (all_cons (ty.same s47) (all_cons (.int _) all_nil))) rfl rfl (st_s.trans by_)
        · walk_at "el"
          refine n_slT hit1 fun p1 H2 s2 h1 => ?_
          rw [show cutV [V.int x.1, V.str x.2.1, V.int x.2.2] none (some 2) = [V.int x.1, V.str x.2.1] from rfl] at h1
          walk_at "el"
          have hb1' := hb1.same s2
          refine ⟨b, c, rfl, hb1', fun y H3 by_ ty hb3 k3 => ?_⟩
          have h1 := k3 _ _ (hb1'.neT h1) h1
          walk_at "el"
          refine ⟨by show 1 ≤ sizeLine; decide, fun p2 hp2 => ?_⟩
          have a2 := nw_of hp2 (.tup [y])
          have h2 := upd_at hp2 (.tup [y])
          walk_at "el"
          refine n_catT (a2 _ _ h1) h2 (by show 2 + 1 ≤ sizeLine; decide) fun p3 H5 s5 h3 => ?_
          have s35 := a2.trans s5
          exact fin (j := 2) (wd := "number") (hb3.same s35) ((Kp.into k3 s2).trans (same_kp s35)) h3 (all_cons (.int _) (all_cons (.str _) (all_cons (ty.same s35) all_nil))) rfl rfl (st_n.trans by_)
    | l x =>
      have hit1 : H1 it = some (.tup [V.int x.1, V.str x.2.1, V.int x.2.2.1, V.str x.2.2.2]) := hit1
      show tSeq _ _ _ [some (.ref b), some (.int 3), some (.ref it), some (.int ev), some (.int wi), some (.int md), none, none, none] H1
      walk_at "el"
      rw [show decide (V.int 3 = V.int 3) = true from by decide]
      walk_at "el"
      refine ite2 (fun h1 => ?_) (fun h1 => ?_)
      · walk_at "el"
        refine ⟨b, c, wi, rfl, hb1, by omega, by omega, fun y H2 by_ ty hb2 k2 => ?_⟩
        have hit2 := k2 _ _ (hb1.neT hit1) hit1
        walk_at "el"
        refine ite2 (fun h2 => ?_) (fun h2 => ?_)
        · walk_at "el"
          refine ⟨by show 1 ≤ sizeLine; decide, fun p1 hp1 => ?_⟩
          have a1 := nw_of hp1 (.tup [y])
          have h1 := upd_at hp1 (.tup [y])
          have hit3 := a1 _ _ hit2
          walk_at "el"
          refine n_slT hit3 fun p2 H4 s4 h2 => ?_
          rw [show cutV [V.int x.1, V.str x.2.1, V.int x.2.2.1, V.str x.2.2.2] (some 1) none = [V.str x.2.1, V.int x.2.2.1, V.str x.2.2.2] from rfl] at h2
          walk_at "el"
          refine n_catT (s4 _ _ h1) h2 (by show 1 + 3 ≤ sizeLine; decide) fun p3 H5 s5 h3 => ?_
          have s25 := (a1.trans s4).trans s5
          exact fin (j := 0) (wd := "witness") (hb2.same s25) (k2.trans (same_kp s25)) h3 (all_cons (ty.same s25) (all_cons (.str _) (all_cons (.int _) (all_cons (.str _) all_nil)))) rfl rfl (st_w.trans by_)
        · walk_at "el"
          refine n_slT hit2 fun p1 H4 s4 h1 => ?_
          rw [show cutV [V.int x.1, V.str x.2.1, V.int x.2.2.1, V.str x.2.2.2] none (some 2) = [V.int x.1, V.str x.2.1] from rfl] at h1
          walk_at "el"
          refine ⟨by show 1 ≤ sizeLine; decide, fun p2 hp2 => ?_⟩
          have a2 := nw_of hp2 (.tup [y])
          have h2 := upd_at hp2 (.tup [y])
          walk_at "el"
          refine n_catT (a2 _ _ h1) h2 (by show 2 + 1 ≤ sizeLine; decide) fun p3 H5 s5 h3 => ?_
          have s45 := (s4.trans a2).trans s5
          walk_at "el"
          refine n_slT (s45 _ _ hit2) fun p4 H6 s6 h4 => ?_
          rw [show cutV [V.int x.1, V.str x.2.1, V.int x.2.2.1, V.str x.2.2.2] (some 3) none = [V.str x.2.2.2] from rfl] at h4
          walk_at "el"
          refine n_catT (s6 _ _ h3) h4 (by show (2 + 1) + 1 ≤ sizeLine; decide) fun p5 H7 s7 h5 => ?_
          have s47 := (s45.trans s6).trans s7
          exact fin (j := 2) (wd := "witness") (hb2.same s47) (k2.trans (same_kp s47)) h5 (all_cons (.int _) (all_cons (.str _) (all_cons (ty.same s47) (all_cons (.str _) all_nil)))) rfl rfl (st_w.trans by_)
      · walk_at "el"
        refine ⟨by show 1 ≤ sizeLine; decide, fun p1 hp1 => ?_⟩
        have a1 := nw_of hp1
        walk_at "el"
        refine ⟨by show 1 ≤ sizeLine; decide, fun p2 hp2 => ?_⟩
        have a2 := nw_of hp2
        have w1 := a2 (.lst [.str "early"]) _ _ (upd_at hp1 (.tup [.str "late"]))
        have w2 := upd_at hp2 (.lst [.str "early"])
        have s4 : Same H1 _ := (a1 (.tup [.str "late"])).trans (a2 (.lst [.str "early"]))
        generalize upd (upd H1 p1 (.tup [.str "late"])) p2 (.lst [.str "early"]) = H8 at w1 w2 s4 ⊢
        walk_at "el"
        refine ⟨by show 8 ≤ sizeLine; decide, fun p9 hm => ?_⟩
        have e5 := nw_of hm
        have hb8 := hb1.same s4
        walk_at "el"
        refine ⟨b, c, p9, _, rfl, hb8.same (e5 _), hb8.ne hm, .inl upd_same, by show 0 < 8; decide, by show 8 ≤ 1000000000; decide, fun y H2 hy hb2 k9 => ?_⟩
        have ty : Th K H2 y := by
          refine Th.kpK k9 hb2 (hb8.same (e5 _)) ?_
          clear hb2 k9
          revert y
          exact all_cons (.str _) (all_cons (.str _) (all_cons .non (all_cons (.int _) (all_cons (.tup (e5 _ _ _ w1)) (all_cons (.str _) (all_cons (.lst (e5 _ _ _ w2)) (all_cons (.str _) all_nil)))))))
        have by_ : kindB y = false := by
          clear hb2 k9 ty
          revert y
          exact all_cons (by decide +kernel) (all_cons (by decide +kernel) (all_cons rfl (all_cons rfl (all_cons rfl (all_cons (by decide +kernel) (all_cons rfl (all_cons (by decide +kernel) all_nil)))))))
        have k2 : Kp b H1 H2 := Kp.into k9 (s4.trans (e5 _))
        have hit2 := k2 _ _ (hb1.neT hit1) hit1
        clear hy k9 w1 w2 s4 e5 hm hb8 a1 a2 hp1 hp2
        walk_at "el"
        refine ite2 (fun h2 => ?_) (fun h2 => ?_)
        · walk_at "el"
          refine n_slT hit2 fun p1 H4 s4 h1 => ?_
          rw [show cutV [V.int x.1, V.str x.2.1, V.int x.2.2.1, V.str x.2.2.2] none (some 1) = [V.int x.1] from rfl] at h1
          walk_at "el"
          refine ⟨by show 1 ≤ sizeLine; decide, fun p2 hp2 => ?_⟩
          have a2 := nw_of hp2 (.tup [y])
          have h2 := upd_at hp2 (.tup [y])
          walk_at "el"
          refine n_catT (a2 _ _ h1) h2 (by show 1 + 1 ≤ sizeLine; decide) fun p3 H5 s5 h3 => ?_
          have s45 := (s4.trans a2).trans s5
          walk_at "el"
          refine n_slT (s45 _ _ hit2) fun p4 H6 s6 h4 => ?_
          rw [show cutV [V.int x.1, V.str x.2.1, V.int x.2.2.1, V.str x.2.2.2] (some 2) none = [V.int x.2.2.1, V.str x.2.2.2] from rfl] at h4
          walk_at "el"
          refine n_catT (s6 _ _ h3) h4 (by show (1 + 1) + 2 ≤ sizeLine; decide) fun p5 H7 s7 h5 => ?_
          have s47 := (s45.trans s6).trans s7
          exact fin (j := 1) (wd := "kind") (hb2.same s47) (k2.trans (same_kp s47)) h5 (all_cons (.int _) (all_cons (ty.same s47) (all_cons (.int _) (all_cons (.str _) all_nil)))) rfl rfl (st_k.trans by_)
        · walk_at "el"
          refine n_slT hit2 fun p1 H4 s4 h1 => ?_
          rw [show cutV [V.int x.1, V.str x.2.1, V.int x.2.2.1, V.str x.2.2.2] none (some 3) = [V.int x.1, V.str x.2.1, V.int x.2.2.1] from rfl] at h1
          walk_at "el"
          refine ⟨by show 1 ≤ sizeLine; decide, fun p2 hp2 => ?_⟩
          have a2 := nw_of hp2 (.tup [y])
          have h2 := upd_at hp2 (.tup [y])
          walk_at "el"
          refine n_catT (a2 _ _ h1) h2 (by show 3 + 1 ≤ sizeLine; decide) fun p3 H5 s5 h3 => ?_
          have s45 := (s4.trans a2).trans s5
          exact fin (j := 3) (wd := "kind") (hb2.same s45) (k2.trans (same_kp s45)) h3 (all_cons (.int _) (all_cons (.str _) (all_cons (.int _) (all_cons (ty.same s45) all_nil)))) rfl rfl (st_k.trans by_)
end
end EL

/- part Z14E -/
namespace EL
open PySem PySem.Spec PyProof.Rows L2
open PySem.W (Frag)
abbrev s_deep_right : Stmt := top 43
abbrev N_deep_right : List Str := ["_law_deep", "_law_place", "_law_things"]
theorem sc_deep_right : FnScope N_deep_right [] (defScope s_deep_right) := ⟨rfl, rfl, rfl, by decide +kernel, rfl, by decide +kernel, by decide +kernel⟩
local macro_rules | `(tactic| walk_at "el1") => `(tactic| with_reducible first
  | refine a_sasg ?_ | refine a_sdrop ?_ | refine a_saugS ?_ | refine a_spar ?_ | refine a_seq ?_ | refine a_asg ?_ | refine a_drop ?_ | refine a_ret ?_ | refine a_if ?_ | refine a_next ?_
  | refine a_op ?_ | refine a_cons ?_ | refine a_nil ?_ | refine a_cb ?_ | refine a_call ?_ | refine a_c ?_ | refine a_gn ?_ | refine a_nx ?_ | refine a_rt ?_ | refine a_un ?_
  | refine a_test ?_ | refine a_B ?_ | refine a_bl ?_ | refine a_and ?_ | refine a_or ?_ | refine a_not ?_ | refine a_andV ?_ | refine a_orV ?_ | refine a_notV ?_ | refine a_ifx ?_ | refine a_chain ?_
  | refine a_nT ?_ | refine a_nF ?_ | refine a_fld ?_ | refine a_getF ?_ | refine a_T ?_ | refine a_F ?_ | refine a_tup ?_ | refine a_lst ?_ | refine a_sub ?_ | refine a_augS ?_ | refine a_two ?_ | refine a_I0 ?_ | refine a_U ?_ | refine n_add ?_ | refine n_int ?_ | refine n_ib ?_ | refine a_ip ?_ | refine a_rng1 ?_ | refine a_rng2 ?_ | refine a_bm ?_ | refine a_abs ?_ | refine a_pairs ?_ | refine a_pairs0 ?_ | refine a_bk ?_ | refine a_prp ?_ | refine a_lc ?_ | refine a_yes ?_ | refine a_sl ?_ | refine a_nop ?_ | refine a_prt ?_ | refine a_ex1 ?_ | refine a_for ?_ | refine a_sfor ?_ | refine a_iE1 ?_ | refine a_iEs ?_ | refine a_iEz ?_ | refine a_iEnum ?_ | refine a_iTup ?_ | refine a_iList ?_ | refine a_gcons ?_ | refine a_gnil ?_ | refine a_revT ?_ | refine a_spar3 ?_ | refine a_par3 ?_ | refine a_three ?_)
local macro_rules | `(tactic| walk_at "el2") => `(tactic| first
  | (refine a_var (by rfl) ?_)
  | (refine n_ixL (SqL.of (by assumption)) (by rfl) ?_) | (refine n_ixT (SqT.of (by assumption)) (by rfl) ?_) | (refine n_eq (by rfl) ?_) | (refine n_ne (by rfl) ?_)
  | (refine n_isN ?_) | (refine n_notN ?_) | (refine n_isB ?_) | (refine n_notB ?_) | (refine n_isBI ?_) | (refine n_notBI ?_) | (refine n_len (.inl (SqL.of (by assumption))) ?_) | (refine n_len (.inr (SqT.of (by assumption))) ?_)
  | (refine a_getL (SqL.of (by assumption)) (by rfl) ?_)
  | (refine n_isInt (by assumption) ?_) | (refine n_isBool (by assumption) ?_) | (refine n_isStr (by assumption) ?_) | (refine n_isTup (by assumption) ?_) | (refine n_isLst (by assumption) ?_))
local macro_rules | `(tactic| walk_at "el") => `(tactic| repeat (first | walk_at "el1" | walk_at "el2"))

/-! ### outcomes as data; lists eight deep -/
def Out.dat : Out → PyData
  | .wrong i => .tuple [.str "wrong", .int (i : Nat)]
  | .many => .tuple [.str "many", .int 24]
  | .bad j i => .tuple [.str "bad", .int (j : Nat), .int (i : Nat)]
  | .made => .tuple [.str "made", .bool true]
theorem out_dp {K : Frag} {H : Hp} {r : Addr} {o : Out} (h : H r = some (.tup o.enc)) : Dp K H (.ref r) o.dat := by
  cases o with
  | wrong i => exact .tup (SqT.of h) (.cons (.str _) (.cons (.int _) .nil))
  | many => exact .tup (SqT.of h) (.cons (.str _) (.cons (.int _) .nil))
  | bad j i => exact .tup (SqT.of h) (.cons (.str _) (.cons (.int _) (.cons (.int _) .nil)))
  | made => exact .tup (SqT.of h) (.cons (.str _) (.cons (.bl _) .nil))
theorem out_shp (o : Out) : SeqAt.shaped o.dat = true := by
  have a : PyData.strOk "wrong" = true := by decide +kernel
  have b : PyData.strOk "many" = true := by decide +kernel
  have c : PyData.strOk "bad" = true := by decide +kernel
  have d : PyData.strOk "made" = true := by decide +kernel
  cases o with
  | wrong i => simp [Out.dat, SeqAt.shaped, PyData.canLay0, PyData.canLayAll0, PyData.depth, PyData.depthAll]; exact a
  | many => simp [Out.dat, SeqAt.shaped, PyData.canLay0, PyData.canLayAll0, PyData.depth, PyData.depthAll]; exact b
  | bad j i => simp [Out.dat, SeqAt.shaped, PyData.canLay0, PyData.canLayAll0, PyData.depth, PyData.depthAll]; exact c
  | made => simp [Out.dat, SeqAt.shaped, PyData.canLay0, PyData.canLayAll0, PyData.depth, PyData.depthAll]; exact d
theorem out_eqv (o : Out) : PyData.eqv o.dat o.dat = true := PySem.SeqAt.eqv_refl _ (Bool.and_eq_true_iff.mp (out_shp o)).1
theorem thd_lst {K : Frag} {H : Hp} {q : Addr} {ys : List V} (h : H q = some (.lst ys)) : ThD K H (.ref q) := thd_obj (.lst h) h fun _ z => nomatch z
/-- four lists, and what stands in them -/
theorem six_of {K : Frag} {H : Hp} {ev wi : V} {l : Pt → Addr} {xs : Pt → List V} (e : Th K H ev) (w : Th K H wi) (hl : ∀ u, H (l u) = some (.lst (xs u))) (hx : ∀ u, ∀ x ∈ xs u, ThD K H x) : Six K H ev wi (fun u => .ref (l u)) xs :=
  ⟨e, w, fun u => .lst (hl u), fun u _ => ⟨l u, rfl, .inl (hl u), hx u⟩⟩
theorem seq_lst {H : Hp} {a : Addr} {xs : List V} (h : H a = some (.lst xs)) : isSeq H (.ref a) = true := by
  show (obL (H a) || obT (H a)) = true
  rw [h]; rfl
theorem pAt_in (u : Pt) : ∃ j : Nat, j < 4 ∧ pAt[j]? = some u := by
  cases u
  · exact ⟨0, by decide, rfl⟩
  · exact ⟨1, by decide, rfl⟩
  · exact ⟨2, by decide, rfl⟩
  · exact ⟨3, by decide, rfl⟩
def setA4 (l : Pt → Addr) (u : Pt) (a : Addr) : Pt → Addr := fun v => if v = u then a else l v
theorem deep_six {K : Frag} {H : Hp} {l : Pt → Addr} {D D1 : Addr} {ys : List V} (hl : ∀ u, H (l u) = some (.lst [])) (hD : H D = some (.lst [.ref D1])) (hD1 : H D1 = some (.lst ys)) (i : Nat) (hi : i < 6) :
    ∃ ev wi ps xs fb, [V.int 1, .int 1, .ref (l .tel), .ref (l .gap), .ref (l .sur), .ref (l .cla)].set i (.ref D) = [ev, wi, ps .tel, ps .gap, ps .sur, ps .cla] ∧ Six K H ev wi ps xs ∧ (belowB ev 9 = true → belowB wi 9 = true → ∀ u, isSeq H (ps u) = true → Fb H u (xs u) (vI ev) (vI wi) (fb u)) ∧
      outF H ev wi ps xs fb = if i < 2 then .wrong i else .bad i 0 := by
  have b1 : belowB (.int 1) 9 = true := by decide
  have nil : ∀ u, ∀ x ∈ ((fun _ => []) : Pt → List V) u, ThD K H x := fun _ _ h => nomatch h
  rcases i with _ | _ | j
  · refine ⟨.ref D, .int 1, fun u => .ref (l u), fun _ => [], fun _ => none, rfl, six_of (.lst hD) (.int _) hl nil, fun h => (nomatch h), ?_⟩
    unfold outF; rfl
  · refine ⟨.int 1, .ref D, fun u => .ref (l u), fun _ => [], fun _ => none, rfl, six_of (.int _) (.lst hD) hl nil, fun _ h => (nomatch h), ?_⟩
    unfold outF; rw [if_pos b1]; rfl
  · obtain ⟨u, hu⟩ := pAt_some (i := j) (by omega)
    refine ⟨.int 1, .int 1, fun v => .ref (setA4 l u D v), fun v => if v = u then [.ref D1] else [], fun v => if v = u then some 0 else none, ?_, six_of (.int _) (.int _) (fun v => ?_) (fun v x hx => ?_), fun _ _ v _ => ?_, ?_⟩
    · rcases j with _ | _ | _ | _ | j <;> cases hu <;> rfl
    · unfold setA4
      by_cases e : v = u
      · rw [if_pos e, if_pos e]; exact hD
      · rw [if_neg e, if_neg e]; exact hl v
    · split at hx
      · cases List.mem_singleton.mp hx; exact thd_lst hD1
      · cases hx
    · show Fb H v (if v = u then [.ref D1] else []) 1 1 (if v = u then some 0 else none)
      by_cases e : v = u
      · rw [if_pos e, if_pos e]
        exact ⟨⟨_, rfl, not_lst hD1⟩, fun k y hk => absurd hk (Nat.not_lt_zero k)⟩
      · rw [if_neg e, if_neg e]
        exact fun x h => nomatch h
    · have sq : ∀ v, isSeq H (V.ref (setA4 l u D v)) = true := fun v => by
        unfold setA4
        by_cases e : v = u
        · rw [if_pos e]; exact seq_lst hD
        · rw [if_neg e]; exact seq_lst (hl v)
      unfold outF
      rw [if_pos b1, if_pos b1, outS_all sq, outP_at hu (fun k v hk hv => ?_)]
      · rw [if_neg (by show ¬ 24 < (if u = u then [V.ref D1] else [] : List V).length; rw [if_pos rfl]; show ¬ 24 < 1; decide)]
        show (match (if u = u then some 0 else none : Option Nat) with | some k => Out.bad (2 + j) k | none => _) = _
        rw [if_pos rfl, if_neg (by omega), Nat.add_comm]
      · have ne : v ≠ u := fun z => by
          subst z
          rcases j with _ | _ | _ | _ | j <;> cases hu <;> (rcases k with _ | _ | _ | k <;> first | omega | cases hv)
        dsimp only
        rw [if_neg ne, if_neg ne]
        exact ⟨by decide, rfl⟩
def spDeep : Sp := fun vs H Q _ => vs = [] ∧ ∀ H', Same H H' → Q (.bl true) H'
section
variable {P : Program} {w : World} {K : Frag} {mg : Str → Option Value} {base : Heap} {f : Addr} {fd : FuncData} {C : Addr} {D0 : BookD}
theorem ok_deep (F : Fun K "_law_deep_right" "_law_deep_right" s_deep_right f fd) (T : Tb mg) (c_heard : Cal P w K mg base CX0 9 "_law_heard" ["_law_things"] (spHeardY K)) : FnOk P w K mg base CX0 10 f fd [] spDeep := by
  refine F.ok sc_deep_right (fun vs H Q E h => ?_) (fun cdv A outer s H vs Q E hr h => ?_)
  · obtain ⟨rfl, _⟩ := h
    rfl
  · obtain ⟨rfl, k⟩ := h
    refine ⟨_, (pss_cons (ps_set (i := 0) sc_deep_right.nd rfl (Or.inl rfl) (pe_lst (pa_cons (pe_lst (pa_cons (pe_lst (pa_cons (pe_lst (pa_cons (pe_lst (pa_cons (pe_lst (pa_cons (pe_lst (pa_cons (pe_lst pa_nil) pa_nil)) pa_nil)) pa_nil)) pa_nil)) pa_nil)) pa_nil)) pa_nil)))
  (pss_cons (ps_for PassesOwn.never rfl (pi_range1 rfl T.b.range_ (pa_cons pe_int pa_nil)) (pg_name (i := 1) sc_deep_right.nd rfl (Or.inl rfl))
    (pss_cons (ps_set (i := 2) sc_deep_right.nd rfl (Or.inl rfl) (pe_lst (pa_cons pe_int (pa_cons pe_int (pa_cons (pe_lst pa_nil) (pa_cons (pe_lst pa_nil) (pa_cons (pe_lst pa_nil) (pa_cons (pe_lst pa_nil) pa_nil))))))))
  (pss_cons (ps_asg (pv 0) (pg_sub (pv 2) (pv 1) set_list))
  (pss_one (ps_if (pt_cmpR (u_ne hr.units) (pe_cal c_heard (hr.mono (by decide)) pass0 (pa_cons (pv 2) pa_nil)) (pe_ifExp (pt_cmpR op_lt (pv 1) pe_int (nomark _)) (pe_tup (pa_cons pe_str (pa_cons (pv 1) pa_nil))) (pe_tup (pa_cons pe_str (pa_cons (pv 1) (pa_cons pe_int pa_nil))))) (nomark _))
    (pss_one (ps_ret pe_bl))
    pss_nil)))))
  (pss_one (ps_ret (pe_cmpR (u_eq hr.units) (pe_cal c_heard (hr.mono (by decide)) pass0 (pa_cons (pe_lst (pa_cons pe_int (pa_cons pe_int (pa_cons (pe_op u_mul (pe_lst (pa_cons (pe_tup (pa_cons pe_int (pa_cons pe_int (pa_cons pe_int pa_nil)))) pa_nil)) pe_int) (pa_cons (pe_lst pa_nil) (pa_cons (pe_lst pa_nil) (pa_cons (pe_lst pa_nil) pa_nil))))))) pa_nil)) (pe_tup (pa_cons pe_str (pa_cons pe_int pa_nil))) (nomark _)))))), ?_⟩
    walk_at "el"
    refine ⟨by show 0 ≤ sizeLine; decide, fun d1 h1 => ?_⟩
    have e1 := nw_of h1 (.lst [])
    walk_at "el"
    refine ⟨by show 1 ≤ sizeLine; decide, fun d2 h2 => ?_⟩
    have e2 := nw_of h2 (.lst [.ref d1])
    walk_at "el"
    refine ⟨by show 1 ≤ sizeLine; decide, fun d3 h3 => ?_⟩
    have e3 := nw_of h3 (.lst [.ref d2])
    walk_at "el"
    refine ⟨by show 1 ≤ sizeLine; decide, fun d4 h4 => ?_⟩
    have e4 := nw_of h4 (.lst [.ref d3])
    walk_at "el"
    refine ⟨by show 1 ≤ sizeLine; decide, fun d5 h5 => ?_⟩
    have e5 := nw_of h5 (.lst [.ref d4])
    walk_at "el"
    refine ⟨by show 1 ≤ sizeLine; decide, fun d6 h6 => ?_⟩
    have e6 := nw_of h6 (.lst [.ref d5])
    walk_at "el"
    refine ⟨by show 1 ≤ sizeLine; decide, fun d7 h7 => ?_⟩
    have e7 := nw_of h7 (.lst [.ref d6])
    have g7 := upd_at h7 (.lst [.ref d6])
    have s7 : Same H _ := (((((e1.trans e2).trans e3).trans e4).trans e5).trans e6).trans e7
    generalize upd (upd (upd (upd (upd (upd (upd H d1 (.lst [])) d2 (.lst [.ref d1])) d3 (.lst [.ref d2])) d4 (.lst [.ref d3])) d5 (.lst [.ref d4])) d6 (.lst [.ref d5])) d7 (.lst [.ref d6]) = H7 at g7 s7 ⊢
    clear e1 e2 e3 e4 e5 e6 e7
    walk_at "el"
    refine ⟨by show 1 ≤ sizeLine; decide, fun d8 h8 => ?_⟩
    have e8 := nw_of h8 (.lst [.ref d7])
    have g8 := upd_at h8 (.lst [.ref d7])
    have g7 := e8 _ _ g7
    have s8 := s7.trans e8
    generalize upd H7 d8 (.lst [.ref d7]) = H8 at g7 g8 s8 ⊢
    walk_at "el"
    refine ⟨by decide, by decide, ?_⟩
    refine lp_range (fun i σ H9 => Same H8 H9 ∧ ∃ v1 v2, σ = [some (.ref d8), v1, v2]) ⟨Same.refl _, _, _, rfl⟩ ?_ ?_
    · rintro i σ H9 hi ⟨s9, v1, v2, rfl⟩
      walk_at "el"
      refine ⟨by show 0 ≤ sizeLine; decide, fun a1 m1 => ?_⟩
      have e1 := nw_of m1 (.lst [])
      walk_at "el"
      refine ⟨by show 0 ≤ sizeLine; decide, fun a2 m2 => ?_⟩
      have e2 := nw_of m2 (.lst [])
      walk_at "el"
      refine ⟨by show 0 ≤ sizeLine; decide, fun a3 m3 => ?_⟩
      have e3 := nw_of m3 (.lst [])
      walk_at "el"
      refine ⟨by show 0 ≤ sizeLine; decide, fun a4 m4 => ?_⟩
      have e4 := nw_of m4 (.lst [])
      have w1 := e4 _ _ (e3 _ _ (e2 _ _ (upd_at m1 (.lst []))))
      have w2 := e4 _ _ (e3 _ _ (upd_at m2 (.lst [])))
      have w3 := e4 _ _ (upd_at m3 (.lst []))
      have w4 := upd_at m4 (.lst [])
      have s10 : Same H8 _ := (((s9.trans e1).trans e2).trans e3).trans e4
      generalize upd (upd (upd (upd H9 a1 (.lst [])) a2 (.lst [])) a3 (.lst [])) a4 (.lst []) = H10 at w1 w2 w3 w4 s10 ⊢
      walk_at "el"
      refine ⟨by show 6 ≤ sizeLine; decide, fun q hq => ?_⟩
      have e11 := nw_of hq (.lst [.int 1, .int 1, .ref a1, .ref a2, .ref a3, .ref a4])
      have g11 := upd_at hq (.lst [.int 1, .int 1, .ref a1, .ref a2, .ref a3, .ref a4])
      walk_at "el"
      have hi6 : i < 6 := hi
      refine a_set g11 (j := i) (by
        have : i = 0 ∨ i = 1 ∨ i = 2 ∨ i = 3 ∨ i = 4 ∨ i = 5 := by omega
        rcases this with rfl | rfl | rfl | rfl | rfl | rfl <;> rfl) ?_
      have e12 : Same H10 (upd (upd H10 q (.lst [.int 1, .int 1, .ref a1, .ref a2, .ref a3, .ref a4])) q (.lst ([V.int 1, .int 1, .ref a1, .ref a2, .ref a3, .ref a4].set i (.ref d8)))) := e11.mu hq
      have g12 : upd (upd H10 q (.lst [.int 1, .int 1, .ref a1, .ref a2, .ref a3, .ref a4])) q (.lst ([V.int 1, .int 1, .ref a1, .ref a2, .ref a3, .ref a4].set i (.ref d8))) q = _ := upd_same
      generalize upd (upd H10 q (.lst [.int 1, .int 1, .ref a1, .ref a2, .ref a3, .ref a4])) q (.lst ([V.int 1, .int 1, .ref a1, .ref a2, .ref a3, .ref a4].set i (.ref d8))) = H12 at e12 g12 ⊢
      have s12 := s10.trans e12
      obtain ⟨ev, wi, ps, xs, fb, es, S, hfb, eo⟩ := deep_six (K := K) (H := H12) (l := fun u => match u with | .tel => a1 | .gap => a2 | .sur => a3 | .cla => a4) (D := d8) (D1 := d7) (fun u => by cases u; exact e12 _ _ w1; exact e12 _ _ w2; exact e12 _ _ w3; exact e12 _ _ w4) (s12 _ _ g8) (s12 _ _ g7) i hi6
      have es : [V.int 1, .int 1, .ref a1, .ref a2, .ref a3, .ref a4].set i (.ref d8) = [ev, wi, ps .tel, ps .gap, ps .sur, ps .cla] := es
      rw [es] at g12
      walk_at "el"
      refine ⟨q, ev, wi, ps, xs, fb, rfl, g12, S, hfb, fun H13 r s13 hr13 => ?_⟩
      rw [eo] at hr13
      have s813 := s12.trans s13
      walk_at "el"
      refine ite2 (fun c0 => ?_) (fun c0 => ?_)
      · have c0 : i < 2 := by have := of_decide_eq_true c0; omega
        rw [if_pos c0] at hr13
        walk_at "el"
        refine ⟨by show 2 ≤ sizeLine; decide, fun r2 hr2 => ?_⟩
        have e14 := nw_of hr2 (.tup [.str "wrong", .int (0 + (i : Int))])
        refine n_neD (out_dp (o := .wrong i) (e14 _ _ hr13)) (out_dp (o := .wrong i) (by rw [upd_same, Int.zero_add]; rfl)) (out_shp _) (out_shp _) ?_
        rw [out_eqv]
        walk_at "el"
        exact ⟨s813.trans e14, _, _, rfl⟩
      · have c0 : ¬ i < 2 := fun z => c0 (decide_eq_true (by omega))
        rw [if_neg c0] at hr13
        walk_at "el"
        refine ⟨by show 3 ≤ sizeLine; decide, fun r2 hr2 => ?_⟩
        have e14 := nw_of hr2 (.tup [.str "bad", .int (0 + (i : Int)), .int 0])
        refine n_neD (out_dp (o := .bad i 0) (e14 _ _ hr13)) (out_dp (o := .bad i 0) (by rw [upd_same, Int.zero_add]; rfl)) (out_shp _) (out_shp _) ?_
        rw [out_eqv]
        walk_at "el"
        exact ⟨s813.trans e14, _, _, rfl⟩
    · rintro σ H9 ⟨s9, v1, v2, rfl⟩
      walk_at "el"
      refine ⟨by show 3 ≤ sizeLine; decide, fun t ht => ?_⟩
      have e1 := nw_of ht (.tup [.int 0, .int 0, .int 5])
      have w1 := upd_at ht (.tup [.int 0, .int 0, .int 5])
      walk_at "el"
      refine ⟨by show 1 ≤ sizeLine; decide, fun t1 ht1 => ?_⟩
      have e2 := nw_of ht1 (.lst [.ref t])
      have w2 := upd_at ht1 (.lst [.ref t])
      have w1 := e2 _ _ w1
      walk_at "el"
      refine .inr ⟨t1, 498, _, rfl, rfl, w2, by decide, by decide, by show 1 * 498 ≤ sizeLine; decide, fun p hp => ?_⟩
      have e3 := nw_of hp (.lst (List.replicate (498 : Int).toNat [V.ref t]).flatten)
      have w3 := upd_at hp (.lst (List.replicate (498 : Int).toNat [V.ref t]).flatten)
      have w1 := e3 _ _ w1
      have s3 : Same H _ := ((s8.trans s9).trans (e1.trans e2)).trans e3
      have lz : (List.replicate (498 : Int).toNat [V.ref t]).flatten.length = 498 := by simp
      have mz : ∀ x ∈ (List.replicate (498 : Int).toNat [V.ref t]).flatten, x = V.ref t := fun x hx => by
        obtain ⟨l, hl, hxl⟩ := List.mem_flatten.mp hx
        rw [List.eq_of_mem_replicate hl] at hxl
        exact List.mem_singleton.mp hxl
      generalize (List.replicate (498 : Int).toNat [V.ref t]).flatten = zs at e3 w3 w1 s3 lz mz ⊢
      generalize upd (upd (upd H9 t (.tup [.int 0, .int 0, .int 5])) t1 (.lst [.ref t])) p (.lst zs) = H3 at w1 w3 s3 ⊢
      clear e1 e2 e3
      walk_at "el"
      refine ⟨by show 0 ≤ sizeLine; decide, fun a2 m2 => ?_⟩
      have e2 := nw_of m2 (.lst [])
      walk_at "el"
      refine ⟨by show 0 ≤ sizeLine; decide, fun a3 m3 => ?_⟩
      have e3 := nw_of m3 (.lst [])
      walk_at "el"
      refine ⟨by show 0 ≤ sizeLine; decide, fun a4 m4 => ?_⟩
      have e4 := nw_of m4 (.lst [])
      have v2 := e4 _ _ (e3 _ _ (upd_at m2 (.lst [])))
      have v3 := e4 _ _ (upd_at m3 (.lst []))
      have v4 := upd_at m4 (.lst [])
      have e24 := (e2.trans e3).trans e4
      have w1 := e24 _ _ w1
      have w3 := e24 _ _ w3
      have s4 := s3.trans e24
      generalize upd (upd (upd H3 a2 (.lst [])) a3 (.lst [])) a4 (.lst []) = H4 at w1 w3 v2 v3 v4 s4 ⊢
      clear e2 e3 e4 e24
      walk_at "el"
      refine ⟨by show 6 ≤ sizeLine; decide, fun q hq => ?_⟩
      have e5 := nw_of hq (.lst [.int 1, .int 1, .ref p, .ref a2, .ref a3, .ref a4])
      have g5 := upd_at hq (.lst [.int 1, .int 1, .ref p, .ref a2, .ref a3, .ref a4])
      have w1 := e5 _ _ w1
      have w3 := e5 _ _ w3
      have v2 := e5 _ _ v2
      have v3 := e5 _ _ v3
      have v4 := e5 _ _ v4
      have s5 := s4.trans e5
      generalize upd H4 q (.lst [.int 1, .int 1, .ref p, .ref a2, .ref a3, .ref a4]) = H5 at w1 w3 v2 v3 v4 s5 g5 ⊢
      have hl : ∀ u : Pt, H5 ((fun u => match u with | .tel => p | .gap => a2 | .sur => a3 | .cla => a4 : Pt → Addr) u) = some (.lst ((fun u => match u with | .tel => zs | _ => [] : Pt → List V) u)) := fun u => by cases u <;> assumption
      have b1 : belowB (.int 1) 9 = true := by decide
      have em : outF H5 (.int 1) (.int 1) (fun u => .ref ((fun u => match u with | .tel => p | .gap => a2 | .sur => a3 | .cla => a4 : Pt → Addr) u)) (fun u => match u with | .tel => zs | _ => []) (fun _ => none) = .many := by
        unfold outF
        rw [if_pos b1, if_pos b1, outS_all (fun u => seq_lst (hl u)), outP_at (i := 0) (u := .tel) rfl (fun j v h => absurd h (Nat.not_lt_zero j)), if_pos (by show 24 < zs.length; omega)]
      walk_at "el"
      refine ⟨q, .int 1, .int 1, fun u => .ref ((fun u => match u with | .tel => p | .gap => a2 | .sur => a3 | .cla => a4 : Pt → Addr) u), fun u => match u with | .tel => zs | _ => [], fun _ => none, rfl, g5, six_of (.int _) (.int _) hl (fun u x hx => ?_), fun _ _ u _ => ?_, fun H6 r s6 hr => ?_⟩
      · cases u
        · rw [mz x hx]
          exact thd_tup w1 (all_cons (.int _) (all_cons (.int _) (all_cons (.int _) all_nil)))
        · cases hx
        · cases hx
        · cases hx
      · cases u
        · intro x hx
          rw [mz x hx]
          exact item_tel w1 (by decide) (by decide) (by decide) (by decide) (by decide) (by decide)
        · exact fun x h => nomatch h
        · exact fun x h => nomatch h
        · exact fun x h => nomatch h
      · rw [em] at hr
        walk_at "el"
        refine ⟨by show 2 ≤ sizeLine; decide, fun r2 hr2 => ?_⟩
        have e7 := nw_of hr2 (.tup [.str "many", .int 24])
        refine n_eqD (out_dp (o := .many) (e7 _ _ hr)) (out_dp (o := .many) upd_same) (out_shp _) (out_shp _) ?_
        rw [out_eqv]
        exact k _ ((s5.trans s6).trans e7)
end
end EL

/- part Z14F -/
namespace EL
open PySem PySem.Spec PyProof.Rows L2
open PySem.W (Frag)
local macro_rules | `(tactic| walk_at "el1") => `(tactic| with_reducible first
  | refine a_sasg ?_ | refine a_sdrop ?_ | refine a_saugS ?_ | refine a_spar ?_ | refine a_seq ?_ | refine a_asg ?_ | refine a_drop ?_ | refine a_ret ?_ | refine a_if ?_ | refine a_next ?_
  | refine a_op ?_ | refine a_cons ?_ | refine a_nil ?_ | refine a_cb ?_ | refine a_call ?_ | refine a_c ?_ | refine a_gn ?_ | refine a_nx ?_ | refine a_rt ?_ | refine a_un ?_
  | refine a_test ?_ | refine a_B ?_ | refine a_bl ?_ | refine a_and ?_ | refine a_or ?_ | refine a_not ?_ | refine a_andV ?_ | refine a_orV ?_ | refine a_notV ?_ | refine a_ifx ?_ | refine a_chain ?_
  | refine a_nT ?_ | refine a_nF ?_ | refine a_fld ?_ | refine a_getF ?_ | refine a_T ?_ | refine a_F ?_ | refine a_tup ?_ | refine a_lst ?_ | refine a_sub ?_ | refine a_augS ?_ | refine a_two ?_ | refine a_I0 ?_ | refine a_U ?_ | refine n_add ?_ | refine n_int ?_ | refine n_ib ?_ | refine a_ip ?_ | refine a_rng1 ?_ | refine a_rng2 ?_ | refine a_bm ?_ | refine a_abs ?_ | refine a_pairs ?_ | refine a_pairs0 ?_ | refine a_bk ?_ | refine a_prp ?_ | refine a_lc ?_ | refine a_yes ?_ | refine a_sl ?_ | refine a_nop ?_ | refine a_prt ?_ | refine a_ex1 ?_ | refine a_for ?_ | refine a_sfor ?_ | refine a_iE1 ?_ | refine a_iEs ?_ | refine a_iEz ?_ | refine a_iEnum ?_ | refine a_iTup ?_ | refine a_iList ?_ | refine a_gcons ?_ | refine a_gnil ?_ | refine a_revT ?_ | refine a_spar3 ?_ | refine a_par3 ?_ | refine a_three ?_)
local macro_rules | `(tactic| walk_at "el2") => `(tactic| first
  | (refine a_var (by rfl) ?_)
  | (refine n_ixL (SqL.of (by assumption)) (by rfl) ?_) | (refine n_ixT (SqT.of (by assumption)) (by rfl) ?_) | (refine n_eq (by rfl) ?_) | (refine n_ne (by rfl) ?_)
  | (refine n_isN ?_) | (refine n_notN ?_) | (refine n_isB ?_) | (refine n_notB ?_) | (refine n_isBI ?_) | (refine n_notBI ?_) | (refine n_len (.inl (SqL.of (by assumption))) ?_) | (refine n_len (.inr (SqT.of (by assumption))) ?_)
  | (refine a_getL (SqL.of (by assumption)) (by rfl) ?_)
  | (refine n_isInt (by assumption) ?_) | (refine n_isBool (by assumption) ?_) | (refine n_isStr (by assumption) ?_) | (refine n_isTup (by assumption) ?_) | (refine n_isLst (by assumption) ?_))
local macro_rules | `(tactic| walk_at "el") => `(tactic| repeat (first | walk_at "el1" | walk_at "el2"))

/-! ### lists that change: which, and what stands in them -/
def ix : Pt → Nat | .tel => 0 | .gap => 1 | .sur => 2 | .cla => 3
theorem pNo_ix (u : Pt) : pNo u = (ix u : Nat) := by cases u <;> rfl
theorem pAt_ix (u : Pt) : pAt[ix u]? = some u := by cases u <;> rfl
theorem ix_of {i : Nat} (h : i < 4) : ∃ u, ix u = i := by
  have : i = 0 ∨ i = 1 ∨ i = 2 ∨ i = 3 := by omega
  rcases this with rfl | rfl | rfl | rfl
  · exact ⟨.tel, rfl⟩
  · exact ⟨.gap, rfl⟩
  · exact ⟨.sur, rfl⟩
  · exact ⟨.cla, rfl⟩
theorem ix_lt (u : Pt) : ix u < 4 := by cases u <;> decide
theorem ix_inj {u v : Pt} (h : ix u = ix v) : u = v := by cases u <;> cases v <;> first | rfl | (exfalso; revert h; decide)
theorem bagMu {H : Hp} {b c q : Addr} {o : HO} (h : Bag H b c) (nb : q ≠ b) (nc : q ≠ c) : Bag (upd H q o) b c := by
  obtain ⟨i, j, n, cs, h1, h2, r⟩ := h
  exact ⟨i, j, n, cs, by rw [upd_ne nb.symm]; exact h1, by rw [upd_ne nc.symm]; exact h2, r⟩
theorem bagNc {H : Hp} {b c q : Addr} (h : Bag H b c) (hq : H q = none) : q ≠ c := fun z => by
  obtain ⟨_, _, _, _, _, h2, _⟩ := h
  subst z
  rw [h2] at hq
  cases hq
/-- one list may change: p -/
structure Ch (p : Addr) (H H' : Hp) : Prop where
  a : ∃ ys, H p = some (.lst ys)
  b : ∃ ys, H' p = some (.lst ys)
  k : Kp p H H'
theorem ch_bag {b c : Addr} {H H' : Hp} (hb : Bag H b c) (hb' : Bag H' b c) (k : Kp b H H') : Ch b H H' := by
  obtain ⟨_, _, _, _, h1, _⟩ := hb
  obtain ⟨_, _, _, _, h2, _⟩ := hb'
  exact ⟨⟨_, h1⟩, ⟨_, h2⟩, k⟩
theorem ch_upd {p : Addr} {H : Hp} {xs ys : List V} (h : H p = some (.lst xs)) : Ch p H (upd H p (.lst ys)) := ⟨⟨_, h⟩, ⟨_, upd_same⟩, fun a o n e => by rw [upd_ne n]; exact e⟩
theorem Ch.th {K : Frag} {p : Addr} {H H' : Hp} {x : V} (c : Ch p H H') (h : Th K H x) : Th K H' x := by
  obtain ⟨_, h1⟩ := c.a
  obtain ⟨_, h2⟩ := c.b
  exact h.stay h1 h2 c.k
theorem Ch.tup {p a : Addr} {H H' : Hp} {ys : List V} (c : Ch p H H') (h : H a = some (.tup ys)) : H' a = some (.tup ys) := c.k _ _ (fun z => by obtain ⟨_, q⟩ := c.a; rw [z, q] at h; cases h) h
theorem Ch.back {K : Frag} {p a : Addr} {H H' : Hp} {ys : List V} (c : Ch p H H') (th : Th K H (.ref a)) (h : H' a = some (.tup ys)) : H a = some (.tup ys) := by
  have ne : a ≠ p := fun z => by obtain ⟨_, q⟩ := c.b; rw [z, q] at h; cases h
  have go : ∀ o, H a = some o → H a = some (.tup ys) := fun o ho => by
    have := c.k _ _ ne ho
    rw [h] at this
    rw [ho, ← this]
  cases th with
  | lst h => exact go _ h
  | tup h => exact go _ h
  | dct h => exact go _ h
  | ins h c => exact go _ h
  | dtt h => exact go _ h
theorem Ch.thd {K : Frag} {p : Addr} {H H' : Hp} {x : V} (c : Ch p H H') (h : ThD K H x) : ThD K H' x := ⟨c.th h.1, fun q ys e hq y hy => by
  subst e
  exact c.th (h.2 q ys rfl (c.back h.1 hq) y hy)⟩
theorem Ch.not {K : Frag} {p : Addr} {H H' : Hp} {u : Pt} {x : V} {e w : Int} (c : Ch p H H') (t : Th K H x) (h : ¬ ItemOk u H x e w) : ¬ ItemOk u H' x e w := by
  rintro ⟨a, ys, rfl, ha, hl, hs⟩
  exact h ⟨a, ys, rfl, c.back t ha, hl, hs⟩
theorem Ch.sq {K : Frag} {p : Addr} {H H' : Hp} {x : V} (c : Ch p H H') (t : Th K H x) : isSeq H' x = isSeq H x := by
  have go : ∀ (a : Addr) (o : HO), H a = some o → (∀ ys, o ≠ .lst ys) → isSeq H' (.ref a) = isSeq H (.ref a) := fun a o h n => by
    have ne : a ≠ p := fun z => by obtain ⟨_, q⟩ := c.a; rw [z, q] at h; exact n _ (Option.some.inj h).symm
    show (obL (H' a) || obT (H' a)) = (obL (H a) || obT (H a))
    rw [h, c.k _ _ ne h]
  cases t with
  | @lst a xs h =>
    show (obL (H' a) || obT (H' a)) = (obL (H a) || obT (H a))
    by_cases e : a = p
    · subst e
      obtain ⟨_, q⟩ := c.b
      rw [h, q]; rfl
    · rw [h, c.k _ _ e h]
  | tup h => exact go _ _ h fun _ z => nomatch z
  | dct h => exact go _ _ h fun _ z => nomatch z
  | ins h c => exact go _ _ h fun _ z => nomatch z
  | dtt h => exact go _ _ h fun _ z => nomatch z
  | _ => rfl
/-- an item drawn, or one that was spoilt -/
def Item3 (K : Frag) (H : Hp) (u : Pt) (e w : Int) (bad : Prop) (x : V) : Prop := ThD K H x ∧ (bad → ¬ ItemOk u H x e w) ∧ (¬ bad → ∃ it m, x = .ref it ∧ m.pt = u ∧ Itm.Ok 3 3 m ∧ H it = some (.tup m.enc))
theorem Ch.item {K : Frag} {p : Addr} {H H' : Hp} {u : Pt} {x : V} {e w : Int} {bad : Prop} (c : Ch p H H') (h : Item3 K H u e w bad x) : Item3 K H' u e w bad x :=
  ⟨c.thd h.1, fun b => c.not h.1.1 (h.2.1 b), fun b => by
    obtain ⟨it, m, e1, e2, e3, e4⟩ := h.2.2 b
    exact ⟨it, m, e1, e2, e3, c.tup e4⟩⟩
theorem Item3.same {K : Frag} {H H' : Hp} {u : Pt} {x : V} {e w : Int} {bad : Prop} (h : Item3 K H u e w bad x) (s : Same H H') : Item3 K H' u e w bad x :=
  ⟨h.1.same s, fun b z => h.2.1 b (z.back h.1.1 s), fun b => by
    obtain ⟨it, m, e1, e2, e3, e4⟩ := h.2.2 b
    exact ⟨it, m, e1, e2, e3, s _ _ e4⟩⟩
inductive Ky | q | sp | j (u : Pt) | l (u : Pt)
def live (n : Nat) : Ky → Prop | .l u => ix u < n | _ => True
def adL (ad : Ky → Addr) (u : Pt) (a : Addr) : Ky → Addr
  | .l v => if v = u then a else ad (.l v)
  | y => ad y
structure LS (H0 H : Hp) (b c : Addr) (n : Nat) (ad : Ky → Addr) (ct : Ky → List V) : Prop where
  b0 : Bag H0 b c
  bag : Bag H b c
  kp : Kp b H0 H
  h : ∀ x, live n x → H (ad x) = some (.lst (ct x))
  nw : ∀ x, live n x → H0 (ad x) = none
  inj : ∀ x y, live n x → live n y → x ≠ y → ad x ≠ ad y
section
variable {H0 H H' : Hp} {b c : Addr} {n : Nat} {ad : Ky → Addr} {ct : Ky → List V}
theorem LS.nb (L : LS H0 H b c n ad ct) {x : Ky} (hx : live n x) : ad x ≠ b := L.b0.ne (L.nw x hx)
theorem LS.nc (L : LS H0 H b c n ad ct) {x : Ky} (hx : live n x) : ad x ≠ c := bagNc L.b0 (L.nw x hx)
theorem LS.to (L : LS H0 H b c n ad ct) (hb : Bag H' b c) (k : Kp b H H') : LS H0 H' b c n ad ct := ⟨L.b0, hb, L.kp.trans k, fun x hx => k _ _ (L.nb hx) (L.h x hx), L.nw, L.inj⟩
theorem LS.same (L : LS H0 H b c n ad ct) (s : Same H H') : LS H0 H' b c n ad ct := L.to (L.bag.same s) (same_kp s)
theorem LS.put (L : LS H0 H b c n ad ct) (x : Ky) (hx : live n x) (ys : List V) (ct' : Ky → List V) (e1 : ct' x = ys) (e2 : ∀ y, live n y → y ≠ x → ct' y = ct y) : LS H0 (upd H (ad x) (.lst ys)) b c n ad ct' :=
  ⟨L.b0, bagMu L.bag (L.nb hx) (L.nc hx), L.kp.mut (L.nw x hx), fun y hy => by
    by_cases e : y = x
    · subst e; rw [upd_same, e1]
    · rw [upd_ne (L.inj y x hy hx e), e2 y hy e]; exact L.h y hy, L.nw, L.inj⟩
/-- a part's list more -/
theorem LS.add (L : LS H0 H b c n ad ct) {u : Pt} (hu : ix u = n) {a : Addr} {ys : List V} {ct' : Ky → List V} (ha : H a = some (.lst ys)) (a0 : H0 a = none) (ne : ∀ y, live n y → ad y ≠ a) (e1 : ct' (.l u) = ys) (e2 : ∀ y, live n y → ct' y = ct y) : LS H0 H b c (n + 1) (adL ad u a) ct' := by
  have old : ∀ y, live (n + 1) y → y ≠ .l u → live n y := fun y hy ny => by
    cases y with
    | l v =>
      have : ix v < n + 1 := hy
      have : ix v ≠ n := fun z => ny (by rw [ix_inj (z.trans hu.symm)])
      show ix v < n
      omega
    | _ => trivial
  have at_ : ∀ y, y ≠ .l u → adL ad u a y = ad y := fun y ny => by
    cases y with
    | l v => exact if_neg fun z => ny (by rw [z])
    | _ => rfl
  have at0 : adL ad u a (.l u) = a := if_pos rfl
  refine ⟨L.b0, L.bag, L.kp, fun y hy => ?_, fun y hy => ?_, fun x y hx hy nxy => ?_⟩
  · by_cases e : y = .l u
    · subst e; rw [at0, e1]; exact ha
    · rw [at_ y e, e2 y (old y hy e)]; exact L.h y (old y hy e)
  · by_cases e : y = .l u
    · subst e; rw [at0]; exact a0
    · rw [at_ y e]; exact L.nw y (old y hy e)
  · by_cases e1 : x = .l u
    · subst e1
      have e2 : y ≠ .l u := fun z => nxy z.symm
      rw [at0, at_ y e2]; exact (ne y (old y hy e2)).symm
    · by_cases e2 : y = .l u
      · subst e2
        rw [at0, at_ x e1]; exact ne x (old x hx e1)
      · rw [at_ x e1, at_ y e2]; exact L.inj x y (old x hx e1) (old y hy e2) nxy
end
/-- what stands in the lists -/
def cts (e w : Int) (ad : Ky → Addr) (n : Nat) (xs : Pt → List V) (js : Pt → List Int) : Ky → List V
  | .q => .int e :: .int w :: (pAt.take n).map fun u => .ref (ad (.l u))
  | .sp => [.ref (ad (.j .tel)), .ref (ad (.j .gap)), .ref (ad (.j .sur)), .ref (ad (.j .cla))]
  | .j u => (js u).map V.int
  | .l u => xs u
/-- while the parts are drawn -/
structure Dr (K : Frag) (H0 H : Hp) (b c : Addr) (e w : Int) (n : Nat) (ad : Ky → Addr) (xs : Pt → List V) (js : Pt → List Int) : Prop where
  ls : LS H0 H b c n ad (cts e w ad n xs js)
  it : ∀ u, ix u < n → ∀ (k : Nat) x, (xs u)[k]? = some x → Item3 K H u e w ((k : Int) ∈ js u) x
  jn : ∀ u, n ≤ ix u → js u = []
  jr : ∀ u, ∀ j ∈ js u, 0 ≤ j ∧ j < (xs u).length
  len : ∀ u, ix u < n → (xs u).length ≤ 26
section
variable {K : Frag} {H0 H H' : Hp} {b c : Addr} {e w : Int} {n : Nat} {ad : Ky → Addr} {xs : Pt → List V} {js : Pt → List Int}
theorem Dr.to (D : Dr K H0 H b c e w n ad xs js) (hb : Bag H' b c) (k : Kp b H H') : Dr K H0 H' b c e w n ad xs js := ⟨D.ls.to hb k, fun u hu i x hx => (ch_bag D.ls.bag hb k).item (D.it u hu i x hx), D.jn, D.jr, D.len⟩
theorem Dr.same (D : Dr K H0 H b c e w n ad xs js) (s : Same H H') : Dr K H0 H' b c e w n ad xs js := D.to (D.ls.bag.same s) (same_kp s)
/-- a part more -/
theorem Dr.add (D : Dr K H0 H b c e w n ad xs js) {u : Pt} (hu : ix u = n) {a : Addr} {ys : List V} (ha : H a = some (.lst ys)) (a0 : H0 a = none) (ne : ∀ y, live n y → ad y ≠ a) (ly : ys.length ≤ 26) (it : ∀ x ∈ ys, Item3 K H u e w False x) :
    ∃ ad', ad' .q = ad .q ∧ ad' .sp = ad .sp ∧ Dr K H0 (upd H (ad .q) (.lst (cts e w ad n xs js .q ++ [.ref a]))) b c e w (n + 1) ad' (setP xs u ys) js := by
  have jl : js u = [] := D.jn u (by omega)
  have nl : ∀ v, ix v < n → v ≠ u := fun v hv z => by subst z; omega
  have A := D.ls.add (ct' := fun y => match y with | .l v => setP xs u ys v | y => cts e w ad n xs js y) hu ha a0 ne setP_at (fun y hy => by
    cases y with
    | l v => exact setP_ne (nl v hy)
    | _ => rfl)
  refine ⟨adL ad u a, rfl, rfl, ?_⟩
  have tk : (pAt.take (n + 1)).map (fun v => V.ref (if v = u then a else ad (.l v))) = (pAt.take n).map (fun v => V.ref (ad (.l v))) ++ [.ref a] := by
    subst hu
    cases u <;> simp [pAt, ix]
  have P := A.put .q trivial (cts e w ad n xs js .q ++ [.ref a]) (cts e w (adL ad u a) (n + 1) (setP xs u ys) js) (by
    show V.int e :: V.int w :: (pAt.take (n + 1)).map (fun v => V.ref (if v = u then a else ad (.l v))) = _
    rw [tk]; rfl) (fun y hy ny => by
    cases y with
    | q => exact absurd rfl ny
    | _ => rfl)
  have ch : Ch (ad .q) H (upd H (ad .q) (.lst (cts e w ad n xs js .q ++ [.ref a]))) := ch_upd (D.ls.h .q trivial)
  refine ⟨P, fun v hv k x hx => ?_, fun v hv => D.jn v (by omega), fun v j hj => ?_, fun v hv => ?_⟩
  · by_cases ev : v = u
    · subst ev
      rw [setP_at] at hx
      have := ch.item (it x (List.mem_of_getElem? hx))
      rw [jl]
      exact ⟨this.1, (fun z => nomatch z), fun _ => this.2.2 id⟩
    · rw [setP_ne ev] at hx
      have lt : ix v < n := by have : ix v ≠ n := fun z => ev (ix_inj (z.trans hu.symm)); omega
      exact ch.item (D.it v lt k x hx)
  · by_cases ev : v = u
    · subst ev; rw [jl] at hj; cases hj
    · rw [setP_ne ev]; exact D.jr v j hj
  · by_cases ev : v = u
    · subst ev; rw [setP_at]; exact ly
    · rw [setP_ne ev]
      have lt : ix v < n := by have : ix v ≠ n := fun z => ev (ix_inj (z.trans hu.symm)); omega
      exact D.len v lt
/-- an item spoilt, and its place written down -/
theorem Dr.spoil (D : Dr K H0 H b c e w n ad xs js) {u : Pt} (hu : ix u < n) {i : Nat} {y : V} (li : i < (xs u).length) (ni : (i : Int) ∉ js u) (ty : ThD K H y) (no : ¬ ItemOk u H y e w) :
    Dr K H0 (upd (upd H (ad (.l u)) (.lst ((xs u).set i y))) (ad (.j u)) (.lst ((js u).map V.int ++ [.int (i : Int)]))) b c e w n ad (setP xs u ((xs u).set i y)) (fun v => if v = u then js u ++ [(i : Int)] else js v) := by
  have ch1 : Ch (ad (.l u)) H (upd H (ad (.l u)) (.lst ((xs u).set i y))) := ch_upd (D.ls.h (.l u) hu)
  have P1 := D.ls.put (.l u) hu ((xs u).set i y) (cts e w ad n (setP xs u ((xs u).set i y)) js) setP_at (fun z hz nz => by
    cases z with
    | l v => exact setP_ne fun q => nz (by rw [q])
    | _ => rfl)
  have ch2 : Ch (ad (.j u)) (upd H (ad (.l u)) (.lst ((xs u).set i y))) (upd (upd H (ad (.l u)) (.lst ((xs u).set i y))) (ad (.j u)) (.lst ((js u).map V.int ++ [.int (i : Int)]))) := ch_upd (P1.h (.j u) trivial)
  have P2 := P1.put (.j u) trivial ((js u).map V.int ++ [.int (i : Int)]) (cts e w ad n (setP xs u ((xs u).set i y)) (fun v => if v = u then js u ++ [(i : Int)] else js v)) (by
    show (if u = u then js u ++ [(i : Int)] else js u).map V.int = _
    rw [if_pos rfl, List.map_append]; rfl) (fun z hz nz => by
    cases z with
    | j v =>
      show (if v = u then js u ++ [(i : Int)] else js v).map V.int = (js v).map V.int
      rw [if_neg fun q => nz (by rw [q])]
    | _ => rfl)
  refine ⟨P2, fun v hv k x hx => ?_, fun v hv => ?_, fun v j hj => ?_, fun v hv => ?_⟩
  · by_cases ev : v = u
    · subst ev
      rw [setP_at] at hx
      rw [if_pos rfl]
      by_cases ek : k = i
      · subst ek
        rw [List.getElem?_set_self li] at hx
        cases hx
        exact ⟨ch2.thd (ch1.thd ty), fun _ => ch2.not (ch1.th ty.1) (ch1.not ty.1 no), fun z => absurd (List.mem_append_right _ (List.mem_singleton.mpr rfl)) z⟩
      · rw [List.getElem?_set_ne (Ne.symm ek)] at hx
        have q := ch2.item (ch1.item (D.it v hv k x hx))
        refine ⟨q.1, fun z => q.2.1 ?_, fun z => q.2.2 fun m => z (List.mem_append_left _ m)⟩
        rcases List.mem_append.mp z with m | m
        · exact m
        · have := List.mem_singleton.mp m; omega
    · rw [setP_ne ev] at hx
      rw [if_neg ev]
      exact ch2.item (ch1.item (D.it v hv k x hx))
  · have ev : v ≠ u := fun z => by subst z; omega
    rw [if_neg ev]; exact D.jn v hv
  · by_cases ev : v = u
    · subst ev
      rw [if_pos rfl] at hj
      rw [setP_at, List.length_set]
      rcases List.mem_append.mp hj with m | m
      · exact D.jr v j m
      · have := List.mem_singleton.mp m; omega
    · rw [if_neg ev] at hj
      rw [setP_ne ev]; exact D.jr v j hj
  · by_cases ev : v = u
    · subst ev; rw [setP_at, List.length_set]; exact D.len v hv
    · rw [setP_ne ev]; exact D.len v hv
end
end EL

/- part Z14G -/
namespace EL
open PySem PySem.Spec PyProof.Rows L2
open PySem.W (Frag)
local macro_rules | `(tactic| walk_at "el1") => `(tactic| with_reducible first
  | refine a_sasg ?_ | refine a_sdrop ?_ | refine a_saugS ?_ | refine a_spar ?_ | refine a_seq ?_ | refine a_asg ?_ | refine a_drop ?_ | refine a_ret ?_ | refine a_if ?_ | refine a_next ?_
  | refine a_op ?_ | refine a_cons ?_ | refine a_nil ?_ | refine a_cb ?_ | refine a_call ?_ | refine a_c ?_ | refine a_gn ?_ | refine a_nx ?_ | refine a_rt ?_ | refine a_un ?_
  | refine a_test ?_ | refine a_B ?_ | refine a_bl ?_ | refine a_and ?_ | refine a_or ?_ | refine a_not ?_ | refine a_andV ?_ | refine a_orV ?_ | refine a_notV ?_ | refine a_ifx ?_ | refine a_chain ?_
  | refine a_nT ?_ | refine a_nF ?_ | refine a_fld ?_ | refine a_getF ?_ | refine a_T ?_ | refine a_F ?_ | refine a_tup ?_ | refine a_lst ?_ | refine a_sub ?_ | refine a_augS ?_ | refine a_two ?_ | refine a_I0 ?_ | refine a_U ?_ | refine n_add ?_ | refine n_int ?_ | refine n_ib ?_ | refine a_ip ?_ | refine a_rng1 ?_ | refine a_rng2 ?_ | refine a_bm ?_ | refine a_abs ?_ | refine a_pairs ?_ | refine a_pairs0 ?_ | refine a_bk ?_ | refine a_prp ?_ | refine a_lc ?_ | refine a_yes ?_ | refine a_sl ?_ | refine a_nop ?_ | refine a_prt ?_ | refine a_ex1 ?_ | refine a_for ?_ | refine a_sfor ?_ | refine a_iE1 ?_ | refine a_iEs ?_ | refine a_iEz ?_ | refine a_iEnum ?_ | refine a_iTup ?_ | refine a_iList ?_ | refine a_gcons ?_ | refine a_gnil ?_ | refine a_revT ?_ | refine a_spar3 ?_ | refine a_par3 ?_ | refine a_three ?_)
local macro_rules | `(tactic| walk_at "el2") => `(tactic| first
  | (refine a_var (by rfl) ?_)
  | (refine n_ixL (SqL.of (by assumption)) (by rfl) ?_) | (refine n_ixT (SqT.of (by assumption)) (by rfl) ?_) | (refine n_eq (by rfl) ?_) | (refine n_ne (by rfl) ?_)
  | (refine n_isN ?_) | (refine n_notN ?_) | (refine n_isB ?_) | (refine n_notB ?_) | (refine n_isBI ?_) | (refine n_notBI ?_) | (refine n_len (.inl (SqL.of (by assumption))) ?_) | (refine n_len (.inr (SqT.of (by assumption))) ?_)
  | (refine a_getL (SqL.of (by assumption)) (by rfl) ?_)
  | (refine n_isInt (by assumption) ?_) | (refine n_isBool (by assumption) ?_) | (refine n_isStr (by assumption) ?_) | (refine n_isTup (by assumption) ?_) | (refine n_isLst (by assumption) ?_))
local macro_rules | `(tactic| walk_at "el") => `(tactic| repeat (first | walk_at "el1" | walk_at "el2"))

theorem min_ex : ∀ (js : List Int), (∀ j ∈ js, 0 ≤ j) → ∃ o, MinO js o
  | [], _ => ⟨none, rfl⟩
  | j :: r, h => by
    obtain ⟨o, ho⟩ := min_ex r fun x hx => h x (List.mem_cons_of_mem _ hx)
    have j0 := h j List.mem_cons_self
    cases o with
    | none =>
      have : r = [] := ho
      subst this
      exact ⟨some j.toNat, by rw [Int.toNat_of_nonneg j0]; exact List.mem_cons_self, fun y hy => by
        rw [Int.toNat_of_nonneg j0]
        cases hy with
        | head => exact Int.le_refl _
        | tail _ z => cases z⟩
    | some n =>
      by_cases lt : j ≤ (n : Int)
      · refine ⟨some j.toNat, by rw [Int.toNat_of_nonneg j0]; exact List.mem_cons_self, fun y hy => ?_⟩
        rw [Int.toNat_of_nonneg j0]
        cases hy with
        | head => exact Int.le_refl _
        | tail _ z => exact Int.le_trans lt (ho.2 y z)
      · refine ⟨some n, List.mem_cons_of_mem _ ho.1, fun y hy => ?_⟩
        cases hy with
        | head => omega
        | tail _ z => exact ho.2 y z
theorem fb_of {K : Frag} {H : Hp} {u : Pt} {xs : List V} {e w : Int} {js : List Int} {o : Option Nat} (e3 : 3 ≤ e) (w3 : 3 ≤ w) (it : ∀ (k : Nat) x, xs[k]? = some x → Item3 K H u e w ((k : Int) ∈ js) x) (jr : ∀ j ∈ js, 0 ≤ j ∧ j < xs.length) (m : MinO js o) : Fb H u xs e w o := by
  have good : ∀ (k : Nat) x, xs[k]? = some x → (k : Int) ∉ js → ItemOk u H x e w := fun k x hx nk => by
    obtain ⟨a, m, rfl, rfl, ok, ha⟩ := (it k x hx).2.2 nk
    exact itm_ok ha (itm_nb e3 w3 ok)
  cases o with
  | none =>
    have : js = [] := m
    subst this
    intro x hx
    obtain ⟨k, hk⟩ := List.getElem?_of_mem hx
    exact good k x hk fun z => nomatch z
  | some n =>
    have r := jr _ m.1
    have ln : n < xs.length := by omega
    refine ⟨⟨xs[n], List.getElem?_eq_getElem ln, (it n _ (List.getElem?_eq_getElem ln)).2.1 m.1⟩, fun k y hk hy => good k y hy fun z => ?_⟩
    have := m.2 _ z
    omega
/-- when all is drawn: only the list of the six changes -/
structure Zq (K : Frag) (H0 H : Hp) (b c q sp : Addr) (ja : Pt → Addr) (js : Pt → List Int) (e w : Int) (ev wi : V) (ps : Pt → V) (xs : Pt → List V) : Prop where
  b0 : Bag H0 b c
  bag : Bag H b c
  kp : Kp b H0 H
  q0 : H0 q = none
  s0 : H0 sp = none
  j0 : ∀ u, H0 (ja u) = none
  hq : H q = some (.lst [ev, wi, ps .tel, ps .gap, ps .sur, ps .cla])
  hs : H sp = some (.lst [.ref (ja .tel), .ref (ja .gap), .ref (ja .sur), .ref (ja .cla)])
  hj : ∀ u, H (ja u) = some (.lst ((js u).map V.int))
  qs : sp ≠ q
  qj : ∀ u, ja u ≠ q
  e9 : belowB ev 9 = true → ev = .int e
  w9 : belowB wi 9 = true → wi = .int w
  te : Th K H ev
  tw : Th K H wi
  tp : ∀ u, Th K H (ps u)
  nq : ∀ u, ps u ≠ .ref q
  sq : ∀ u, isSeq H (ps u) = true → ∃ a, ps u = .ref a ∧ a ≠ b ∧ (H a = some (.lst (xs u)) ∨ H a = some (.tup (xs u)))
  it : ∀ u, isSeq H (ps u) = true → (xs u).length ≤ 26 ∧ (∀ j ∈ js u, 0 ≤ j ∧ j < (xs u).length) ∧ ∀ (k : Nat) x, (xs u)[k]? = some x → Item3 K H u e w ((k : Int) ∈ js u) x
  jr : ∀ u, ∀ j ∈ js u, 0 ≤ j
section
variable {K : Frag} {H0 H H' : Hp} {b c q sp : Addr} {e w : Int} {ja : Pt → Addr} {js : Pt → List Int} {ev wi : V} {ps : Pt → V} {xs : Pt → List V}
theorem Zq.to (Z : Zq K H0 H b c q sp ja js e w ev wi ps xs) (hb : Bag H' b c) (k : Kp b H H') : Zq K H0 H' b c q sp ja js e w ev wi ps xs := by
  have ch := ch_bag Z.bag hb k
  exact ⟨Z.b0, hb, Z.kp.trans k, Z.q0, Z.s0, Z.j0, k _ _ (Z.b0.ne Z.q0) Z.hq, k _ _ (Z.b0.ne Z.s0) Z.hs, fun u => k _ _ (Z.b0.ne (Z.j0 u)) (Z.hj u), Z.qs, Z.qj, Z.e9, Z.w9, ch.th Z.te, ch.th Z.tw, fun u => ch.th (Z.tp u), Z.nq, fun u hu => by
    rw [ch.sq (Z.tp u)] at hu
    obtain ⟨a, ea, nb, h⟩ := Z.sq u hu
    exact ⟨a, ea, nb, h.elim (fun h => .inl (k _ _ nb h)) fun h => .inr (k _ _ nb h)⟩, fun u hu => by
    rw [ch.sq (Z.tp u)] at hu
    obtain ⟨a1, a2, a3⟩ := Z.it u hu
    exact ⟨a1, a2, fun i x hx => ch.item (a3 i x hx)⟩, Z.jr⟩
theorem Zq.same (Z : Zq K H0 H b c q sp ja js e w ev wi ps xs) (s : Same H H') : Zq K H0 H' b c q sp ja js e w ev wi ps xs := Z.to (Z.bag.same s) (same_kp s)
theorem Zq.put (Z : Zq K H0 H b c q sp ja js e w ev wi ps xs) {ev' wi' : V} {ps' : Pt → V} (e9 : belowB ev' 9 = true → ev' = .int e) (w9 : belowB wi' 9 = true → wi' = .int w) (te : Th K H ev') (tw : Th K H wi') (tp : ∀ u, Th K H (ps' u)) (nq : ∀ u, ps' u ≠ .ref q)
    (old : ∀ u, ps' u = ps u ∨ isSeq H (ps' u) = false ∨ isSeq H (ps u) = true ∧ ∃ a, ps' u = .ref a ∧ a ≠ b ∧ (H a = some (.lst (xs u)) ∨ H a = some (.tup (xs u)))) :
    Zq K H0 (upd H q (.lst [ev', wi', ps' .tel, ps' .gap, ps' .sur, ps' .cla])) b c q sp ja js e w ev' wi' ps' xs := by
  have ch : Ch q H (upd H q (.lst [ev', wi', ps' .tel, ps' .gap, ps' .sur, ps' .cla])) := ch_upd Z.hq
  have go : ∀ u, isSeq H (ps' u) = true → isSeq H (ps u) = true ∧ ∃ a, ps' u = .ref a ∧ a ≠ b ∧ (H a = some (.lst (xs u)) ∨ H a = some (.tup (xs u))) := fun u hu => by
    rcases old u with h | h | h
    · rw [h] at hu ⊢; exact ⟨hu, Z.sq u hu⟩
    · rw [h] at hu; cases hu
    · exact h
  exact ⟨Z.b0, bagMu Z.bag (Z.b0.ne Z.q0) (bagNc Z.b0 Z.q0), Z.kp.mut Z.q0, Z.q0, Z.s0, Z.j0, upd_same, by rw [upd_ne Z.qs]; exact Z.hs, fun u => by rw [upd_ne (Z.qj u)]; exact Z.hj u, Z.qs, Z.qj, e9, w9, ch.th te, ch.th tw, fun u => ch.th (tp u), nq, fun u hu => by
    rw [ch.sq (tp u)] at hu
    obtain ⟨_, a, ea, nb, h⟩ := go u hu
    have na : a ≠ q := fun z => nq u (by rw [ea, z])
    exact ⟨a, ea, nb, by rw [upd_ne na]; exact h⟩, fun u hu => by
    rw [ch.sq (tp u)] at hu
    obtain ⟨a1, a2, a3⟩ := Z.it u (go u hu).1
    exact ⟨a1, a2, fun i x hx => ch.item (a3 i x hx)⟩, Z.jr⟩
theorem Zq.six (Z : Zq K H0 H b c q sp ja js e w ev wi ps xs) : Six K H ev wi ps xs := ⟨Z.te, Z.tw, Z.tp, fun u hu => by
  obtain ⟨a, ea, _, h⟩ := Z.sq u hu
  obtain ⟨_, _, a3⟩ := Z.it u hu
  exact ⟨a, ea, h, fun x hx => by
    obtain ⟨k, hk⟩ := List.getElem?_of_mem hx
    exact (a3 k x hk).1⟩⟩
theorem Zq.fb (Z : Zq K H0 H b c q sp ja js e w ev wi ps xs) (e3 : 3 ≤ e) (w3 : 3 ≤ w) : ∃ fb : Pt → Option Nat, (∀ u, MinO (js u) (fb u)) ∧ (belowB ev 9 = true → belowB wi 9 = true → ∀ u, isSeq H (ps u) = true → Fb H u (xs u) (vI ev) (vI wi) (fb u)) := by
  have h : ∀ u, ∃ o, MinO (js u) o := fun u => min_ex _ (Z.jr u)
  refine ⟨fun u => (h u).choose, fun u => (h u).choose_spec, fun be bw u hu => ?_⟩
  rw [Z.e9 be, Z.w9 bw]
  obtain ⟨_, a2, a3⟩ := Z.it u hu
  exact fb_of e3 w3 a3 a2 (h u).choose_spec
theorem dr_init {a0 a1 a2 a3 : Addr} (hb0 : Bag H0 b c) (hb : Bag H b c) (kp : Kp b H0 H) (hq : H q = some (.lst [.int e, .int w])) (hs : H sp = some (.lst [.ref a0, .ref a1, .ref a2, .ref a3]))
    (h0 : H a0 = some (.lst [])) (h1 : H a1 = some (.lst [])) (h2 : H a2 = some (.lst [])) (h3 : H a3 = some (.lst [])) (q0 : H0 q = none) (s0 : H0 sp = none) (f0 : H0 a0 = none) (f1 : H0 a1 = none) (f2 : H0 a2 = none) (f3 : H0 a3 = none)
    (n01 : a0 ≠ a1) (n02 : a0 ≠ a2) (n03 : a0 ≠ a3) (n12 : a1 ≠ a2) (n13 : a1 ≠ a3) (n23 : a2 ≠ a3) :
    ∃ ad, ad .q = q ∧ ad .sp = sp ∧ Dr K H0 H b c e w 0 ad (fun _ => []) (fun _ => []) := by
  have ne : ∀ {x y : Addr} {o o' : HO}, H x = some o → H y = some o' → o ≠ o' → x ≠ y := fun h h' n z => n (by rw [z, h'] at h; exact (Option.some.inj h).symm)
  let ad : Ky → Addr := fun x => match x with | .q => q | .sp => sp | .j .tel => a0 | .j .gap => a1 | .j .sur => a2 | .j .cla => a3 | .l _ => q
  have hj : ∀ u, H (ad (.j u)) = some (.lst []) := fun u => by cases u <;> assumption
  have fj : ∀ u, H0 (ad (.j u)) = none := fun u => by cases u <;> assumption
  have nqs : q ≠ sp := ne hq hs (fun z => nomatch z)
  have nqj : ∀ u, q ≠ ad (.j u) := fun u => ne hq (hj u) (fun z => nomatch z)
  have nsj : ∀ u, sp ≠ ad (.j u) := fun u => ne hs (hj u) (fun z => nomatch z)
  have njj : ∀ u v, u ≠ v → ad (.j u) ≠ ad (.j v) := fun u v n => by
    cases u <;> cases v <;> first | exact absurd rfl n | assumption | exact Ne.symm (by assumption)
  refine ⟨ad, rfl, rfl, ⟨hb0, hb, kp, fun x hx => ?_, fun x hx => ?_, fun x y hx hy n => ?_⟩, fun u h => absurd h (Nat.not_lt_zero _), fun _ _ => rfl, (fun _ _ h => nomatch h), fun u h => absurd h (Nat.not_lt_zero _)⟩
  · cases x with
    | q => exact hq
    | sp => exact hs
    | j u => exact hj u
    | l u => exact absurd hx (Nat.not_lt_zero _)
  · cases x with
    | q => exact q0
    | sp => exact s0
    | j u => exact fj u
    | l u => exact absurd hx (Nat.not_lt_zero _)
  · cases x with
    | l u => exact absurd hx (Nat.not_lt_zero _)
    | q => cases y with
      | l u => exact absurd hy (Nat.not_lt_zero _)
      | q => exact absurd rfl n
      | sp => exact nqs
      | j u => exact nqj u
    | sp => cases y with
      | l u => exact absurd hy (Nat.not_lt_zero _)
      | q => exact nqs.symm
      | sp => exact absurd rfl n
      | j u => exact nsj u
    | j v => cases y with
      | l u => exact absurd hy (Nat.not_lt_zero _)
      | q => exact (nqj v).symm
      | sp => exact (nsj v).symm
      | j u => exact njj v u fun z => n (by rw [z])
theorem Dr.zq {ad : Ky → Addr} (D : Dr K H0 H b c e w 4 ad xs js) : Zq K H0 H b c (ad .q) (ad .sp) (fun u => ad (.j u)) js e w (.int e) (.int w) (fun u => .ref (ad (.l u))) xs := by
  have lv : ∀ u, live 4 (.l u) := fun u => ix_lt u
  have L := D.ls
  exact ⟨L.b0, L.bag, L.kp, L.nw .q trivial, L.nw .sp trivial, fun u => L.nw (.j u) trivial, L.h .q trivial, L.h .sp trivial, fun u => L.h (.j u) trivial, L.inj .sp .q trivial trivial (fun z => nomatch z), fun u => L.inj (.j u) .q trivial trivial (fun z => nomatch z), fun _ => rfl, fun _ => rfl, .int _, .int _,
    fun u => .lst (L.h (.l u) (lv u)), fun u z => L.inj (.l u) .q (lv u) trivial (fun z => nomatch z) (V.ref.inj z), fun u _ => ⟨_, rfl, L.nb (lv u), .inl (L.h (.l u) (lv u))⟩, fun u _ => ⟨D.len u (ix_lt u), D.jr u, D.it u (ix_lt u)⟩, fun u j hj => (D.jr u j hj).1⟩
end
end EL

/- part Z14L -/
namespace EL
open PySem PySem.Spec PyProof.Rows L2
open PySem.W (Frag)
abbrev s_law : Stmt := top 44
abbrev N_law : List Str := ["_law_script", "_law_bag_here", "_law_trip", "_law_things", "_law_spoilt_here", "_law_part", "_law_many", "_law_k", "_law_at", "_law_place"]
theorem sc_law : FnScope N_law ["_law_script"] (defScope s_law) := ⟨rfl, rfl, rfl, by decide +kernel, rfl, by decide +kernel, by decide +kernel⟩
local macro_rules | `(tactic| walk_at "el1") => `(tactic| with_reducible first
  | refine a_sasg ?_ | refine a_sdrop ?_ | refine a_saugS ?_ | refine a_spar ?_ | refine a_seq ?_ | refine a_asg ?_ | refine a_drop ?_ | refine a_ret ?_ | refine a_if ?_ | refine a_next ?_
  | refine a_op ?_ | refine a_cons ?_ | refine a_nil ?_ | refine a_cb ?_ | refine a_call ?_ | refine a_c ?_ | refine a_gn ?_ | refine a_nx ?_ | refine a_rt ?_ | refine a_un ?_
  | refine a_test ?_ | refine a_B ?_ | refine a_bl ?_ | refine a_and ?_ | refine a_or ?_ | refine a_not ?_ | refine a_andV ?_ | refine a_orV ?_ | refine a_notV ?_ | refine a_ifx ?_ | refine a_chain ?_
  | refine a_nT ?_ | refine a_nF ?_ | refine a_fld ?_ | refine a_getF ?_ | refine a_T ?_ | refine a_F ?_ | refine a_tup ?_ | refine a_lst ?_ | refine a_sub ?_ | refine a_augS ?_ | refine a_two ?_ | refine a_I0 ?_ | refine a_U ?_ | refine n_add ?_ | refine n_int ?_ | refine n_ib ?_ | refine a_ip ?_ | refine a_rng1 ?_ | refine a_rng2 ?_ | refine a_bm ?_ | refine a_abs ?_ | refine a_pairs ?_ | refine a_pairs0 ?_ | refine a_bk ?_ | refine a_prp ?_ | refine a_lc ?_ | refine a_yes ?_ | refine a_sl ?_ | refine a_nop ?_ | refine a_prt ?_ | refine a_ex1 ?_ | refine a_for ?_ | refine a_sfor ?_ | refine a_iE1 ?_ | refine a_iEs ?_ | refine a_iEz ?_ | refine a_iEnum ?_ | refine a_iTup ?_ | refine a_iList ?_ | refine a_gcons ?_ | refine a_gnil ?_ | refine a_revT ?_ | refine a_spar3 ?_ | refine a_par3 ?_ | refine a_three ?_)
local macro_rules | `(tactic| walk_at "el2") => `(tactic| first
  | (refine a_var (by rfl) ?_)
  | (refine n_ixL (SqL.of (by assumption)) (by rfl) ?_) | (refine n_ixT (SqT.of (by assumption)) (by rfl) ?_) | (refine n_eq (by rfl) ?_) | (refine n_ne (by rfl) ?_)
  | (refine n_isN ?_) | (refine n_notN ?_) | (refine n_isB ?_) | (refine n_notB ?_) | (refine n_isBI ?_) | (refine n_notBI ?_) | (refine n_len (.inl (SqL.of (by assumption))) ?_) | (refine n_len (.inr (SqT.of (by assumption))) ?_)
  | (refine a_getL (SqL.of (by assumption)) (by rfl) ?_)
  | (refine n_isInt (by assumption) ?_) | (refine n_isBool (by assumption) ?_) | (refine n_isStr (by assumption) ?_) | (refine n_isTup (by assumption) ?_) | (refine n_isLst (by assumption) ?_))
local macro_rules | `(tactic| walk_at "el") => `(tactic| repeat (first | walk_at "el1" | walk_at "el2"))

theorem kit_self {K : Frag} (t : Value) (h : (t == t) = true := by simp) : PySem.W.kitOne K t t = some true := by unfold PySem.W.kitOne; rw [if_pos h]
theorem kit_ref {K : Frag} {C D : Addr} {r : Bool} (n : C ≠ D) (c : PySem.W.isClsIn K D = true) (ht : PySem.W.typeIn K (.ref D) = some (.type "type")) (h : PySem.W.subIn K (.ref C) (.ref D) = some r) : PySem.W.kitOne K (.ref C) (.ref D) = some r := by
  have c1 : (PySem.W.clsIn K D).isSome = true := c
  unfold PySem.W.kitOne
  rw [if_neg (by simpa using n)]
  show (if ((PySem.W.clsIn K D).isSome && PySem.W.typeIn K (.ref D) == some (.type "type")) = true then PySem.W.subIn K (.ref C) (.ref D) else none) = _
  rw [c1, ht, if_pos (by simp)]
  exact h
theorem exm_of {K : Frag} {N E : Addr} (he : PySem.W.subIn K (.ref E) (.type "BaseException") = some true) (hc : PySem.W.isClsIn K E = true) (ht : PySem.W.typeIn K (.ref E) = some (.type "type")) (hs : PySem.W.subIn K (.ref N) (.ref E) = some true) : PySem.W.exmOne K (.ref N) (.ref E) = some true := by
  have c1 : (PySem.W.clsIn K E).isSome = true := hc
  unfold PySem.W.exmOne
  rw [he, if_pos (by simp)]
  show (if ((PySem.W.clsIn K E).isSome && PySem.W.typeIn K (.ref E) == some (.type "type")) = true then PySem.W.subIn K (.ref N) (.ref E) else none) = _
  rw [c1, ht, if_pos (by simp)]
  exact hs
theorem ne_of {H : Hp} {a b : Addr} {o : HO} (h : H a = some o) (h' : H b = none) : a ≠ b := fun z => by rw [z, h'] at h; cases h
/-- a drawn part, while it is drawn -/
structure Gd (K : Frag) (H6 H : Hp) (b c D : Addr) (u : Pt) (e w : Int) (j : Nat) (ys : List V) : Prop where
  bag : Bag H b c
  kp : Kp b H6 H
  d : H D = some (.lst ys)
  len : ys.length = j
  it : ∀ x ∈ ys, Item3 K H u e w False x
theorem Gd.add {K : Frag} {H6 H H' : Hp} {b c D a : Addr} {u : Pt} {e w : Int} {j : Nat} {ys : List V} {m : Itm} (G : Gd K H6 H b c D u e w j ys) (D6 : H6 D = none) (nb : D ≠ b) (nc : D ≠ c) (mp : m.pt = u) (mo : m.Ok 3 3) (ha : H' a = some (.tup m.enc)) (hb : Bag H' b c) (k : Kp b H H') : Gd K H6 (upd H' D (.lst (ys ++ [.ref a]))) b c D u e w (j + 1) (ys ++ [.ref a]) := by
  have ch := ch_bag G.bag hb k
  have ch2 : Ch D H' (upd H' D (.lst (ys ++ [.ref a]))) := ch_upd (k _ _ nb G.d)
  refine ⟨bagMu hb nb nc, (G.kp.trans k).mut D6, upd_same, by rw [List.length_append, G.len]; rfl, all_app (fun x hx => ch2.item (ch.item (G.it x hx))) (all_cons ?_ all_nil)⟩
  exact ch2.item ⟨thd_tup ha fun y hy => m.th y hy, fun z => z.elim, fun _ => ⟨a, m, rfl, mp, mo, ha⟩⟩
section
variable {P : Program} {w : World} {K : Frag} {mg : Str → Option Value} {base : Heap} {f : Addr} {fd : FuncData} {C : Addr} {D0 : BookD}
theorem ok_law (F : Fun K "law" "law" s_law f fd) (T : Tb mg) (c_bag : Cal P w K mg base CX0 1 "_law_bag" ["_law_script"] (spBag K)) (c_take : Cal P w K mg base CX0 1 "_law_take" ["_law_bag_here", "_law_many"] spTake) (c_one : Cal P w K mg base CX0 2 "_law_one" ["_law_bag_here", "_law_menu"] (spOne K))
    (c_good : Cal P w K mg base CX0 3 "_law_good" ["_law_bag_here", "_law_part"] spGood) (c_spoilt : Cal P w K mg base CX0 10 "_law_spoilt" ["_law_bag_here", "_law_part", "_law_item", "_law_events", "_law_witnesses"] (spSpoilt K)) (c_heard : Cal P w K mg base CX0 9 "_law_heard" ["_law_things"] (spHeardY K)) (c_due : Cal P w K mg base CX0 1 "_law_due" ["_law_things", "_law_spoilt_here"] (spDueY K))
    (c_deep_right : Cal P w K mg base CX0 10 "_law_deep_right" [] spDeep) (c_Book : BookG P w K mg base C D0) :
    FnG P w K mg base CX0 12 f fd ["_law_script"] (spLaw K) := by
  refine fnG_of F sc_law (fun vs H Q E h => ?_) (fun cdv A outer s H vs Q E hr hq h => ?_)
  · obtain ⟨_, _, rfl, _⟩ := h
    rfl
  · obtain ⟨a, ns, rfl, ha, k⟩ := h
    refine ⟨_, PSs.nox (pss_cons (ps_set (i := 1) sc_law.nd rfl (Or.inr rfl) (pe_cal c_bag (hr.mono (by decide)) pass0 (pa_cons (pv 0) pa_nil)))
  (pss_cons (ps_for PassesOwn.never rfl (pi_range1 rfl T.b.range_ (pa_cons pe_int pa_nil)) (pg_name (i := 2) sc_law.nd rfl (Or.inl rfl))
    (pss_cons (ps_par (i := 3) (j := 4) rfl sc_law.nd rfl rfl (by decide) rfl rfl (pa_cons (pe_callTy u_list rfl T.b.list_ (by decide +kernel) (pa_cons (pe_cal c_one (hr.mono (by decide)) pass0 (pa_cons (pv 1) (pa_cons (pe_lst (pa_cons (pe_tup (pa_cons pe_int (pa_cons pe_int pa_nil))) (pa_cons (pe_tup (pa_cons pe_int (pa_cons pe_int pa_nil))) (pa_cons (pe_tup (pa_cons pe_int (pa_cons pe_int pa_nil))) pa_nil)))) pa_nil))) pa_nil)) (pa_cons (pe_lst (pa_cons (pe_lst pa_nil) (pa_cons (pe_lst pa_nil) (pa_cons (pe_lst pa_nil) (pa_cons (pe_lst pa_nil) pa_nil))))) pa_nil)) (by with_unfolding_all rfl))
  (pss_cons (ps_for PassesOwn.never rfl (pi_range1 rfl T.b.range_ (pa_cons pe_int pa_nil)) (pg_name (i := 5) sc_law.nd rfl (Or.inr rfl))
    (pss_cons (ps_set (i := 6) sc_law.nd rfl (Or.inl rfl) (pe_ix ix_seq (pe_lst (pa_cons pe_int (pa_cons pe_int (pa_cons pe_int (pa_cons pe_int (pa_cons pe_int (pa_cons pe_int (pa_cons pe_int pa_nil)))))))) (pe_cal c_take (hr.mono (by decide)) pass0 (pa_cons (pv 1) (pa_cons pe_int pa_nil))) (fun _ _ => rfl)))
  (pss_cons (ps_expr (pe_bm PySem.F.plainAttrs_list PySem.F.slot_list_append PySem.F.type_list_append mt_append (pv 3) (pa_cons (pe_lc (own := [("_law_k", 7)]) rfl sc_law.nd (pi_range1 rfl T.b.range_ (pa_cons (pv 6) pa_nil)) (blkOk_by (own := [("_law_k", 7)]) (N := N_law) (sc := defScope s_law) (by decide +kernel)) (fun _ _ _ _ _ => (pg_name (i := 7) sc_law.nd rfl (Or.inl rfl))) (fun _ _ _ _ _ => pts_nil) (fun _ _ _ _ _ => (pe_cal c_good (hr.mono (by decide)) pass0 (pa_cons (pv 1) (pa_cons (pv 5) pa_nil))))) pa_nil)))
  (pss_one (ps_for PassesOwn.never rfl (pi_range1 rfl T.b.range_ (pa_cons (pe_op u_mul (pe_op u_mul (pe_cal c_take (hr.mono (by decide)) pass0 (pa_cons (pv 1) (pa_cons pe_int pa_nil))) (pe_callTy u_int rfl T.b.int_ (by decide +kernel) (pa_cons (pe_cmpR op_gt (pv 6) pe_int (nomark _)) pa_nil))) (pe_callTy u_int rfl T.b.int_ (by decide +kernel) (pa_cons (pe_cmpR (u_eq hr.units) (pe_cal c_take (hr.mono (by decide)) pass0 (pa_cons (pv 1) (pa_cons pe_int pa_nil))) pe_int (nomark _)) pa_nil))) pa_nil)) (pg_name (i := 7) sc_law.nd rfl (Or.inl rfl))
    (pss_cons (ps_set (i := 8) sc_law.nd rfl (Or.inl rfl) (pe_cal c_take (hr.mono (by decide)) pass0 (pa_cons (pv 1) (pa_cons (pv 6) pa_nil))))
  (pss_one (ps_if (pt_cmpR u_notin (pv 8) (pe_ix ix_seq (pv 4) (pv 5) (fun _ _ => rfl)) rfl)
    (pss_cons (ps_asg (pe_cal c_spoilt (hr.mono (by decide)) pass0 (pa_cons (pv 1) (pa_cons (pv 5) (pa_cons (pe_ix ix_seq (pe_ix ix_seq (pv 3) (pe_op u_add (pv 5) pe_int) (fun _ _ => rfl)) (pv 8) (fun _ _ => rfl)) (pa_cons (pe_ix ix_seq (pv 3) pe_int (fun _ _ => rfl)) (pa_cons (pe_ix ix_seq (pv 3) pe_int (fun _ _ => rfl)) pa_nil)))))) (pg_sub (pe_ix ix_seq (pv 3) (pe_op u_add (pv 5) pe_int) (fun _ _ => rfl)) (pv 8) set_list))
  (pss_one (ps_expr (pe_bm PySem.F.plainAttrs_list PySem.F.slot_list_append PySem.F.type_list_append mt_append (pe_ix ix_seq (pv 4) (pv 5) (fun _ _ => rfl)) (pa_cons (pv 8) pa_nil)))))
    pss_nil))))))))
  (pss_cons (ps_for PassesOwn.never rfl (pi_range1 rfl T.b.range_ (pa_cons pe_int pa_nil)) (pg_name (i := 5) sc_law.nd rfl (Or.inr rfl))
    (pss_one (ps_if (pt_cmpR (u_eq hr.units) (pe_cal c_take (hr.mono (by decide)) pass0 (pa_cons (pv 1) (pa_cons pe_int pa_nil))) pe_int (nomark _))
    (pss_one (ps_asg (pe_callTy u_tuple rfl T.b.tuple_ (by decide +kernel) (pa_cons (pe_ix ix_seq (pv 3) (pe_op u_add (pv 5) pe_int) (fun _ _ => rfl)) pa_nil)) (pg_sub (pv 3) (pe_op u_add (pv 5) pe_int) set_list)))
    pss_nil)))
  (pss_cons (ps_for PassesOwn.never rfl (pi_range1 rfl T.b.range_ (pa_cons (pe_op u_mul (pe_cal c_take (hr.mono (by decide)) pass0 (pa_cons (pv 1) (pa_cons pe_int pa_nil))) (pe_callTy u_int rfl T.b.int_ (by decide +kernel) (pa_cons (pe_cmpR (u_eq hr.units) (pe_cal c_take (hr.mono (by decide)) pass0 (pa_cons (pv 1) (pa_cons pe_int pa_nil))) pe_int (nomark _)) pa_nil))) pa_nil)) (pg_name (i := 7) sc_law.nd rfl (Or.inl rfl))
    (pss_cons (ps_set (i := 9) sc_law.nd rfl (Or.inl rfl) (pe_cal c_take (hr.mono (by decide)) pass0 (pa_cons (pv 1) (pa_cons pe_int pa_nil))))
  (pss_one (ps_if (pt_cmpR op_lt (pv 9) pe_int (nomark _))
    (pss_one (ps_asg (pe_cal c_one (hr.mono (by decide)) pass0 (pa_cons (pv 1) (pa_cons (pe_lst (pa_cons (pe_un un_neg pe_int) (pa_cons pe_int (pa_cons pe_bl (pa_cons pe_bl (pa_cons pe_non (pa_cons pe_str (pa_cons (pe_tup (pa_cons pe_int pa_nil)) (pa_cons (pe_op op_pow pe_int pe_int) (pa_cons (pe_bk2 c_Book (hr.mono (by decide)) rfl (pa_cons pe_int (pa_cons pe_int pa_nil))) (pa_cons (pe_lst pa_nil) (pa_cons pe_dnewK pa_nil)))))))))))) pa_nil))) (pg_sub (pv 3) (pv 9) set_list)))
    (pss_one (ps_asg (pe_cal c_one (hr.mono (by decide)) pass0 (pa_cons (pv 1) (pa_cons (pe_lst (pa_cons pe_non (pa_cons pe_int (pa_cons pe_str (pa_cons pe_dnewK (pa_cons (pe_disp1T (room1 hr) (pe_tup (pa_cons pe_int (pa_cons pe_int (pa_cons pe_int pa_nil)))) pe_int) (pa_cons pe_bl (pa_cons (pe_bk2 c_Book (hr.mono (by decide)) rfl (pa_cons pe_int (pa_cons pe_int pa_nil))) pa_nil)))))))) pa_nil))) (pg_sub (pv 3) (pv 9) set_list)))))))
  (pss_one (ps_if (pt_cmpR (u_ne hr.units) (pe_cal c_heard (hr.mono (by decide)) pass0 (pa_cons (pv 3) pa_nil)) (pe_cal c_due (hr.mono (by decide)) pass0 (pa_cons (pv 3) (pa_cons (pv 4) pa_nil))) (nomark _))
    (pss_one (ps_ret pe_bl))
    pss_nil)))))))
  (pss_cons (ps_if (PW.pt (pw_or (pt_cmpR (u_ne hr.units) (pe_cal c_heard (hr.mono (by decide)) pass0 (pa_cons (pe_lst (pa_cons pe_int (pa_cons pe_int (pa_cons (pe_lst pa_nil) (pa_cons (pe_lst pa_nil) (pa_cons (pe_lst pa_nil) (pa_cons (pe_lst pa_nil) pa_nil))))))) pa_nil)) (pe_tup (pa_cons pe_str (pa_cons pe_bl pa_nil))) (nomark _)) (pw_or1 (pt_not (pt_val (pe_cal0 c_deep_right (hr.mono (by decide)) pass0))))))
    (pss_one (ps_ret pe_bl))
    pss_nil)
  (pss_one (ps_ret (pe_cmpR (u_eq hr.units) (pe_cal c_heard (hr.mono (by decide)) pass0 (pa_cons (pe_lst (pa_cons pe_int (pa_cons pe_int (pa_cons (pe_lst (pa_cons (pe_tup (pa_cons pe_int (pa_cons pe_int (pa_cons pe_int pa_nil)))) pa_nil)) (pa_cons (pe_lst pa_nil) (pa_cons (pe_lst pa_nil) (pa_cons (pe_lst pa_nil) pa_nil))))))) pa_nil)) (pe_tup (pa_cons pe_str (pa_cons pe_int (pa_cons pe_int pa_nil)))) (nomark _))))))), ?_⟩
    walk_at "el"
    refine ⟨a, ns, rfl, ha, fun b c H1 hb0 hc0 hb1 s1 => ?_⟩
    walk_at "el"
    refine ⟨by decide, by decide, ?_⟩
    refine lp_range (fun i σ H2 => Bag H2 b c ∧ ∃ v2 v3 v4 v5 v6 v7 v8 v9, σ = [some (.ref a), some (.ref b), v2, v3, v4, v5, v6, v7, v8, v9]) ⟨hb1, _, _, _, _, _, _, _, _, rfl⟩ ?_ ?_
    · clear hb0 hc0 hb1 s1 ha
      rintro t σ H0 ht ⟨hb0, v2, v3, v4, v5, v6, v7, v8, v9, rfl⟩
      walk_at "el"
      refine ⟨by show 2 ≤ sizeLine; decide, fun m1 hm1 => ?_⟩
      have e1 := nw_of hm1 (.tup [.int 3, .int 3])
      have g1 := upd_at hm1 (.tup [.int 3, .int 3])
      walk_at "el"
      refine ⟨by show 2 ≤ sizeLine; decide, fun m2 hm2 => ?_⟩
      have e2 := nw_of hm2 (.tup [.int 4, .int 3])
      have g2 := upd_at hm2 (.tup [.int 4, .int 3])
      walk_at "el"
      refine ⟨by show 2 ≤ sizeLine; decide, fun m3 hm3 => ?_⟩
      have e3 := nw_of hm3 (.tup [.int 3, .int 5])
      have g3 := upd_at hm3 (.tup [.int 3, .int 5])
      walk_at "el"
      refine ⟨by show 3 ≤ sizeLine; decide, fun m4 hm4 => ?_⟩
      have e4 := nw_of hm4 (.lst [.ref m1, .ref m2, .ref m3])
      have g4 := upd_at hm4 (.lst [.ref m1, .ref m2, .ref m3])
      have g1 := e4 _ _ (e3 _ _ (e2 _ _ g1))
      have g2 := e4 _ _ (e3 _ _ g2)
      have g3 := e4 _ _ g3
      have s4 : Same H0 _ := ((e1.trans e2).trans e3).trans e4
      have n4 := (hb0.same ((e1.trans e2).trans e3)).ne hm4
      generalize upd (upd (upd (upd H0 m1 (.tup [.int 3, .int 3])) m2 (.tup [.int 4, .int 3])) m3 (.tup [.int 3, .int 5])) m4 (.lst [.ref m1, .ref m2, .ref m3]) = H4 at g1 g2 g3 g4 s4 ⊢
      clear e1 e2 e3 e4 hm1 hm2 hm3 hm4
      have hb4 := hb0.same s4
      walk_at "el"
      refine ⟨b, c, m4, _, rfl, hb4, n4, .inl g4, by show 0 < 3; decide, by show 3 ≤ 1000000000; decide, fun y H5 hy hb5 k5 => ?_⟩
      obtain ⟨p, e, wi, rfl, hp5, ev3, ev8, wi3, wi8⟩ : ∃ (p : Addr) (e wi : Int), y = .ref p ∧ H5 p = some (.tup [.int e, .int wi]) ∧ 3 ≤ e ∧ e ≤ 8 ∧ 3 ≤ wi ∧ wi ≤ 8 := by
        have d1 := k5 _ _ (hb4.neT g1) g1
        have d2 := k5 _ _ (hb4.neT g2) g2
        have d3 := k5 _ _ (hb4.neT g3) g3
        revert y
        exact all_cons ⟨_, _, _, rfl, d1, by decide, by decide, by decide, by decide⟩ (all_cons ⟨_, _, _, rfl, d2, by decide, by decide, by decide, by decide⟩ (all_cons ⟨_, _, _, rfl, d3, by decide, by decide, by decide, by decide⟩ all_nil))
      have k05 : Kp b H0 H5 := Kp.into k5 s4
      clear k5 hb4 s4 n4 g1 g2 g3 g4 hy
      walk_at "el"
      refine ⟨p, _, rfl, .inr (SqT.of hp5), fun q hq5 => ?_⟩
      have e5 := nw_of hq5 (.lst [.int e, .int wi])
      have hq6 := upd_at hq5 (.lst [.int e, .int wi])
      have q0 := k05.free hq5 (hb5.ne hq5)
      walk_at "el"
      refine ⟨by show 0 ≤ sizeLine; decide, fun a0 f0 => ?_⟩
      have e6 := nw_of f0 (.lst [])
      have g0 := upd_at f0 (.lst [])
      walk_at "el"
      refine ⟨by show 0 ≤ sizeLine; decide, fun a1 f1 => ?_⟩
      have e7 := nw_of f1 (.lst [])
      have g1 := upd_at f1 (.lst [])
      have n01 := ne_of g0 f1
      have g0 := e7 _ _ g0
      walk_at "el"
      refine ⟨by show 0 ≤ sizeLine; decide, fun a2 f2 => ?_⟩
      have e8 := nw_of f2 (.lst [])
      have g2 := upd_at f2 (.lst [])
      have n02 := ne_of g0 f2
      have n12 := ne_of g1 f2
      have g0 := e8 _ _ g0
      have g1 := e8 _ _ g1
      walk_at "el"
      refine ⟨by show 0 ≤ sizeLine; decide, fun a3 f3 => ?_⟩
      have e9 := nw_of f3 (.lst [])
      have g3 := upd_at f3 (.lst [])
      have n03 := ne_of g0 f3
      have n13 := ne_of g1 f3
      have n23 := ne_of g2 f3
      have g0 := e9 _ _ g0
      have g1 := e9 _ _ g1
      have g2 := e9 _ _ g2
      walk_at "el"
      refine ⟨by show 4 ≤ sizeLine; decide, fun sp fs => ?_⟩
      have e10 := nw_of fs (.lst [.ref a0, .ref a1, .ref a2, .ref a3])
      have gs := upd_at fs (.lst [.ref a0, .ref a1, .ref a2, .ref a3])
      have hq10 := (((((e6.trans e7).trans e8).trans e9).trans e10) _ _ hq6)
      have kz : ∀ {H' : Hp}, Same H5 H' → Kp b H0 H' := fun s => Kp.trans k05 (same_kp s)
      have fr : ∀ {H' : Hp} {x : Addr}, Same H5 H' → H' x = none → H0 x = none := fun s hx => (kz s).free hx ((hb5.same s).ne hx)
      have z0 := fr e5 f0
      have z1 := fr (e5.trans e6) f1
      have z2 := fr ((e5.trans e6).trans e7) f2
      have z3 := fr (((e5.trans e6).trans e7).trans e8) f3
      have zs := fr ((((e5.trans e6).trans e7).trans e8).trans e9) fs
      have s10 := ((((e5.trans e6).trans e7).trans e8).trans e9).trans e10
      obtain ⟨ad, adq, ads, Dr0⟩ := dr_init (K := K) hb0 (hb5.same s10) (kz s10) hq10 gs (e10 _ _ g0) (e10 _ _ g1) (e10 _ _ g2) (e10 _ _ g3) q0 zs z0 z1 z2 z3 n01 n02 n03 n12 n13 n23
      generalize upd (upd (upd (upd (upd (upd H5 q (.lst [.int e, .int wi])) a0 (.lst [])) a1 (.lst [])) a2 (.lst [])) a3 (.lst [])) sp (.lst [.ref a0, .ref a1, .ref a2, .ref a3]) = H10 at Dr0 ⊢
      clear e5 e6 e7 e8 e9 e10 hq5 hq6 q0 f0 f1 f2 f3 fs g0 g1 g2 g3 gs n01 n02 n03 n12 n13 n23 hq10 kz fr z0 z1 z2 z3 zs s10 hp5 hb5 k05
      walk_at "el"
      refine ⟨by decide, by decide, ?_⟩
      refine lp_range (fun i σ H => ∃ ad xs js v5 v6 v7 v8 v9, ad .q = q ∧ ad .sp = sp ∧ Dr K H0 H b c e wi i ad xs js ∧ σ = [some (.ref a), some (.ref b), some (.int (0 + (t : Int))), some (.ref q), some (.ref sp), v5, v6, v7, v8, v9]) ⟨ad, _, _, _, _, _, _, _, adq, ads, Dr0, rfl⟩ ?_ ?_
      · clear Dr0 adq ads ad v5 v6 v7 v8 v9
        rintro i σ H hi ⟨ad, xs, js, v5, v6, v7, v8, v9, adq, ads, D, rfl⟩
        obtain ⟨u, hu⟩ := ix_of hi
        walk_at "el"
        refine ⟨by show 7 ≤ sizeLine; decide, fun m hm => ?_⟩
        have e5 := nw_of hm (.lst [.int 0, .int 1, .int 3, .int 2, .int 24, .int 25, .int 26])
        have g5 := upd_at hm (.lst [.int 0, .int 1, .int 3, .int 2, .int 24, .int 25, .int 26])
        have D5 := D.same e5
        have nm := D.ls.bag.ne hm
        generalize upd H m (.lst [.int 0, .int 1, .int 3, .int 2, .int 24, .int 25, .int 26]) = H5 at g5 D5 ⊢
        clear e5 hm D
        walk_at "el"
        refine ⟨b, c, 7, rfl, D5.ls.bag, by decide, by decide, fun r H6 r0 r1 hb6 k6 => ?_⟩
        have D6 := D5.to hb6 k6
        have g6 := k6 _ _ nm g5
        obtain ⟨n, hn, n26⟩ : ∃ n : Nat, atI [V.int 0, .int 1, .int 3, .int 2, .int 24, .int 25, .int 26] r = some (.int n) ∧ n ≤ 26 := by
          have h : r = 0 ∨ r = 1 ∨ r = 2 ∨ r = 3 ∨ r = 4 ∨ r = 5 ∨ r = 6 := by omega
          rcases h with rfl | rfl | rfl | rfl | rfl | rfl | rfl
          · exact ⟨0, rfl, by decide⟩
          · exact ⟨1, rfl, by decide⟩
          · exact ⟨3, rfl, by decide⟩
          · exact ⟨2, rfl, by decide⟩
          · exact ⟨24, rfl, by decide⟩
          · exact ⟨25, rfl, by decide⟩
          · exact ⟨26, rfl, by decide⟩
        clear D5 g5 k6
        walk_at "el"
        refine n_ixL (SqL.of g6) hn ?_
        clear g6 hn nm
        walk_at "el"
        subst adq ads
        refine ⟨.inl ⟨rfl, _, SqL.of (D6.ls.h .q trivial)⟩, ?_⟩
        walk_at "el"
        refine ⟨by omega, by omega, fun D1 hD1 => ?_⟩
        have e7 := nw_of hD1 (.lst [])
        have nb1 := hb6.ne hD1
        have nc1 := bagNc hb6 hD1
        refine lc_of (walk_range (lo := 0) (n := n)) (fun j H7 => ∃ ys, Gd K H6 H7 b c D1 u e wi j ys) ⟨[], hb6.same e7, same_kp e7, upd_same, rfl, all_nil⟩ (fun _ _ _ _ => trivial) ?_ ?_
        · rintro j x H7 H8 hj ⟨ys, G⟩ ⟨rfl, rfl⟩
          walk_at "el"
          refine ⟨rfl, ?_⟩
          walk_at "el"
          refine ⟨b, c, u, by rw [pNo_ix, hu, Int.zero_add], G.bag, fun q mm H9 mp mo hq9 hb9 k9 => ?_⟩
          exact ⟨ys, k9 _ _ nb1 G.d, by rw [G.len]; exact Nat.lt_of_lt_of_le (m := 26) (by omega) (by decide), _, G.add hD1 nb1 nc1 mp mo hq9 hb9 k9⟩
        · rintro H7 ⟨ys, G⟩
          have D7 := D6.to G.bag G.kp
          obtain ⟨ad', eq1, eq2, D8⟩ := D7.add hu G.d (D6.ls.kp.free hD1 nb1) (fun y hy => ne_of (D6.ls.h y hy) hD1) (by rw [G.len]; exact n26) G.it
          have ln : (setP xs u ys u).length = n := by rw [setP_at]; exact G.len
          have ju : (js u).length ≤ 0 := by rw [D7.jn u (by omega)]; exact Nat.le_refl 0
          walk_at "el"
          refine ⟨_, _, _, rfl, rfl, D7.ls.h .q trivial, by
            show ((pAt.take i).map _).length + 1 + 1 < sizeLine
            rw [List.length_map, List.length_take]
            exact Nat.lt_of_le_of_lt (m := 6) (by have : pAt.length = 4 := rfl; omega) (by decide), ?_⟩
          generalize upd H7 (ad .q) (.lst (cts e wi ad i xs js .q ++ [.ref D1])) = H8 at D8 ⊢
          rw [← eq1, ← eq2]
          clear eq1 eq2 D7 G D6 hD1 e7 nb1 nc1
          generalize setP xs u ys = xs at D8 ln ⊢
          generalize ad' = ad at D8 ⊢
          clear hb6
          walk_at "el"
          refine ⟨b, c, 3, rfl, D8.ls.bag, by decide, by decide, fun r1 H9 r10 r13 hb9 k9 => ?_⟩
          have D9 := D8.to hb9 k9
          clear D8 hb9 k9
          walk_at "el"
          refine n_mul (.inl ⟨by omega, by omega⟩) ?_
          walk_at "el"
          refine ⟨b, c, 3, rfl, D9.ls.bag, by decide, by decide, fun r2 H10 r20 r23 hb10 k10 => ?_⟩
          have D10 := D9.to hb10 k10
          clear D9 hb10 k10
          walk_at "el"
          refine n_mul (.inl ?_) ?_
          · split <;> omega
          walk_at "el"
          obtain ⟨C0, C2, Cn⟩ : 0 ≤ r1 * (if decide ((0 : Int) < n) = true then 1 else 0) * (if decide (V.int r2 = V.int 0) = true then 1 else 0) ∧ r1 * (if decide ((0 : Int) < n) = true then 1 else 0) * (if decide (V.int r2 = V.int 0) = true then 1 else 0) ≤ 2 ∧ (0 < r1 * (if decide ((0 : Int) < n) = true then 1 else 0) * (if decide (V.int r2 = V.int 0) = true then 1 else 0) → 0 < n) := by
            by_cases h1 : (0 : Int) < n
            · rw [if_pos (decide_eq_true h1)]
              split <;> exact ⟨by omega, by omega, fun _ => by omega⟩
            · rw [if_neg (fun z => h1 (of_decide_eq_true z)), Int.mul_zero, Int.zero_mul]
              exact ⟨by omega, by omega, fun z => by omega⟩
          generalize r1 * (if decide ((0 : Int) < n) = true then 1 else 0) * (if decide (V.int r2 = V.int 0) = true then 1 else 0) = cn at C0 C2 Cn ⊢
          refine ⟨by omega, by omega, ?_⟩
          refine lp_range (fun k σ H => ∃ xs js v7 v8 v9, Dr K H0 H b c e wi (i + 1) ad xs js ∧ (xs u).length = n ∧ (js u).length ≤ k ∧ σ = [some (.ref a), some (.ref b), some (.int (0 + (t : Int))), some (.ref (ad .q)), some (.ref (ad .sp)), some (.int (0 + (i : Int))), some (.int (n : Int)), v7, v8, v9]) ⟨xs, _, _, _, _, D10, ln, ju, rfl⟩ ?_ ?_
          · clear D10 ln ju v5 v6 v7 v8 v9
            rintro k σ H hk ⟨xs, js, v7, v8, v9, D, ln, ju, rfl⟩
            have n0 := Cn (by omega)
            walk_at "el"
            refine ⟨b, c, n, rfl, D.ls.bag, by omega, by omega, fun r3 H1 r30 r3n hb1 k1 => ?_⟩
            have D := D.to hb1 k1
            clear hb1 k1
            obtain ⟨m, rfl⟩ := Int.eq_ofNat_of_zero_le r30
            have mn : m < n := by omega
            have lu : live (i + 1) (.l u) := by show ix u < i + 1; omega
            have aj : ∀ {p : Addr → V}, atI [p (ad (.j .tel)), p (ad (.j .gap)), p (ad (.j .sur)), p (ad (.j .cla))] (0 + (i : Int)) = some (p (ad (.j u))) := fun {p} => by subst hu; cases u <;> rfl
            have al : atI (cts e wi ad (i + 1) xs js .q) (0 + (i : Int) + 2) = some (.ref (ad (.l u))) := by subst hu; cases u <;> rfl
            have al0 : atI (cts e wi ad (i + 1) xs js .q) 0 = some (.int e) := by subst hu; cases u <;> rfl
            have al1 : atI (cts e wi ad (i + 1) xs js .q) 1 = some (.int wi) := by subst hu; cases u <;> rfl
            walk_at "el"
            refine n_ixL (SqL.of (D.ls.h .sp trivial)) (aj (p := V.ref)) ?_
            refine n_notinA (.inl (D.ls.h (.j u) trivial)) ?_
            walk_at "el"
            refine ite2 (fun h => ?_) (fun h => ?_)
            · have nj : (m : Int) ∉ js u := by simpa using h
              clear h
              obtain ⟨x, hx⟩ : ∃ x, (xs u)[m]? = some x := ⟨(xs u)[m], List.getElem?_eq_getElem (by omega)⟩
              obtain ⟨it, mm, rfl, mp, mo, hit⟩ := (D.it u (by omega) m x hx).2.2 nj
              have ixm : ixN (xs u).length (m : Int) = some m := by unfold ixN; rw [if_pos (Int.natCast_nonneg m), if_pos (by omega)]; rfl
              have am : atI (xs u) (m : Int) = some (.ref it) := by unfold atI; rw [ixm]; exact hx
              walk_at "el"
              refine n_ixL (SqL.of (D.ls.h .q trivial)) al ?_
              walk_at "el"
              refine n_ixL (SqL.of (D.ls.h (.l u) lu)) am ?_
              walk_at "el"
              refine n_ixL (SqL.of (D.ls.h .q trivial)) al0 ?_
              walk_at "el"
              refine n_ixL (SqL.of (D.ls.h .q trivial)) al1 ?_
              walk_at "el"
              refine ⟨b, c, it, mm, e, wi, by rw [mp, pNo_ix, hu, Int.zero_add], D.ls.bag, hit, mo, ⟨ev3, ev8⟩, ⟨wi3, wi8⟩, fun y H2 ty no hb2 k2 => ?_⟩
              subst mp
              have D := D.to hb2 k2
              clear hb2 k2 hit
              walk_at "el"
              refine n_ixL (SqL.of (D.ls.h .q trivial)) al ?_
              walk_at "el"
              refine a_set (D.ls.h (.l mm.pt) lu) ixm ?_
              have Dn := D.spoil (u := mm.pt) (by omega) (by omega) nj ty no
              have nsl : ad .sp ≠ ad (.l mm.pt) := D.ls.inj _ _ trivial lu (fun z => nomatch z)
              have njl : ad (.j mm.pt) ≠ ad (.l mm.pt) := D.ls.inj _ _ trivial lu (fun z => nomatch z)
              have hs2 : upd H2 (ad (.l mm.pt)) (.lst ((xs mm.pt).set m y)) (ad .sp) = some (.lst (cts e wi ad (i + 1) xs js .sp)) := by rw [upd_ne nsl]; exact D.ls.h .sp trivial
              have hj2 : upd H2 (ad (.l mm.pt)) (.lst ((xs mm.pt).set m y)) (ad (.j mm.pt)) = some (.lst ((js mm.pt).map V.int)) := by rw [upd_ne njl]; exact D.ls.h (.j mm.pt) trivial
              walk_at "el"
              refine n_ixL (SqL.of hs2) (aj (p := V.ref)) ?_
              refine ⟨.inl ⟨rfl, _, SqL.of hj2⟩, ?_⟩
              walk_at "el"
              refine ⟨_, _, _, rfl, rfl, hj2, ?_, ?_⟩
              · rw [List.length_map]; exact Nat.lt_of_le_of_lt (m := 2) (by omega) (by decide)
              · walk_at "el"
                exact ⟨_, _, _, _, _, Dn, by rw [setP_at, List.length_set]; exact ln, by rw [if_pos rfl, List.length_append]; exact Nat.succ_le_succ ju, rfl⟩
            · walk_at "el"
              exact ⟨xs, js, _, _, _, D, ln, Nat.le_succ_of_le ju, rfl⟩
          · clear D10 ln ju v5 v6 v7 v8 v9
            rintro σ H ⟨xs, js, v7, v8, v9, D, ln, ju, rfl⟩
            exact ⟨ad, xs, js, _, _, _, _, _, rfl, rfl, D, rfl⟩
      · clear Dr0 adq ads ad v5 v6 v7 v8 v9
        rintro σ H ⟨ad, xs, js, v5, v6, v7, v8, v9, adq, ads, D, rfl⟩
        have Z := D.zq
        rw [adq, ads] at Z
        have jrest : ∀ v, ∃ l, V.ref (ad (.l v)) = .ref l ∧ H l = some (.lst (xs v)) ∧ l ≠ b := fun v => ⟨_, rfl, D.ls.h (.l v) (ix_lt v), D.ls.nb (x := .l v) (ix_lt v)⟩
        generalize (fun u => ad (.j u)) = ja at Z
        generalize hps : (fun u => V.ref (ad (.l u))) = ps at Z
        have jr : ∀ v, ∃ l, ps v = .ref l ∧ H l = some (.lst (xs v)) ∧ l ≠ b := by subst hps; exact jrest
        clear hps jrest D adq ads
        walk_at "el"
        refine ⟨by decide, by decide, ?_⟩
        refine lp_range (fun i σ H => ∃ ps v5 v6 v7 v8 v9, Zq K H0 H b c q sp ja js e wi (.int e) (.int wi) ps xs ∧ (∀ v, i ≤ ix v → ∃ l, ps v = .ref l ∧ H l = some (.lst (xs v)) ∧ l ≠ b) ∧ σ = [some (.ref a), some (.ref b), some (.int (0 + (t : Int))), some (.ref q), some (.ref sp), v5, v6, v7, v8, v9]) ⟨ps, _, _, _, _, _, Z, fun v _ => jr v, rfl⟩ ?_ ?_
        · clear Z jr ps v5 v6 v7 v8 v9
          rintro i σ H hi ⟨ps, v5, v6, v7, v8, v9, Z, jr, rfl⟩
          obtain ⟨u, hu⟩ := ix_of hi
          walk_at "el"
          refine ⟨b, c, 2, rfl, Z.bag, by decide, by decide, fun r H1 r0 r2 hb1 k1 => ?_⟩
          have jr1 : ∀ v, i ≤ ix v → ∃ l, ps v = .ref l ∧ H1 l = some (.lst (xs v)) ∧ l ≠ b := fun v hv => by
            obtain ⟨l, e1, e2, e3⟩ := jr v hv
            exact ⟨l, e1, k1 _ _ e3 e2, e3⟩
          have Z1 := Z.to hb1 k1
          clear Z jr hb1 k1
          walk_at "el"
          refine ite2 (fun h => ?_) (fun h => ?_)
          · obtain ⟨l, el, hl, lb⟩ := jr1 u (by omega)
            walk_at "el"
            refine n_ixL (SqL.of Z1.hq) (v := ps u) (by subst hu; cases u <;> rfl) ?_
            rw [el]
            walk_at "el"
            refine ⟨l, _, rfl, .inl ⟨SqL.of hl, fun x hx => ?_⟩⟩
            have e2 := nw_of hx (.tup (xs u))
            have g2 := upd_at hx (.tup (xs u))
            have Z2 := Z1.same e2
            have xb := Z1.bag.ne hx
            have xq := (ne_of Z1.hq hx).symm
            have jr2 : ∀ v, i + 1 ≤ ix v → ∃ l, ps v = .ref l ∧ upd H1 x (.tup (xs u)) l = some (.lst (xs v)) ∧ l ≠ b ∧ l ≠ q := fun v hv => by
              obtain ⟨l, e1, e3, e4⟩ := jr1 v (by omega)
              exact ⟨l, e1, e2 _ _ e3, e4, fun z => Z1.nq v (by rw [e1, z])⟩
            have hl2 := e2 _ _ hl
            generalize upd H1 x (.tup (xs u)) = H2 at g2 Z2 jr2 hl2 ⊢
            clear e2 hx Z1 jr1 hl
            walk_at "el"
            refine a_set Z2.hq (show ixN 6 (0 + (i : Int) + 2) = some (i + 2) by unfold ixN; rw [if_pos (by omega), if_pos (by omega)]; exact congrArg some (by omega)) ?_
            have Z3 := Z2.put (ev' := .int e) (wi' := .int wi) (ps' := fun v => if v = u then .ref x else ps v) (fun _ => rfl) (fun _ => rfl) (.int _) (.int _) (fun v => by
              show Th K H2 (if v = u then V.ref x else ps v)
              split
              · exact .tup g2
              · exact Z2.tp v) (fun v => by
              show (if v = u then V.ref x else ps v) ≠ .ref q
              split
              · exact fun z => xq (V.ref.inj z)
              · exact Z2.nq v) (fun v => by
              show (if v = u then V.ref x else ps v) = ps v ∨ _
              by_cases ev : v = u
              · subst ev
                exact .inr (.inr ⟨by rw [el]; exact seq_lst hl2, x, if_pos rfl, xb, .inr g2⟩)
              · exact .inl (if_neg ev))
            have ee : ([.int e, .int wi, ps .tel, ps .gap, ps .sur, ps .cla] : List V).set (i + 2) (.ref x) = [.int e, .int wi, if Pt.tel = u then .ref x else ps .tel, if Pt.gap = u then .ref x else ps .gap, if Pt.sur = u then .ref x else ps .sur, if Pt.cla = u then .ref x else ps .cla] := by subst hu; cases u <;> rfl
            rw [ee]
            walk_at "el"
            exact ⟨_, _, _, _, _, _, Z3, fun v hv => by
              obtain ⟨l, e1, e2, e3, e4⟩ := jr2 v hv
              have nv : v ≠ u := fun z => by subst z; omega
              exact ⟨l, by show (if v = u then V.ref x else ps v) = _; rw [if_neg nv]; exact e1, by rw [upd_ne e4]; exact e2, e3⟩, rfl⟩
          · walk_at "el"
            exact ⟨ps, _, _, _, _, _, Z1, fun v hv => jr1 v (by omega), rfl⟩
        · clear Z jr ps v5 v6 v7 v8 v9
          rintro σ H ⟨ps, v5, v6, v7, v8, v9, Z, -, rfl⟩
          walk_at "el"
          refine ⟨b, c, 3, rfl, Z.bag, by decide, by decide, fun r1 H9 r10 r13 hb9 k9 => ?_⟩
          have Z9 := Z.to hb9 k9
          clear Z hb9 k9
          walk_at "el"
          refine ⟨b, c, 4, rfl, Z9.bag, by decide, by decide, fun r2 H10 r20 r23 hb10 k10 => ?_⟩
          have Z10 := Z9.to hb10 k10
          clear Z9 hb10 k10
          walk_at "el"
          refine n_mul (.inl ⟨by omega, by omega⟩) ?_
          walk_at "el"
          obtain ⟨C0, C2⟩ : 0 ≤ r1 * (if decide (V.int r2 = V.int 0) = true then 1 else 0) ∧ r1 * (if decide (V.int r2 = V.int 0) = true then 1 else 0) ≤ 2 := by
            split <;> exact ⟨by omega, by omega⟩
          generalize r1 * (if decide (V.int r2 = V.int 0) = true then 1 else 0) = cn at C0 C2 ⊢
          refine ⟨by omega, by omega, ?_⟩
          refine lp_range (fun k σ H => ∃ ev w' ps v5 v6 v7 v8 v9, Zq K H0 H b c q sp ja js e wi ev w' ps xs ∧ σ = [some (.ref a), some (.ref b), some (.int (0 + (t : Int))), some (.ref q), some (.ref sp), v5, v6, v7, v8, v9]) ⟨_, _, ps, _, _, _, _, _, Z10, rfl⟩ ?_ ?_
          · clear Z10 ps v5 v6 v7 v8 v9
            rintro i σ H hi ⟨ev, w', ps, v5, v6, v7, v8, v9, Z, rfl⟩
            walk_at "el"
            refine ⟨b, c, 6, rfl, Z.bag, by decide, by decide, fun r H1 r0 r6 hb1 k1 => ?_⟩
            have Z1 := Z.to hb1 k1
            clear Z hb1 k1
            obtain ⟨m, rfl⟩ := Int.eq_ofNat_of_zero_le r0
            have ixm : ixN 6 (m : Int) = some m := by unfold ixN; rw [if_pos (Int.natCast_nonneg m), if_pos (by omega)]; rfl
            walk_at "el"
            refine ite2 (fun h => ?_) (fun h => ?_)
            · have m2 : m < 2 := by have := of_decide_eq_true h; omega
              walk_at "el"
              refine ⟨by show 1 ≤ sizeLine; decide, fun p1 hp1 => ?_⟩
              have e1 := nw_of hp1 (.tup [.int 3])
              have g1 := upd_at hp1 (.tup [.int 3])
              walk_at "el"
              refine a_I (show CPow 10 30 from ⟨by decide, by decide, by decide⟩) ?_
              walk_at "el"
              refine n_bk2 c_Book.dflt (by decide) (by decide) (by decide) (by decide) fun o dx t1 q1 s1 c1 H2 e2 ho g4 _ _ _ _ => ?_
              have g1 := e2 _ _ g1
              have s2 := e1.trans e2
              clear e1 e2 ho hp1
              walk_at "el"
              refine ⟨by show 0 ≤ sizeLine; decide, fun p2 hp2 => ?_⟩
              have e3 := nw_of hp2 (.lst [])
              have g2 := upd_at hp2 (.lst [])
              walk_at "el"
              intro p3 hp3
              have e4 := nw_of hp3 (.dK [])
              have g3 := upd_at hp3 (.dK [])
              have g1 := e4 _ _ (e3 _ _ g1)
              have g2 := e4 _ _ g2
              have g4 := e4 _ _ (e3 _ _ g4)
              have s4 := (s2.trans e3).trans e4
              generalize upd (upd H2 p2 (.lst [])) p3 (.dK []) = H4 at g1 g2 g3 g4 s4 ⊢
              clear e3 e4 hp2 hp3 s2
              have Z4 := Z1.same s4
              clear Z1 s4
              walk_at "el"
              refine ⟨by show 11 ≤ sizeLine; decide, fun m' hm => ?_⟩
              have e5 := nw_of hm
              walk_at "el"
              refine ⟨b, c, m', _, rfl, Z4.bag.same (e5 _), Z4.bag.ne hm, .inl upd_same, by show 0 < 11; decide, by show 11 ≤ 1000000000; decide, fun y H9 hy hb9 k9 => ?_⟩
              have ty : Th K H9 y := by
                refine Th.kpK k9 hb9 (Z4.bag.same (e5 _)) ?_
                clear hb9 k9
                revert y
                exact all_cons (.int _) (all_cons (.int _) (all_cons (.bl _) (all_cons (.bl _) (all_cons .non (all_cons (.str _) (all_cons (.tup (e5 _ _ _ g1)) (all_cons (.int _) (all_cons (.ins (e5 _ _ _ g4) c_Book.c.own) (all_cons (.lst (e5 _ _ _ g2)) (all_cons (.dct (e5 _ _ _ g3)) all_nil))))))))))
              have by_ : belowB y 9 = false := by
                clear hb9 k9 ty
                revert y
                exact all_cons (by decide) (all_cons (by decide) (all_cons rfl (all_cons rfl (all_cons rfl (all_cons rfl (all_cons rfl (all_cons (by decide) (all_cons rfl (all_cons rfl (all_cons rfl all_nil))))))))))
              have Z9 := (Z4.same (e5 _)).to hb9 k9
              clear hy Z4 hm g1 g2 g3 g4 k9 hb9 e5
              walk_at "el"
              refine a_set Z9.hq ixm ?_
              have m01 : m = 0 ∨ m = 1 := by omega
              rcases m01 with rfl | rfl
              · have Zn := Z9.put (ev' := y) (wi' := w') (ps' := ps) (fun z => by rw [by_] at z; cases z) Z9.w9 ty Z9.tw Z9.tp Z9.nq fun _ => .inl rfl
                walk_at "el"
                exact ⟨_, _, _, _, _, _, _, _, Zn, rfl⟩
              · have Zn := Z9.put (ev' := ev) (wi' := y) (ps' := ps) Z9.e9 (fun z => by rw [by_] at z; cases z) Z9.te ty Z9.tp Z9.nq fun _ => .inl rfl
                walk_at "el"
                exact ⟨_, _, _, _, _, _, _, _, Zn, rfl⟩
            · have m2 : 2 ≤ m := by have := of_decide_eq_false (Bool.eq_false_iff.mpr h); omega
              obtain ⟨u, hu⟩ := ix_of (i := m - 2) (by omega)
              walk_at "el"
              intro p1 hp1
              have e1 := nw_of hp1 (.dK [])
              have g1 := upd_at hp1 (.dK [])
              walk_at "el"
              intro p2 hp2
              have e2 := nw_of hp2 (.dT [])
              have d2 := upd_at hp2 (.dT [])
              walk_at "el"
              refine ⟨by show 3 ≤ sizeLine; decide, fun p3 hp3 => ?_⟩
              have e3 := nw_of hp3 (.tup [.int 0, .int 0, .int 0])
              have g3 := upd_at hp3 (.tup [.int 0, .int 0, .int 0])
              have d3 := e3 _ _ d2
              walk_at "el"
              refine ⟨d3, [.inl 0, .inl 0, .inl 0], p3, rfl, g3, ?_⟩
              have n12 := ne_of g1 hp2
              have g1 := e3 _ _ (e2 _ _ g1)
              have s3 := (((e1.trans e2).trans e3).mu (p := p2) (o := .dT [([.inl 0, .inl 0, .inl 0], .int 1)]) ?_)
              rotate_left
              · cases e : H1 p2 with
                | none => rfl
                | some o => have := e1 _ _ e; rw [hp2] at this; cases this
              have g1 : upd _ p2 (.dT [([.inl 0, .inl 0, .inl 0], .int 1)]) p1 = _ := (upd_ne n12).trans g1
              have g2 := upd_same (a := p2) (o := HO.dT [([.inl 0, .inl 0, .inl 0], V.int 1)]) (H := upd (upd (upd H1 p1 (.dK [])) p2 (.dT [])) p3 (.tup [.int 0, .int 0, .int 0]))
              generalize upd (upd (upd (upd H1 p1 (.dK [])) p2 (.dT [])) p3 (.tup [.int 0, .int 0, .int 0])) p2 (.dT [([.inl 0, .inl 0, .inl 0], .int 1)]) = H3 at g1 g2 s3 ⊢
              clear e1 e2 e3 d2 d3 n12 hp1 hp2 hp3 g3
              walk_at "el"
              refine n_bk2 c_Book.dflt (by decide) (by decide) (by decide) (by decide) fun o dx t1 q1 s1 c1 H4 e4 ho g4 _ _ _ _ => ?_
              have g1 := e4 _ _ g1
              have g2 := e4 _ _ g2
              have s4 := s3.trans e4
              clear e4 ho s3
              have Z4 := Z1.same s4
              clear Z1 s4
              walk_at "el"
              refine ⟨by show 7 ≤ sizeLine; decide, fun m' hm => ?_⟩
              have e5 := nw_of hm
              walk_at "el"
              refine ⟨b, c, m', _, rfl, Z4.bag.same (e5 _), Z4.bag.ne hm, .inl upd_same, by show 0 < 7; decide, by show 7 ≤ 1000000000; decide, fun y H9 hy hb9 k9 => ?_⟩
              have ch := ch_bag (Z4.bag.same (e5 _)) hb9 k9
              have both : Th K H9 y ∧ isSeq H9 y = false := by
                have go : ∀ z, Th K _ z → isSeq _ z = false → Th K H9 z ∧ isSeq H9 z = false := fun z tz sz => ⟨ch.th tz, by rw [ch.sq tz]; exact sz⟩
                have ob : ∀ {H : Hp} {p : Addr} {o : HO}, H p = some o → (∀ ys, o ≠ .lst ys) → (∀ ys, o ≠ .tup ys) → isSeq H (.ref p) = false := fun {H p o} h n1 n2 => by
                  show (obL (H p) || obT (H p)) = false
                  rw [h]
                  cases o with
                  | lst ys => exact absurd rfl (n1 ys)
                  | tup ys => exact absurd rfl (n2 ys)
                  | _ => rfl
                clear hb9 k9
                revert y
                exact all_cons (go _ .non rfl) (all_cons (go _ (.int _) rfl) (all_cons (go _ (.str _) rfl) (all_cons (go _ (.dct (e5 _ _ _ g1)) (ob (e5 _ _ _ g1) (fun _ z => nomatch z) (fun _ z => nomatch z))) (all_cons (go _ (.dtt (e5 _ _ _ g2)) (ob (e5 _ _ _ g2) (fun _ z => nomatch z) (fun _ z => nomatch z))) (all_cons (go _ (.bl _) rfl) (all_cons (go _ (.ins (e5 _ _ _ g4) c_Book.c.own) (ob (e5 _ _ _ g4) (fun _ z => nomatch z) (fun _ z => nomatch z))) all_nil))))))
              have Z9 := (Z4.same (e5 _)).to hb9 k9
              clear hy Z4 hm g1 g2 g4 k9 hb9 ch e5
              walk_at "el"
              refine a_set Z9.hq ixm ?_
              have Zn := Z9.put (ev' := ev) (wi' := w') (ps' := fun v => if v = u then y else ps v) Z9.e9 Z9.w9 Z9.te Z9.tw (fun v => by
                show Th K H9 (if v = u then y else ps v)
                split
                · exact both.1
                · exact Z9.tp v) (fun v => by
                show (if v = u then y else ps v) ≠ .ref q
                split
                · intro z
                  have := both.2
                  rw [z, seq_lst Z9.hq] at this
                  cases this
                · exact Z9.nq v) (fun v => by
                show (if v = u then y else ps v) = ps v ∨ isSeq H9 (if v = u then y else ps v) = false ∨ _
                by_cases ev : v = u
                · exact .inr (.inl (by rw [if_pos ev]; exact both.2))
                · exact .inl (if_neg ev))
              have ee : ([ev, w', ps .tel, ps .gap, ps .sur, ps .cla] : List V).set m y = [ev, w', if Pt.tel = u then y else ps .tel, if Pt.gap = u then y else ps .gap, if Pt.sur = u then y else ps .sur, if Pt.cla = u then y else ps .cla] := by
                have : m = ix u + 2 := by omega
                subst this
                cases u <;> rfl
              rw [ee]
              walk_at "el"
              exact ⟨_, _, _, _, _, _, _, _, Zn, rfl⟩
          · clear Z10 ps v5 v6 v7 v8 v9
            rintro σ H ⟨ev, w', ps, v5, v6, v7, v8, v9, Z, rfl⟩
            walk_at "el"
            obtain ⟨fb, hm, hf⟩ := Z.fb ev3 wi3
            refine ⟨q, ev, w', ps, xs, fb, rfl, Z.hq, Z.six, hf, fun H1 x s1 hx => ?_⟩
            have Z1 := Z.same s1
            have oe : outF H1 ev w' ps xs fb = outF H ev w' ps xs fb := outF_same fun u => seq_same (Z.tp u) s1
            walk_at "el"
            refine ⟨q, sp, ev, w', ps, xs, fb, ja, js, rfl, Z1.hq, Z1.six, Z1.hs, Z1.hj, hm, fun H2 y s2 hy => ?_⟩
            rw [oe] at hy
            refine n_neD (out_dp (s2 _ _ hx)) (out_dp hy) (out_shp _) (out_shp _) ?_
            rw [out_eqv]
            walk_at "el"
            exact ⟨(Z1.same s2).bag, _, _, _, _, _, _, _, _, rfl⟩
    · rintro σ H2 ⟨-, v2, v3, v4, v5, v6, v7, v8, v9, rfl⟩
      clear hb0 hc0 hb1 s1 ha
      have b0 : belowB (.int 0) 9 = true := by decide
      walk_at "el"
      refine ⟨by show 0 ≤ sizeLine; decide, fun a0 f0 => ?_⟩
      have e6 := nw_of f0 (.lst [])
      have g0 := upd_at f0 (.lst [])
      walk_at "el"
      refine ⟨by show 0 ≤ sizeLine; decide, fun a1 f1 => ?_⟩
      have e7 := nw_of f1 (.lst [])
      have g1 := upd_at f1 (.lst [])
      walk_at "el"
      refine ⟨by show 0 ≤ sizeLine; decide, fun a2 f2 => ?_⟩
      have e8 := nw_of f2 (.lst [])
      have g2 := upd_at f2 (.lst [])
      walk_at "el"
      refine ⟨by show 0 ≤ sizeLine; decide, fun a3 f3 => ?_⟩
      have e9 := nw_of f3 (.lst [])
      have g3 := upd_at f3 (.lst [])
      walk_at "el"
      refine ⟨by show 6 ≤ sizeLine; decide, fun q fq => ?_⟩
      have e10 := nw_of fq (.lst [.int 0, .int 0, .ref a0, .ref a1, .ref a2, .ref a3])
      have gq := upd_at fq (.lst [.int 0, .int 0, .ref a0, .ref a1, .ref a2, .ref a3])
      have g0 := e10 _ _ (e9 _ _ (e8 _ _ (e7 _ _ g0)))
      have g1 := e10 _ _ (e9 _ _ (e8 _ _ g1))
      have g2 := e10 _ _ (e9 _ _ g2)
      have g3 := e10 _ _ g3
      generalize upd (upd (upd (upd (upd H2 a0 (.lst [])) a1 (.lst [])) a2 (.lst [])) a3 (.lst [])) q (.lst [.int 0, .int 0, .ref a0, .ref a1, .ref a2, .ref a3]) = H3 at g0 g1 g2 g3 gq ⊢
      clear e6 e7 e8 e9 e10 f0 f1 f2 f3 fq
      let l : Pt → Addr := fun u => match u with | .tel => a0 | .gap => a1 | .sur => a2 | .cla => a3
      have hl : ∀ u, H3 (l u) = some (.lst []) := fun u => by cases u <;> assumption
      have of0 : outF H3 (.int 0) (.int 0) (fun u => .ref (l u)) (fun _ => []) (fun _ => none) = .made := by
        unfold outF
        rw [if_pos b0, if_pos b0, outS_all fun u => seq_lst (hl u)]
        rfl
      walk_at "el"
      refine ⟨q, .int 0, .int 0, fun u => .ref (l u), fun _ => [], fun _ => none, rfl, gq, six_of (.int _) (.int _) hl (fun _ _ h => nomatch h), fun _ _ u _ => (fun x h => nomatch h), fun H4 x s4 hx => ?_⟩
      rw [of0] at hx
      clear of0 hl l g0 g1 g2 g3 gq
      walk_at "el"
      refine ⟨by show 2 ≤ sizeLine; decide, fun p1 hp1 => ?_⟩
      have e1 := nw_of hp1 (.tup [.str "made", .bl true])
      refine n_neD (out_dp (o := .made) (e1 _ _ hx)) (out_dp (o := .made) (upd_at hp1 _)) (out_shp _) (out_shp _) ?_
      rw [out_eqv]
      walk_at "el"
      refine ⟨rfl, fun H5 s5 => ?_⟩
      walk_at "el"
      refine ⟨by show 3 ≤ sizeLine; decide, fun t1 ht1 => ?_⟩
      have e5 := nw_of ht1 (.tup [.int 0, .int 0, .int 0])
      have gt := upd_at ht1 (.tup [.int 0, .int 0, .int 0])
      walk_at "el"
      refine ⟨by show 1 ≤ sizeLine; decide, fun a0 f0 => ?_⟩
      have e6 := nw_of f0 (.lst [.ref t1])
      have g0 := upd_at f0 (.lst [.ref t1])
      walk_at "el"
      refine ⟨by show 0 ≤ sizeLine; decide, fun a1 f1 => ?_⟩
      have e7 := nw_of f1 (.lst [])
      have g1 := upd_at f1 (.lst [])
      walk_at "el"
      refine ⟨by show 0 ≤ sizeLine; decide, fun a2 f2 => ?_⟩
      have e8 := nw_of f2 (.lst [])
      have g2 := upd_at f2 (.lst [])
      walk_at "el"
      refine ⟨by show 0 ≤ sizeLine; decide, fun a3 f3 => ?_⟩
      have e9 := nw_of f3 (.lst [])
      have g3 := upd_at f3 (.lst [])
      walk_at "el"
      refine ⟨by show 6 ≤ sizeLine; decide, fun q fq => ?_⟩
      have e10 := nw_of fq (.lst [.int 0, .int 0, .ref a0, .ref a1, .ref a2, .ref a3])
      have gq := upd_at fq (.lst [.int 0, .int 0, .ref a0, .ref a1, .ref a2, .ref a3])
      have gt := e10 _ _ (e9 _ _ (e8 _ _ (e7 _ _ (e6 _ _ gt))))
      have g0 := e10 _ _ (e9 _ _ (e8 _ _ (e7 _ _ g0)))
      have g1 := e10 _ _ (e9 _ _ (e8 _ _ g1))
      have g2 := e10 _ _ (e9 _ _ g2)
      have g3 := e10 _ _ g3
      generalize upd (upd (upd (upd (upd (upd H5 t1 (.tup [.int 0, .int 0, .int 0])) a0 (.lst [.ref t1])) a1 (.lst [])) a2 (.lst [])) a3 (.lst [])) q (.lst [.int 0, .int 0, .ref a0, .ref a1, .ref a2, .ref a3]) = H6 at gt g0 g1 g2 g3 gq ⊢
      clear e5 e6 e7 e8 e9 e10 f0 f1 f2 f3 fq
      let l : Pt → Addr := fun u => match u with | .tel => a0 | .gap => a1 | .sur => a2 | .cla => a3
      let ys : Pt → List V := fun u => match u with | .tel => [.ref t1] | _ => []
      let fb : Pt → Option Nat := fun u => match u with | .tel => some 0 | _ => none
      have hl : ∀ u, H6 (l u) = some (.lst (ys u)) := fun u => by cases u <;> assumption
      have of1 : outF H6 (.int 0) (.int 0) (fun u => .ref (l u)) ys fb = .bad 2 0 := by
        unfold outF
        rw [if_pos b0, if_pos b0, outS_all fun u => seq_lst (hl u)]
        rfl
      walk_at "el"
      refine ⟨q, .int 0, .int 0, fun u => .ref (l u), ys, fb, rfl, gq, six_of (.int _) (.int _) hl (fun u x hx => ?_), fun _ _ u _ => ?_, fun H7 x s7 hx => ?_⟩
      · cases u with
        | tel =>
          cases List.mem_singleton.mp (show x ∈ [V.ref t1] from hx)
          exact thd_tup gt (all_cons (.int _) (all_cons (.int _) (all_cons (.int _) all_nil)))
        | _ => cases (show x ∈ ([] : List V) from hx)
      · cases u with
        | tel => exact ⟨⟨_, rfl, not_at gt (j := 0) rfl rfl (by rfl)⟩, fun k y hk => absurd hk (Nat.not_lt_zero k)⟩
        | _ => exact fun x h => nomatch h
      rw [of1] at hx
      walk_at "el"
      refine ⟨by show 3 ≤ sizeLine; decide, fun p2 hp2 => ?_⟩
      have e2 := nw_of hp2 (.tup [.str "bad", .int 2, .int 0])
      refine n_eqD (out_dp (o := .bad 2 0) (e2 _ _ hx)) (out_dp (o := .bad 2 0) (upd_at hp2 _)) (out_shp _) (out_shp _) ?_
      rw [out_eqv]
      walk_at "el"
      exact k _
end
end EL

/- part M14 -/
namespace EL
open PySem PySem.Spec PyProof.Rows L2
open PySem.W (Frag)
set_option maxHeartbeats 0 in
theorem all_mk {P : Program} {w : World} {K : Frag} {h : Heap} {mg : Str → Option Value} {fa : Addr} (X : K.In h) (G : h.Ns mainGlobals mg) (hfa : mg "law" = some (.ref fa))
    {f_is_integer : Addr} {od_is_integer an_is_integer : Option Addr} {sl_is_integer : Array (Option Value)} {oc_is_integer kV_is_integer dc_is_integer pm_is_integer cd_is_integer ct_is_integer : Value}
    {f_is_number : Addr} {od_is_number an_is_number : Option Addr} {sl_is_number : Array (Option Value)} {oc_is_number kV_is_number dc_is_number pm_is_number cd_is_number ct_is_number : Value}
    {f_is_kind : Addr} {od_is_kind an_is_kind : Option Addr} {sl_is_kind : Array (Option Value)} {oc_is_kind kV_is_kind dc_is_kind pm_is_kind cd_is_kind ct_is_kind : Value}
    {f_is_tuple : Addr} {od_is_tuple an_is_tuple : Option Addr} {sl_is_tuple : Array (Option Value)} {oc_is_tuple kV_is_tuple dc_is_tuple pm_is_tuple cd_is_tuple ct_is_tuple : Value}
    {f_is_below : Addr} {od_is_below an_is_below : Option Addr} {sl_is_below : Array (Option Value)} {oc_is_below kV_is_below dc_is_below pm_is_below cd_is_below ct_is_below : Value}
    {f_is_side : Addr} {od_is_side an_is_side : Option Addr} {sl_is_side : Array (Option Value)} {oc_is_side kV_is_side dc_is_side pm_is_side cd_is_side ct_is_side : Value}
    {f__can_stand : Addr} {od__can_stand an__can_stand : Option Addr} {sl__can_stand : Array (Option Value)} {oc__can_stand kV__can_stand dc__can_stand pm__can_stand cd__can_stand ct__can_stand : Value}
    {f_first_wrong : Addr} {od_first_wrong an_first_wrong : Option Addr} {sl_first_wrong : Array (Option Value)} {oc_first_wrong kV_first_wrong dc_first_wrong pm_first_wrong cd_first_wrong ct_first_wrong : Value}
    {f_is_item : Addr} {od_is_item an_is_item : Option Addr} {sl_is_item : Array (Option Value)} {oc_is_item kV_is_item dc_is_item pm_is_item cd_is_item ct_is_item : Value}
    {f__check_arguments : Addr} {od__check_arguments an__check_arguments : Option Addr} {sl__check_arguments : Array (Option Value)} {oc__check_arguments kV__check_arguments dc__check_arguments pm__check_arguments cd__check_arguments ct__check_arguments : Value}
    {f__check_items : Addr} {od__check_items an__check_items : Option Addr} {sl__check_items : Array (Option Value)} {oc__check_items kV__check_items dc__check_items pm__check_items cd__check_items ct__check_items : Value}
    {f_bag : Addr} {od_bag an_bag : Option Addr} {sl_bag : Array (Option Value)} {oc_bag kV_bag dc_bag pm_bag cd_bag ct_bag : Value}
    {f_take : Addr} {od_take an_take : Option Addr} {sl_take : Array (Option Value)} {oc_take kV_take dc_take pm_take cd_take ct_take : Value}
    {f_one : Addr} {od_one an_one : Option Addr} {sl_one : Array (Option Value)} {oc_one kV_one dc_one pm_one cd_one ct_one : Value}
    {f_kind : Addr} {od_kind an_kind : Option Addr} {sl_kind : Array (Option Value)} {oc_kind kV_kind dc_kind pm_kind cd_kind ct_kind : Value}
    {f_good : Addr} {od_good an_good : Option Addr} {sl_good : Array (Option Value)} {oc_good kV_good dc_good pm_good cd_good ct_good : Value}
    {f_spoilt_number : Addr} {od_spoilt_number an_spoilt_number : Option Addr} {sl_spoilt_number : Array (Option Value)} {oc_spoilt_number kV_spoilt_number dc_spoilt_number pm_spoilt_number cd_spoilt_number ct_spoilt_number : Value}
    {f_beyond : Addr} {od_beyond an_beyond : Option Addr} {sl_beyond : Array (Option Value)} {oc_beyond kV_beyond dc_beyond pm_beyond cd_beyond ct_beyond : Value}
    {f_spoilt : Addr} {od_spoilt an_spoilt : Option Addr} {sl_spoilt : Array (Option Value)} {oc_spoilt kV_spoilt dc_spoilt pm_spoilt cd_spoilt ct_spoilt : Value}
    {f_heard : Addr} {od_heard an_heard : Option Addr} {sl_heard : Array (Option Value)} {oc_heard kV_heard dc_heard pm_heard cd_heard ct_heard : Value}
    {f_due : Addr} {od_due an_due : Option Addr} {sl_due : Array (Option Value)} {oc_due kV_due dc_due pm_due cd_due ct_due : Value}
    {f_deep_right : Addr} {od_deep_right an_deep_right : Option Addr} {sl_deep_right : Array (Option Value)} {oc_deep_right kV_deep_right dc_deep_right pm_deep_right cd_deep_right ct_deep_right : Value}
    {f_law : Addr} {od_law an_law : Option Addr} {sl_law : Array (Option Value)} {oc_law kV_law dc_law pm_law cd_law ct_law : Value}
    {tGN : Tok}
    {aForms aParts : Addr} {esF : Array DictEntry} {nF nP : Nat} {odP : Option Addr} {slP : Array (Option Value)} {p1 p2 p3 p4 : Tok}
    {a_tel : Addr} {n_tel : Nat} {od_tel : Option Addr} {sl_tel : Array (Option Value)} {t_tel0 t_tel1 t_tel2 : Tok}
    {a_gap : Addr} {n_gap : Nat} {od_gap : Option Addr} {sl_gap : Array (Option Value)} {t_gap0 t_gap1 t_gap2 : Tok}
    {a_sur : Addr} {n_sur : Nat} {od_sur : Option Addr} {sl_sur : Array (Option Value)} {t_sur0 t_sur1 t_sur2 : Tok}
    {a_cla : Addr} {n_cla : Nat} {od_cla : Option Addr} {sl_cla : Array (Option Value)} {t_cla0 t_cla1 t_cla2 t_cla3 : Tok}
    {tE tW tI : Tok}
    {C fI aT d1 d2 d3 d4 : Addr} {odI anI odT o1 o2 o3 o4 : Option Addr} {slI slT s1 s2 s3 s4 : Array (Option Value)} {ocI kVI dcI pmI cdI ctI ocT : Value} {nT n1 n2 n3 n4 : Nat}
    {q_events g_events : Addr} {odg_events ang_events : Option Addr} {slg_events : Array (Option Value)} {ocg_events kVg_events dcg_events pmg_events cdg_events ctg_events : Value} {rs_events : List Value}
    {CE : Addr}
    {CWr fWr : Addr} {odWr anWr : Option Addr} {slWr : Array (Option Value)} {ocWr kVWr dcWr pmWr cdWr ctWr : Value} {nmWr qWr : Str} {NWr : Addr} {bsWr bmWr : List Value} {snWr : List Str} {subWr : List Value} {abWr : Bool} {colWr : Option Bool} {ddWr : Option Addr} {k0Wr k1Wr k2Wr k3Wr k5Wr : Option Value}
    {CTo fTo : Addr} {odTo anTo : Option Addr} {slTo : Array (Option Value)} {ocTo kVTo dcTo pmTo cdTo ctTo : Value} {nmTo qTo : Str} {NTo : Addr} {bsTo bmTo : List Value} {snTo : List Str} {subTo : List Value} {abTo : Bool} {colTo : Option Bool} {ddTo : Option Addr} {k0To k1To k2To k3To k5To : Option Value}
    {CBa fBa : Addr} {odBa anBa : Option Addr} {slBa : Array (Option Value)} {ocBa kVBa dcBa pmBa cdBa ctBa : Value} {nmBa qBa : Str} {NBa : Addr} {bsBa bmBa : List Value} {snBa : List Str} {subBa : List Value} {abBa : Bool} {colBa : Option Bool} {ddBa : Option Addr} {k0Ba k1Ba k2Ba k3Ba k5Ba : Option Value}
    (a_is_integer : PySem.W.nsIn K mainGlobals "is_integer" = some (some (.ref f_is_integer)))
    (l_is_integer : K.lookup f_is_integer = some ⟨oc_is_integer, od_is_integer, .func (PySem.W.fnOf "is_integer" "is_integer" (defArgs s_is_integer) (defBody s_is_integer) (defScope s_is_integer) .none kV_is_integer dc_is_integer pm_is_integer an_is_integer cd_is_integer ct_is_integer), sl_is_integer⟩)
    (c_is_integer : PySem.W.codeIn K cd_is_integer "is_integer" = true)
    (k_is_integer : PySem.W.keepIn K (.ref f_is_integer) = true)
    (a_is_number : PySem.W.nsIn K mainGlobals "is_number" = some (some (.ref f_is_number)))
    (l_is_number : K.lookup f_is_number = some ⟨oc_is_number, od_is_number, .func (PySem.W.fnOf "is_number" "is_number" (defArgs s_is_number) (defBody s_is_number) (defScope s_is_number) .none kV_is_number dc_is_number pm_is_number an_is_number cd_is_number ct_is_number), sl_is_number⟩)
    (c_is_number : PySem.W.codeIn K cd_is_number "is_number" = true)
    (k_is_number : PySem.W.keepIn K (.ref f_is_number) = true)
    (a_is_kind : PySem.W.nsIn K mainGlobals "is_kind" = some (some (.ref f_is_kind)))
    (l_is_kind : K.lookup f_is_kind = some ⟨oc_is_kind, od_is_kind, .func (PySem.W.fnOf "is_kind" "is_kind" (defArgs s_is_kind) (defBody s_is_kind) (defScope s_is_kind) .none kV_is_kind dc_is_kind pm_is_kind an_is_kind cd_is_kind ct_is_kind), sl_is_kind⟩)
    (c_is_kind : PySem.W.codeIn K cd_is_kind "is_kind" = true)
    (k_is_kind : PySem.W.keepIn K (.ref f_is_kind) = true)
    (a_is_tuple : PySem.W.nsIn K mainGlobals "is_tuple" = some (some (.ref f_is_tuple)))
    (l_is_tuple : K.lookup f_is_tuple = some ⟨oc_is_tuple, od_is_tuple, .func (PySem.W.fnOf "is_tuple" "is_tuple" (defArgs s_is_tuple) (defBody s_is_tuple) (defScope s_is_tuple) .none kV_is_tuple dc_is_tuple pm_is_tuple an_is_tuple cd_is_tuple ct_is_tuple), sl_is_tuple⟩)
    (c_is_tuple : PySem.W.codeIn K cd_is_tuple "is_tuple" = true)
    (k_is_tuple : PySem.W.keepIn K (.ref f_is_tuple) = true)
    (a_is_below : PySem.W.nsIn K mainGlobals "is_below" = some (some (.ref f_is_below)))
    (l_is_below : K.lookup f_is_below = some ⟨oc_is_below, od_is_below, .func (PySem.W.fnOf "is_below" "is_below" (defArgs s_is_below) (defBody s_is_below) (defScope s_is_below) .none kV_is_below dc_is_below pm_is_below an_is_below cd_is_below ct_is_below), sl_is_below⟩)
    (c_is_below : PySem.W.codeIn K cd_is_below "is_below" = true)
    (k_is_below : PySem.W.keepIn K (.ref f_is_below) = true)
    (a_is_side : PySem.W.nsIn K mainGlobals "is_side" = some (some (.ref f_is_side)))
    (l_is_side : K.lookup f_is_side = some ⟨oc_is_side, od_is_side, .func (PySem.W.fnOf "is_side" "is_side" (defArgs s_is_side) (defBody s_is_side) (defScope s_is_side) .none kV_is_side dc_is_side pm_is_side an_is_side cd_is_side ct_is_side), sl_is_side⟩)
    (c_is_side : PySem.W.codeIn K cd_is_side "is_side" = true)
    (k_is_side : PySem.W.keepIn K (.ref f_is_side) = true)
    (a__can_stand : PySem.W.nsIn K mainGlobals "_can_stand" = some (some (.ref f__can_stand)))
    (l__can_stand : K.lookup f__can_stand = some ⟨oc__can_stand, od__can_stand, .func (PySem.W.fnOf "_can_stand" "_can_stand" (defArgs s__can_stand) (defBody s__can_stand) (defScope s__can_stand) .none kV__can_stand dc__can_stand pm__can_stand an__can_stand cd__can_stand ct__can_stand), sl__can_stand⟩)
    (c__can_stand : PySem.W.codeIn K cd__can_stand "_can_stand" = true)
    (k__can_stand : PySem.W.keepIn K (.ref f__can_stand) = true)
    (a_first_wrong : PySem.W.nsIn K mainGlobals "first_wrong" = some (some (.ref f_first_wrong)))
    (l_first_wrong : K.lookup f_first_wrong = some ⟨oc_first_wrong, od_first_wrong, .func (PySem.W.fnOf "first_wrong" "first_wrong" (defArgs s_first_wrong) (defBody s_first_wrong) (defScope s_first_wrong) .none kV_first_wrong dc_first_wrong pm_first_wrong an_first_wrong cd_first_wrong ct_first_wrong), sl_first_wrong⟩)
    (c_first_wrong : PySem.W.codeIn K cd_first_wrong "first_wrong" = true)
    (k_first_wrong : PySem.W.keepIn K (.ref f_first_wrong) = true)
    (a_is_item : PySem.W.nsIn K mainGlobals "is_item" = some (some (.ref f_is_item)))
    (l_is_item : K.lookup f_is_item = some ⟨oc_is_item, od_is_item, .func (PySem.W.fnOf "is_item" "is_item" (defArgs s_is_item) (defBody s_is_item) (defScope s_is_item) .none kV_is_item dc_is_item pm_is_item an_is_item cd_is_item ct_is_item), sl_is_item⟩)
    (c_is_item : PySem.W.codeIn K cd_is_item "is_item" = true)
    (k_is_item : PySem.W.keepIn K (.ref f_is_item) = true)
    (a__check_arguments : PySem.W.nsIn K mainGlobals "_check_arguments" = some (some (.ref f__check_arguments)))
    (l__check_arguments : K.lookup f__check_arguments = some ⟨oc__check_arguments, od__check_arguments, .func (PySem.W.fnOf "_check_arguments" "_check_arguments" (defArgs s__check_arguments) (defBody s__check_arguments) (defScope s__check_arguments) .none kV__check_arguments dc__check_arguments pm__check_arguments an__check_arguments cd__check_arguments ct__check_arguments), sl__check_arguments⟩)
    (c__check_arguments : PySem.W.codeIn K cd__check_arguments "_check_arguments" = true)
    (k__check_arguments : PySem.W.keepIn K (.ref f__check_arguments) = true)
    (a__check_items : PySem.W.nsIn K mainGlobals "_check_items" = some (some (.ref f__check_items)))
    (l__check_items : K.lookup f__check_items = some ⟨oc__check_items, od__check_items, .func (PySem.W.fnOf "_check_items" "_check_items" (defArgs s__check_items) (defBody s__check_items) (defScope s__check_items) .none kV__check_items dc__check_items pm__check_items an__check_items cd__check_items ct__check_items), sl__check_items⟩)
    (c__check_items : PySem.W.codeIn K cd__check_items "_check_items" = true)
    (k__check_items : PySem.W.keepIn K (.ref f__check_items) = true)
    (a_bag : PySem.W.nsIn K mainGlobals "_law_bag" = some (some (.ref f_bag)))
    (l_bag : K.lookup f_bag = some ⟨oc_bag, od_bag, .func (PySem.W.fnOf "_law_bag" "_law_bag" (defArgs s_bag) (defBody s_bag) (defScope s_bag) .none kV_bag dc_bag pm_bag an_bag cd_bag ct_bag), sl_bag⟩)
    (c_bag : PySem.W.codeIn K cd_bag "_law_bag" = true)
    (k_bag : PySem.W.keepIn K (.ref f_bag) = true)
    (a_take : PySem.W.nsIn K mainGlobals "_law_take" = some (some (.ref f_take)))
    (l_take : K.lookup f_take = some ⟨oc_take, od_take, .func (PySem.W.fnOf "_law_take" "_law_take" (defArgs s_take) (defBody s_take) (defScope s_take) .none kV_take dc_take pm_take an_take cd_take ct_take), sl_take⟩)
    (c_take : PySem.W.codeIn K cd_take "_law_take" = true)
    (k_take : PySem.W.keepIn K (.ref f_take) = true)
    (a_one : PySem.W.nsIn K mainGlobals "_law_one" = some (some (.ref f_one)))
    (l_one : K.lookup f_one = some ⟨oc_one, od_one, .func (PySem.W.fnOf "_law_one" "_law_one" (defArgs s_one) (defBody s_one) (defScope s_one) .none kV_one dc_one pm_one an_one cd_one ct_one), sl_one⟩)
    (c_one : PySem.W.codeIn K cd_one "_law_one" = true)
    (k_one : PySem.W.keepIn K (.ref f_one) = true)
    (a_kind : PySem.W.nsIn K mainGlobals "_law_kind" = some (some (.ref f_kind)))
    (l_kind : K.lookup f_kind = some ⟨oc_kind, od_kind, .func (PySem.W.fnOf "_law_kind" "_law_kind" (defArgs s_kind) (defBody s_kind) (defScope s_kind) .none kV_kind dc_kind pm_kind an_kind cd_kind ct_kind), sl_kind⟩)
    (c_kind : PySem.W.codeIn K cd_kind "_law_kind" = true)
    (k_kind : PySem.W.keepIn K (.ref f_kind) = true)
    (a_good : PySem.W.nsIn K mainGlobals "_law_good" = some (some (.ref f_good)))
    (l_good : K.lookup f_good = some ⟨oc_good, od_good, .func (PySem.W.fnOf "_law_good" "_law_good" (defArgs s_good) (defBody s_good) (defScope s_good) .none kV_good dc_good pm_good an_good cd_good ct_good), sl_good⟩)
    (c_good : PySem.W.codeIn K cd_good "_law_good" = true)
    (k_good : PySem.W.keepIn K (.ref f_good) = true)
    (a_spoilt_number : PySem.W.nsIn K mainGlobals "_law_spoilt_number" = some (some (.ref f_spoilt_number)))
    (l_spoilt_number : K.lookup f_spoilt_number = some ⟨oc_spoilt_number, od_spoilt_number, .func (PySem.W.fnOf "_law_spoilt_number" "_law_spoilt_number" (defArgs s_spoilt_number) (defBody s_spoilt_number) (defScope s_spoilt_number) .none kV_spoilt_number dc_spoilt_number pm_spoilt_number an_spoilt_number cd_spoilt_number ct_spoilt_number), sl_spoilt_number⟩)
    (c_spoilt_number : PySem.W.codeIn K cd_spoilt_number "_law_spoilt_number" = true)
    (k_spoilt_number : PySem.W.keepIn K (.ref f_spoilt_number) = true)
    (a_beyond : PySem.W.nsIn K mainGlobals "_law_beyond" = some (some (.ref f_beyond)))
    (l_beyond : K.lookup f_beyond = some ⟨oc_beyond, od_beyond, .func (PySem.W.fnOf "_law_beyond" "_law_beyond" (defArgs s_beyond) (defBody s_beyond) (defScope s_beyond) .none kV_beyond dc_beyond pm_beyond an_beyond cd_beyond ct_beyond), sl_beyond⟩)
    (c_beyond : PySem.W.codeIn K cd_beyond "_law_beyond" = true)
    (k_beyond : PySem.W.keepIn K (.ref f_beyond) = true)
    (a_spoilt : PySem.W.nsIn K mainGlobals "_law_spoilt" = some (some (.ref f_spoilt)))
    (l_spoilt : K.lookup f_spoilt = some ⟨oc_spoilt, od_spoilt, .func (PySem.W.fnOf "_law_spoilt" "_law_spoilt" (defArgs s_spoilt) (defBody s_spoilt) (defScope s_spoilt) .none kV_spoilt dc_spoilt pm_spoilt an_spoilt cd_spoilt ct_spoilt), sl_spoilt⟩)
    (c_spoilt : PySem.W.codeIn K cd_spoilt "_law_spoilt" = true)
    (k_spoilt : PySem.W.keepIn K (.ref f_spoilt) = true)
    (a_heard : PySem.W.nsIn K mainGlobals "_law_heard" = some (some (.ref f_heard)))
    (l_heard : K.lookup f_heard = some ⟨oc_heard, od_heard, .func (PySem.W.fnOf "_law_heard" "_law_heard" (defArgs s_heard) (defBody s_heard) (defScope s_heard) .none kV_heard dc_heard pm_heard an_heard cd_heard ct_heard), sl_heard⟩)
    (c_heard : PySem.W.codeIn K cd_heard "_law_heard" = true)
    (k_heard : PySem.W.keepIn K (.ref f_heard) = true)
    (a_due : PySem.W.nsIn K mainGlobals "_law_due" = some (some (.ref f_due)))
    (l_due : K.lookup f_due = some ⟨oc_due, od_due, .func (PySem.W.fnOf "_law_due" "_law_due" (defArgs s_due) (defBody s_due) (defScope s_due) .none kV_due dc_due pm_due an_due cd_due ct_due), sl_due⟩)
    (c_due : PySem.W.codeIn K cd_due "_law_due" = true)
    (k_due : PySem.W.keepIn K (.ref f_due) = true)
    (a_deep_right : PySem.W.nsIn K mainGlobals "_law_deep_right" = some (some (.ref f_deep_right)))
    (l_deep_right : K.lookup f_deep_right = some ⟨oc_deep_right, od_deep_right, .func (PySem.W.fnOf "_law_deep_right" "_law_deep_right" (defArgs s_deep_right) (defBody s_deep_right) (defScope s_deep_right) .none kV_deep_right dc_deep_right pm_deep_right an_deep_right cd_deep_right ct_deep_right), sl_deep_right⟩)
    (c_deep_right : PySem.W.codeIn K cd_deep_right "_law_deep_right" = true)
    (k_deep_right : PySem.W.keepIn K (.ref f_deep_right) = true)
    (a_law : PySem.W.nsIn K mainGlobals "law" = some (some (.ref f_law)))
    (l_law : K.lookup f_law = some ⟨oc_law, od_law, .func (PySem.W.fnOf "law" "law" (defArgs s_law) (defBody s_law) (defScope s_law) .none kV_law dc_law pm_law an_law cd_law ct_law), sl_law⟩)
    (c_law : PySem.W.codeIn K cd_law "law" = true)
    (k_law : PySem.W.keepIn K (.ref f_law) = true)
    (z_len : PySem.W.nsIn K mainGlobals "len" = some none)
    (z_isinstance : PySem.W.nsIn K mainGlobals "isinstance" = some none)
    (z_int : PySem.W.nsIn K mainGlobals "int" = some none)
    (z_bool : PySem.W.nsIn K mainGlobals "bool" = some none)
    (z_str : PySem.W.nsIn K mainGlobals "str" = some none)
    (z_list : PySem.W.nsIn K mainGlobals "list" = some none)
    (z_tuple : PySem.W.nsIn K mainGlobals "tuple" = some none)
    (z_range : PySem.W.nsIn K mainGlobals "range" = some none)
    (z_enumerate : PySem.W.nsIn K mainGlobals "enumerate" = some none)
    (z_zip : PySem.W.nsIn K mainGlobals "zip" = some none)
    (z_abs : PySem.W.nsIn K mainGlobals "abs" = some none)
    (z_repr : PySem.W.nsIn K mainGlobals "repr" = some none)
    (z_min : PySem.W.nsIn K mainGlobals "min" = some none)
    (z_max : PySem.W.nsIn K mainGlobals "max" = some none)
    (z_sum : PySem.W.nsIn K mainGlobals "sum" = some none)
    (z_all : PySem.W.nsIn K mainGlobals "all" = some none)
    (gGN : PySem.W.nsIn K mainGlobals "GREATEST_NUMBER" = some (some (.int 1000000000000000 tGN)))
    (gForms : PySem.W.nsIn K mainGlobals "FORMS" = some (some (.ref aForms)))
    (lForms : K.lookup aForms = some { cls := .type "dict", data := .dict esF nF })
    (kForms : PySem.W.KeysLit w.params esF.toList)
    (ntel : PySem.W.nsIn K aForms "tellings" = some (some (.ref a_tel)))
    (ltel : K.lookup a_tel = some ⟨.type "tuple", od_tel, .seq #[.str "witness" t_tel0, .str "event" t_tel1, .str "number" t_tel2] n_tel, sl_tel⟩)
    (ngap : PySem.W.nsIn K aForms "gaps" = some (some (.ref a_gap)))
    (lgap : K.lookup a_gap = some ⟨.type "tuple", od_gap, .seq #[.str "event" t_gap0, .str "another event" t_gap1, .str "number" t_gap2] n_gap, sl_gap⟩)
    (nsur : PySem.W.nsIn K aForms "sure" = some (some (.ref a_sur)))
    (lsur : K.lookup a_sur = some ⟨.type "tuple", od_sur, .seq #[.str "event" t_sur0, .str "side" t_sur1, .str "number" t_sur2] n_sur, sl_sur⟩)
    (ncla : PySem.W.nsIn K aForms "clauses" = some (some (.ref a_cla)))
    (lcla : K.lookup a_cla = some ⟨.type "tuple", od_cla, .seq #[.str "witness" t_cla0, .str "kind" t_cla1, .str "witness" t_cla2, .str "kind" t_cla3] n_cla, sl_cla⟩)
    (gParts : PySem.W.nsIn K mainGlobals "PARTS" = some (some (.ref aParts)))
    (lParts : K.lookup aParts = some ⟨.type "tuple", odP, .seq #[.str "tellings" p1, .str "gaps" p2, .str "sure" p3, .str "clauses" p4] nP, slP⟩)
    (gtE : PySem.W.nsIn K mainGlobals "MOST_EVENTS" = some (some (.int 8 tE)))
    (gtW : PySem.W.nsIn K mainGlobals "MOST_WITNESSES" = some (some (.int 8 tW)))
    (gtI : PySem.W.nsIn K mainGlobals "MOST_ITEMS" = some (some (.int 24 tI)))
    (aC : PySem.W.nsIn K mainGlobals "Book" = some (some (.ref C)))
    (iC : PySem.W.findIn K (.ref C) "__init__" = some (some (.ref fI)))
    (fI_ : PySem.W.isFn K (.ref fI) = true)
    (lI : K.lookup fI = some ⟨ocI, odI, .func (PySem.W.fnOf "__init__" "Book.__init__" (defArgs s_Book_init) (defBody s_Book_init) (defScope s_Book_init) (.ref aT) kVI dcI pmI anI cdI ctI), slI⟩)
    (cI : PySem.W.codeIn K cdI "Book.__init__" = true)
    (kI : PySem.W.keepIn K (.ref fI) = true)
    (lT : K.lookup aT = some ⟨ocT, odT, .seq [.ref d1, .ref d2, .ref d3, .ref d4].toArray nT, slT⟩)
    (ld1 : K.lookup d1 = some ⟨.type "tuple", o1, .seq #[] n1, s1⟩)
    (ld2 : K.lookup d2 = some ⟨.type "tuple", o2, .seq #[] n2, s2⟩)
    (ld3 : K.lookup d3 = some ⟨.type "tuple", o3, .seq #[] n3, s3⟩)
    (ld4 : K.lookup d4 = some ⟨.type "tuple", o4, .seq #[] n4, s4⟩)
    (pg : PySem.W.plainGet K C Str.empty = true)
    (hd : PySem.W.hasDictIn K C = true)
    (po : PySem.W.plainOver K C = true)
    (sa : PySem.W.findIn K (.ref C) "__setattr__" = some (some (.builtin "object.__setattr__")))
    (mkC : PySem.W.makesIn K C = true)
    (kC : PySem.W.keepIn K (.ref C) = true)
    (nf0 : PySem.W.findIn K (.ref C) "_events" = some none)
    (nf1 : PySem.W.findIn K (.ref C) "_witnesses" = some none)
    (nf2 : PySem.W.findIn K (.ref C) "_tellings" = some none)
    (nf3 : PySem.W.findIn K (.ref C) "_gaps" = some none)
    (nf4 : PySem.W.findIn K (.ref C) "_sure" = some none)
    (nf5 : PySem.W.findIn K (.ref C) "_clauses" = some none)
    (oc1 : PySem.W.findIn K (.ref C) "__class__" = some (some (.builtin "object.__class__")))
    (oc2 : PySem.W.specialIn K (.builtin "object.__class__") "__get__" = some (some (.builtin "getset_descriptor.__get__")))
    (oc3 : PySem.W.takesIn K (.builtin "object.__class__") = some true)
    (oc4 : PySem.W.mroIn K C (.type "object") = some true)
    (kt0 : PySem.W.mroIn K C (.type "int") = some false)
    (kt1 : PySem.W.mroIn K C (.type "bool") = some false)
    (kt2 : PySem.W.mroIn K C (.type "str") = some false)
    (kt3 : PySem.W.mroIn K C (.type "tuple") = some false)
    (kt4 : PySem.W.mroIn K C (.type "list") = some false)
    (u1_events : PySem.W.findIn K (.ref C) "events" = some (some (.ref q_events)))
    (u2_events : PySem.W.specialIn K (.ref q_events) "__get__" = some (some (.builtin "property.__get__")))
    (u3_events : PySem.W.takesIn K (.ref q_events) = some true)
    (u4_events : PySem.W.recIn K q_events "property" = some (.ref g_events :: rs_events))
    (u5_events : K.lookup g_events = some ⟨ocg_events, odg_events, .func (PySem.W.fnOf "events" "Book.events" (defArgs s_Book_events) (defBody s_Book_events) (defScope s_Book_events) .none kVg_events dcg_events pmg_events ang_events cdg_events ctg_events), slg_events⟩)
    (u6_events : PySem.W.codeIn K cdg_events "Book.events" = true)
    (u7_events : PySem.W.keepIn K (.ref g_events) = true)
    (aE : PySem.W.nsIn K mainGlobals "CaseError" = some (some (.ref CE)))
    (yeE : PySem.W.subIn K (.ref CE) (.type "BaseException") = some true)
    (yiE : PySem.W.isClsIn K CE = true)
    (ytE : PySem.W.typeIn K (.ref CE) = some (.type "type"))
    (aWr : PySem.W.nsIn K mainGlobals "Wrong" = some (some (.ref CWr)))
    (iWr : PySem.W.findIn K (.ref CWr) "__init__" = some (some (.ref fWr)))
    (tWr : PySem.W.typeIn K (.ref fWr) = some (.type "function"))
    (lWr : K.lookup fWr = some ⟨ocWr, odWr, .func (PySem.W.fnOf "__init__" "Wrong.__init__" (defArgs s_Wrong_init) (defBody s_Wrong_init) (defScope s_Wrong_init) .none kVWr dcWr pmWr anWr cdWr ctWr), slWr⟩)
    (cWr : PySem.W.codeIn K cdWr "Wrong.__init__" = true)
    (kWr : PySem.W.keepIn K (.ref fWr) = true)
    (xlWr : K.lookup CWr = some (excClassObj nmWr qWr CWr NWr bsWr bmWr true snWr subWr abWr colWr ddWr k0Wr k1Wr k2Wr k3Wr k5Wr "ValueError.__new__"))
    (xvWr : PySem.HandSPX.refsVE bmWr = true)
    (xsWr : PySem.W.findIn K (.ref CWr) "__setattr__" = some (some (.builtin "object.__setattr__")))
    (xeWr : PySem.W.subIn K (.ref CWr) (.type "BaseException") = some true)
    (xtWr : PySem.W.typeIn K (.ref CWr) = some (.type "type"))
    (xkWr : PySem.W.keepIn K (.ref CWr) = true)
    (xgWr : PySem.W.findIn K (.ref CWr) "__getattribute__" = some (some (.builtin "BaseException.__getattribute__")))
    (xaWr : PySem.W.findIn K (.ref CWr) "__getattr__" = some none)
    (xhWr : PySem.W.hasDictIn K CWr = true)
    (xcWr : PySem.W.findIn K (.ref CWr) "__class__" = some (some (.builtin "object.__class__")))
    (xoWr : PySem.W.mroIn K CWr (.type "object") = some true)
    (xiWr : PySem.W.isClsIn K CWr = true)
    (ysWr : PySem.W.subIn K (.ref CWr) (.ref CE) = some true)
    (x0Wr : PySem.W.findIn K (.ref CWr) "place" = some none)
    (aTo : PySem.W.nsIn K mainGlobals "TooMany" = some (some (.ref CTo)))
    (iTo : PySem.W.findIn K (.ref CTo) "__init__" = some (some (.ref fTo)))
    (tTo : PySem.W.typeIn K (.ref fTo) = some (.type "function"))
    (lTo : K.lookup fTo = some ⟨ocTo, odTo, .func (PySem.W.fnOf "__init__" "TooMany.__init__" (defArgs s_TooMany_init) (defBody s_TooMany_init) (defScope s_TooMany_init) .none kVTo dcTo pmTo anTo cdTo ctTo), slTo⟩)
    (cTo : PySem.W.codeIn K cdTo "TooMany.__init__" = true)
    (kTo : PySem.W.keepIn K (.ref fTo) = true)
    (xlTo : K.lookup CTo = some (excClassObj nmTo qTo CTo NTo bsTo bmTo true snTo subTo abTo colTo ddTo k0To k1To k2To k3To k5To "ValueError.__new__"))
    (xvTo : PySem.HandSPX.refsVE bmTo = true)
    (xsTo : PySem.W.findIn K (.ref CTo) "__setattr__" = some (some (.builtin "object.__setattr__")))
    (xeTo : PySem.W.subIn K (.ref CTo) (.type "BaseException") = some true)
    (xtTo : PySem.W.typeIn K (.ref CTo) = some (.type "type"))
    (xkTo : PySem.W.keepIn K (.ref CTo) = true)
    (xgTo : PySem.W.findIn K (.ref CTo) "__getattribute__" = some (some (.builtin "BaseException.__getattribute__")))
    (xaTo : PySem.W.findIn K (.ref CTo) "__getattr__" = some none)
    (xhTo : PySem.W.hasDictIn K CTo = true)
    (xcTo : PySem.W.findIn K (.ref CTo) "__class__" = some (some (.builtin "object.__class__")))
    (xoTo : PySem.W.mroIn K CTo (.type "object") = some true)
    (xiTo : PySem.W.isClsIn K CTo = true)
    (ysTo : PySem.W.subIn K (.ref CTo) (.ref CE) = some true)
    (x0To : PySem.W.findIn K (.ref CTo) "limit" = some none)
    (aBa : PySem.W.nsIn K mainGlobals "BadItem" = some (some (.ref CBa)))
    (iBa : PySem.W.findIn K (.ref CBa) "__init__" = some (some (.ref fBa)))
    (tBa : PySem.W.typeIn K (.ref fBa) = some (.type "function"))
    (lBa : K.lookup fBa = some ⟨ocBa, odBa, .func (PySem.W.fnOf "__init__" "BadItem.__init__" (defArgs s_BadItem_init) (defBody s_BadItem_init) (defScope s_BadItem_init) .none kVBa dcBa pmBa anBa cdBa ctBa), slBa⟩)
    (cBa : PySem.W.codeIn K cdBa "BadItem.__init__" = true)
    (kBa : PySem.W.keepIn K (.ref fBa) = true)
    (xlBa : K.lookup CBa = some (excClassObj nmBa qBa CBa NBa bsBa bmBa true snBa subBa abBa colBa ddBa k0Ba k1Ba k2Ba k3Ba k5Ba "ValueError.__new__"))
    (xvBa : PySem.HandSPX.refsVE bmBa = true)
    (xsBa : PySem.W.findIn K (.ref CBa) "__setattr__" = some (some (.builtin "object.__setattr__")))
    (xeBa : PySem.W.subIn K (.ref CBa) (.type "BaseException") = some true)
    (xtBa : PySem.W.typeIn K (.ref CBa) = some (.type "type"))
    (xkBa : PySem.W.keepIn K (.ref CBa) = true)
    (xgBa : PySem.W.findIn K (.ref CBa) "__getattribute__" = some (some (.builtin "BaseException.__getattribute__")))
    (xaBa : PySem.W.findIn K (.ref CBa) "__getattr__" = some none)
    (xhBa : PySem.W.hasDictIn K CBa = true)
    (xcBa : PySem.W.findIn K (.ref CBa) "__class__" = some (some (.builtin "object.__class__")))
    (xoBa : PySem.W.mroIn K CBa (.type "object") = some true)
    (xiBa : PySem.W.isClsIn K CBa = true)
    (ysBa : PySem.W.subIn K (.ref CBa) (.ref CE) = some true)
    (x0Ba : PySem.W.findIn K (.ref CBa) "place" = some none)
    (x1Ba : PySem.W.findIn K (.ref CBa) "index" = some none)
    (nWT : CWr ≠ CTo)
    (sWT : PySem.W.subIn K (.ref CWr) (.ref CTo) = some false)
    (nWB : CWr ≠ CBa)
    (sWB : PySem.W.subIn K (.ref CWr) (.ref CBa) = some false)
    (nTW : CTo ≠ CWr)
    (sTW : PySem.W.subIn K (.ref CTo) (.ref CWr) = some false)
    (nTB : CTo ≠ CBa)
    (sTB : PySem.W.subIn K (.ref CTo) (.ref CBa) = some false)
    (nBW : CBa ≠ CWr)
    (sBW : PySem.W.subIn K (.ref CBa) (.ref CWr) = some false)
    (nBT : CBa ≠ CTo)
    (sBT : PySem.W.subIn K (.ref CBa) (.ref CTo) = some false) :
    ∃ fd : FuncData, (∀ (s : Shared) (v : Value), BindsTo s fd ⟨[v], []⟩ [("_law_script", v)]) ∧ ∀ base : Heap, K.In base → base.Ns mainGlobals mg → FnG P w K mg base CX0 12 fa fd ["_law_script"] (spLaw K) := by
  have e := hfa.symm.trans (PySem.W.mg_of X G a_law)
  cases e
  have F_is_integer := fun_mk (st := s_is_integer) l_is_integer c_is_integer k_is_integer
  have b_is_integer := F_is_integer.binds (ps := ["thing"]) fun _ _ _ _ _ _ us hl => match us, hl with | [_], _ => rfl
  have F_is_number := fun_mk (st := s_is_number) l_is_number c_is_number k_is_number
  have b_is_number := F_is_number.binds (ps := ["thing"]) fun _ _ _ _ _ _ us hl => match us, hl with | [_], _ => rfl
  have F_is_kind := fun_mk (st := s_is_kind) l_is_kind c_is_kind k_is_kind
  have b_is_kind := F_is_kind.binds (ps := ["thing"]) fun _ _ _ _ _ _ us hl => match us, hl with | [_], _ => rfl
  have F_is_tuple := fun_mk (st := s_is_tuple) l_is_tuple c_is_tuple k_is_tuple
  have b_is_tuple := F_is_tuple.binds (ps := ["thing", "many"]) fun _ _ _ _ _ _ us hl => match us, hl with | [_, _], _ => rfl
  have F_is_below := fun_mk (st := s_is_below) l_is_below c_is_below k_is_below
  have b_is_below := F_is_below.binds (ps := ["thing", "many"]) fun _ _ _ _ _ _ us hl => match us, hl with | [_, _], _ => rfl
  have F_is_side := fun_mk (st := s_is_side) l_is_side c_is_side k_is_side
  have b_is_side := F_is_side.binds (ps := ["thing"]) fun _ _ _ _ _ _ us hl => match us, hl with | [_], _ => rfl
  have F__can_stand := fun_mk (st := s__can_stand) l__can_stand c__can_stand k__can_stand
  have b__can_stand := F__can_stand.binds (ps := ["word", "values", "place", "events", "witnesses"]) fun _ _ _ _ _ _ us hl => match us, hl with | [_, _, _, _, _], _ => rfl
  have F_first_wrong := fun_mk (st := s_first_wrong) l_first_wrong c_first_wrong k_first_wrong
  have b_first_wrong := F_first_wrong.binds (ps := ["part", "values", "events", "witnesses"]) fun _ _ _ _ _ _ us hl => match us, hl with | [_, _, _, _], _ => rfl
  have F_is_item := fun_mk (st := s_is_item) l_is_item c_is_item k_is_item
  have b_is_item := F_is_item.binds (ps := ["part", "thing", "events", "witnesses"]) fun _ _ _ _ _ _ us hl => match us, hl with | [_, _, _, _], _ => rfl
  have F__check_arguments := fun_mk (st := s__check_arguments) l__check_arguments c__check_arguments k__check_arguments
  have b__check_arguments := F__check_arguments.binds (ps := ["events", "witnesses", "parts"]) fun _ _ _ _ _ _ us hl => match us, hl with | [_, _, _], _ => rfl
  have F__check_items := fun_mk (st := s__check_items) l__check_items c__check_items k__check_items
  have b__check_items := F__check_items.binds (ps := ["place", "part", "items", "events", "witnesses"]) fun _ _ _ _ _ _ us hl => match us, hl with | [_, _, _, _, _], _ => rfl
  have F_bag := fun_mk (st := s_bag) l_bag c_bag k_bag
  have b_bag := F_bag.binds (ps := ["_law_script"]) fun _ _ _ _ _ _ us hl => match us, hl with | [_], _ => rfl
  have F_take := fun_mk (st := s_take) l_take c_take k_take
  have b_take := F_take.binds (ps := ["_law_bag_here", "_law_many"]) fun _ _ _ _ _ _ us hl => match us, hl with | [_, _], _ => rfl
  have F_one := fun_mk (st := s_one) l_one c_one k_one
  have b_one := F_one.binds (ps := ["_law_bag_here", "_law_menu"]) fun _ _ _ _ _ _ us hl => match us, hl with | [_, _], _ => rfl
  have F_kind := fun_mk (st := s_kind) l_kind c_kind k_kind
  have b_kind := F_kind.binds (ps := ["_law_bag_here"]) fun _ _ _ _ _ _ us hl => match us, hl with | [_], _ => rfl
  have F_good := fun_mk (st := s_good) l_good c_good k_good
  have b_good := F_good.binds (ps := ["_law_bag_here", "_law_part"]) fun _ _ _ _ _ _ us hl => match us, hl with | [_, _], _ => rfl
  have F_spoilt_number := fun_mk (st := s_spoilt_number) l_spoilt_number c_spoilt_number k_spoilt_number
  have b_spoilt_number := F_spoilt_number.binds (ps := ["_law_bag_here"]) fun _ _ _ _ _ _ us hl => match us, hl with | [_], _ => rfl
  have F_beyond := fun_mk (st := s_beyond) l_beyond c_beyond k_beyond
  have b_beyond := F_beyond.binds (ps := ["_law_bag_here", "_law_many"]) fun _ _ _ _ _ _ us hl => match us, hl with | [_, _], _ => rfl
  have F_spoilt := fun_mk (st := s_spoilt) l_spoilt c_spoilt k_spoilt
  have b_spoilt := F_spoilt.binds (ps := ["_law_bag_here", "_law_part", "_law_item", "_law_events", "_law_witnesses"]) fun _ _ _ _ _ _ us hl => match us, hl with | [_, _, _, _, _], _ => rfl
  have F_heard := fun_mk (st := s_heard) l_heard c_heard k_heard
  have b_heard := F_heard.binds (ps := ["_law_things"]) fun _ _ _ _ _ _ us hl => match us, hl with | [_], _ => rfl
  have F_due := fun_mk (st := s_due) l_due c_due k_due
  have b_due := F_due.binds (ps := ["_law_things", "_law_spoilt_here"]) fun _ _ _ _ _ _ us hl => match us, hl with | [_, _], _ => rfl
  have F_deep_right := fun_mk (st := s_deep_right) l_deep_right c_deep_right k_deep_right
  have b_deep_right := F_deep_right.binds (ps := []) fun _ _ _ _ _ _ us hl => match us, hl with | [], _ => rfl
  have F_law := fun_mk (st := s_law) l_law c_law k_law
  have b_law := F_law.binds (ps := ["_law_script"]) fun _ _ _ _ _ _ us hl => match us, hl with | [_], _ => rfl
  have B : Bi mg := ⟨PySem.W.mg_none_of X G z_len, PySem.W.mg_none_of X G z_isinstance, PySem.W.mg_none_of X G z_int, PySem.W.mg_none_of X G z_bool, PySem.W.mg_none_of X G z_str, PySem.W.mg_none_of X G z_list, PySem.W.mg_none_of X G z_tuple, PySem.W.mg_none_of X G z_range, PySem.W.mg_none_of X G z_enumerate, PySem.W.mg_none_of X G z_zip, PySem.W.mg_none_of X G z_abs, PySem.W.mg_none_of X G z_repr, PySem.W.mg_none_of X G z_min, PySem.W.mg_none_of X G z_max, PySem.W.mg_none_of X G z_sum, PySem.W.mg_none_of X G z_all⟩
  have Tl : Tb mg := ⟨B⟩
  have Tw : Wo K mg := ⟨B, ⟨_, PySem.W.mg_of X G gGN, ⟨_, rfl⟩⟩⟩
  have Ti : It4 K w mg aForms aParts := ⟨B, PySem.W.mg_of X G gForms, PySem.W.mg_of X G gParts, fun p => match p with
    | .tel => ⟨a_tel, ⟨_, _, _, lForms, kForms, ntel, rfl⟩, fun H => .inr ⟨_, _, _, ltel, rfl, rfl, by show 3 ≤ sizeLine; decide, .cons ⟨_, rfl⟩ (.cons ⟨_, rfl⟩ (.cons ⟨_, rfl⟩ (.nil)))⟩⟩
    | .gap => ⟨a_gap, ⟨_, _, _, lForms, kForms, ngap, rfl⟩, fun H => .inr ⟨_, _, _, lgap, rfl, rfl, by show 3 ≤ sizeLine; decide, .cons ⟨_, rfl⟩ (.cons ⟨_, rfl⟩ (.cons ⟨_, rfl⟩ (.nil)))⟩⟩
    | .sur => ⟨a_sur, ⟨_, _, _, lForms, kForms, nsur, rfl⟩, fun H => .inr ⟨_, _, _, lsur, rfl, rfl, by show 3 ≤ sizeLine; decide, .cons ⟨_, rfl⟩ (.cons ⟨_, rfl⟩ (.cons ⟨_, rfl⟩ (.nil)))⟩⟩
    | .cla => ⟨a_cla, ⟨_, _, _, lForms, kForms, ncla, rfl⟩, fun H => .inr ⟨_, _, _, lcla, rfl, rfl, by show 4 ≤ sizeLine; decide, .cons ⟨_, rfl⟩ (.cons ⟨_, rfl⟩ (.cons ⟨_, rfl⟩ (.cons ⟨_, rfl⟩ (.nil))))⟩⟩,
    fun H => .inr ⟨_, _, _, lParts, rfl, rfl, by show 4 ≤ sizeLine; decide, .cons ⟨_, rfl⟩ (.cons ⟨_, rfl⟩ (.cons ⟨_, rfl⟩ (.cons ⟨_, rfl⟩ .nil)))⟩⟩
  have Tbo : BoT K w mg aForms aParts := { toIt4 := Ti, toBo := ⟨⟨_, PySem.W.mg_of X G gtE, ⟨_, rfl⟩⟩, ⟨_, PySem.W.mg_of X G gtW, ⟨_, rfl⟩⟩, ⟨_, PySem.W.mg_of X G gtI, ⟨_, rfl⟩⟩⟩ }
  have Bk : BkC K C := ⟨⟨⟨pg, hd, po, sa⟩, oc1, oc2, oc3, oc4, own_kit rfl kt0, own_kit rfl kt1, own_kit rfl kt2, own_kit rfl kt3, own_kit rfl kt4⟩, nf0, nf1, nf2, nf3, nf4, nf5⟩
  have F_init : FunD K "__init__" "Book.__init__" (defArgs s_Book_init) (defBody s_Book_init) (defScope s_Book_init) [.ref d1, .ref d2, .ref d3, .ref d4] [] fI _ := ⟨⟨_, _, _, _, _, _, _, _, _, _, rfl, lI, cI, .inr ⟨(fun z => nomatch z), _, _, _, _, rfl, lT, rfl, .cons rfl (.cons rfl (.cons rfl (.cons rfl .nil)))⟩, .inl rfl⟩, kI⟩
  obtain ⟨ds, v2, b2⟩ := F_init.binds1 (ps := psBook) 3 0 (fun z => nomatch z) rfl fun T kV doc pm an cdv ct us its h1 h2 => match us, its, h1, h2 with | [_, _, _], [_, _, _, _], _, _ => ⟨_, rfl, rfl⟩
  obtain ⟨ds4, v4, b4⟩ := F_init.binds1 (ps := psBook) 5 2 (fun z => nomatch z) rfl fun T kV doc pm an cdv ct us its h1 h2 => match us, its, h1, h2 with | [_, _, _, _, _], [_, _, _, _], _, _ => ⟨_, rfl, rfl⟩
  obtain ⟨ds3, v3, b3⟩ := F_init.binds1 (ps := psBook) 4 1 (fun z => nomatch z) rfl fun T kV doc pm an cdv ct us its h1 h2 => match us, its, h1, h2 with | [_, _, _, _], [_, _, _, _], _, _ => ⟨_, rfl, rfl⟩
  obtain ⟨ds0, v0, b0⟩ := F_init.binds1 (ps := psBook) 7 4 (fun z => nomatch z) rfl fun T kV doc pm an cdv ct us its h1 h2 => match us, its, h1, h2 with | [_, _, _, _, _, _, _], [_, _, _, _], _, _ => ⟨_, rfl, rfl⟩
  have e0 : ds0 = [] := by cases v0; rfl
  subst e0
  have F_g_events := fun_mk (st := s_Book_events) u5_events u6_events u7_events
  have b_g_events := F_g_events.binds (ps := ["self"]) fun _ _ _ _ _ _ us hl => match us, hl with | [_], _ => rfl
  have F_Wr := fun_mk (st := s_Wrong_init) lWr cWr kWr
  have b_Wr := F_Wr.binds (ps := ["self", "place"]) fun _ _ _ _ _ _ us hl => match us, hl with | [_, _], _ => rfl
  have OWr : OexC K CWr := ⟨⟨_, _, _, _, _, _, _, _, _, _, _, _, _, _, _, xlWr, xvWr⟩, xsWr, xeWr, xtWr, xkWr⟩
  have xmWr := exm_of yeE yiE ytE ysWr
  have XCWr : ExcC K CWr := ⟨xgWr, xaWr, xeWr, xhWr, xcWr, oc2, oc3, xoWr⟩
  have XFWr : XfC K CWr := ⟨xgWr, xaWr, xeWr, xhWr⟩
  have F_To := fun_mk (st := s_TooMany_init) lTo cTo kTo
  have b_To := F_To.binds (ps := ["self", "limit"]) fun _ _ _ _ _ _ us hl => match us, hl with | [_, _], _ => rfl
  have OTo : OexC K CTo := ⟨⟨_, _, _, _, _, _, _, _, _, _, _, _, _, _, _, xlTo, xvTo⟩, xsTo, xeTo, xtTo, xkTo⟩
  have xmTo := exm_of yeE yiE ytE ysTo
  have XCTo : ExcC K CTo := ⟨xgTo, xaTo, xeTo, xhTo, xcTo, oc2, oc3, xoTo⟩
  have XFTo : XfC K CTo := ⟨xgTo, xaTo, xeTo, xhTo⟩
  have F_Ba := fun_mk (st := s_BadItem_init) lBa cBa kBa
  have b_Ba := F_Ba.binds (ps := ["self", "place", "index"]) fun _ _ _ _ _ _ us hl => match us, hl with | [_, _, _], _ => rfl
  have OBa : OexC K CBa := ⟨⟨_, _, _, _, _, _, _, _, _, _, _, _, _, _, _, xlBa, xvBa⟩, xsBa, xeBa, xtBa, xkBa⟩
  have xmBa := exm_of yeE yiE ytE ysBa
  have XCBa : ExcC K CBa := ⟨xgBa, xaBa, xeBa, xhBa, xcBa, oc2, oc3, xoBa⟩
  have XFBa : XfC K CBa := ⟨xgBa, xaBa, xeBa, xhBa⟩
  have HT : HearY K mg CWr CTo CBa CE := ⟨PySem.W.mg_of X G aE, PySem.W.mg_of X G aWr, PySem.W.mg_of X G aTo, PySem.W.mg_of X G aBa, xmWr, xmTo, xmBa, XCWr, XFWr, XCTo, XFTo, XCBa, XFBa, x0Wr, x0To, x0Ba, x1Ba, kit_self _, kit_ref nWT xiTo xtTo sWT, kit_ref nWB xiBa xtBa sWB, kit_ref nTW xiWr xtWr sTW, kit_self _, kit_ref nTB xiBa xtBa sTB, kit_ref nBW xiWr xtWr sBW, kit_ref nBT xiTo xtTo sBT, kit_self _⟩
  refine ⟨PySem.W.fnOf "law" "law" (defArgs s_law) (defBody s_law) (defScope s_law) .none kV_law dc_law pm_law an_law cd_law ct_law, fun s v => .of_eq rfl, fun base _ _ => ?_⟩
  have EWr : ErrG P w K mg base "Wrong" CWr ["self", "place"] (spErr1 CWr "place") := ⟨⟨_, _, iWr, tWr, ok_Wrong F_Wr OWr x0Wr, b_Wr⟩, OWr, PySem.W.mg_of X G aWr⟩
  have ETo : ErrG P w K mg base "TooMany" CTo ["self", "limit"] (spErr1 CTo "limit") := ⟨⟨_, _, iTo, tTo, ok_TooMany F_To OTo x0To, b_To⟩, OTo, PySem.W.mg_of X G aTo⟩
  have EBa : ErrG P w K mg base "BadItem" CBa ["self", "place", "index"] (spErr2 CBa "place" "index") := ⟨⟨_, _, iBa, tBa, ok_BadItem F_Ba OBa x0Ba x1Ba, b_Ba⟩, OBa, PySem.W.mg_of X G aBa⟩
  have p_events : PrpG P w K mg base C "events" "_events" := ⟨⟨_, _, _, ⟨u1_events, u2_events, u3_events, ⟨_, u4_events⟩⟩, ok_get_events F_g_events Bk, b_g_events⟩, Bk.own.cl⟩
  have h_is_integer : Cal P w K mg base CX0 1 "is_integer" ["thing"] (spB intB K) := ⟨_, _, PySem.W.mg_of X G a_is_integer, k_is_integer, b_is_integer, ok_is_integer F_is_integer Tw⟩
  have h_is_number : Cal P w K mg base CX0 2 "is_number" ["thing"] (spB numB K) := ⟨_, _, PySem.W.mg_of X G a_is_number, k_is_number, b_is_number, ok_is_number F_is_number Tw h_is_integer⟩
  have h_is_kind : Cal P w K mg base CX0 1 "is_kind" ["thing"] (spB kindB K) := ⟨_, _, PySem.W.mg_of X G a_is_kind, k_is_kind, b_is_kind, ok_is_kind F_is_kind Tw⟩
  have h_is_tuple : Cal P w K mg base CX0 1 "is_tuple" ["thing", "many"] (spTu K) := ⟨_, _, PySem.W.mg_of X G a_is_tuple, k_is_tuple, b_is_tuple, ok_is_tuple F_is_tuple Tw⟩
  have h_is_below : Cal P w K mg base CX0 2 "is_below" ["thing", "many"] (spBelow K) := ⟨_, _, PySem.W.mg_of X G a_is_below, k_is_below, b_is_below, ok_is_below F_is_below h_is_integer⟩
  have h_is_side : Cal P w K mg base CX0 1 "is_side" ["thing"] (spB sideB K) := ⟨_, _, PySem.W.mg_of X G a_is_side, k_is_side, b_is_side, ok_is_side F_is_side Tbo.toIt4⟩
  have h__can_stand : Cal P w K mg base CX0 3 "_can_stand" ["word", "values", "place", "events", "witnesses"] (spCan K) := ⟨_, _, PySem.W.mg_of X G a__can_stand, k__can_stand, b__can_stand, ok_can_stand F__can_stand h_is_below h_is_side h_is_kind h_is_number⟩
  have h_first_wrong : Cal P w K mg base CX0 4 "first_wrong" ["part", "values", "events", "witnesses"] (spFw K) := ⟨_, _, PySem.W.mg_of X G a_first_wrong, k_first_wrong, b_first_wrong, ok_first_wrong F_first_wrong Tbo.toIt4 h__can_stand⟩
  have h_is_item : Cal P w K mg base CX0 5 "is_item" ["part", "thing", "events", "witnesses"] (spItem K) := ⟨_, _, PySem.W.mg_of X G a_is_item, k_is_item, b_is_item, ok_is_item F_is_item Tbo.toIt4 h_is_tuple h_first_wrong⟩
  have h__check_arguments : Cal P w K mg base CX0 3 "_check_arguments" ["events", "witnesses", "parts"] (spCa K) := ⟨_, _, PySem.W.mg_of X G a__check_arguments, k__check_arguments, b__check_arguments, ok_check_arguments F__check_arguments Tbo h_is_below⟩
  have h__check_items : Cal P w K mg base CX0 6 "_check_items" ["place", "part", "items", "events", "witnesses"] (spCi K) := ⟨_, _, PySem.W.mg_of X G a__check_items, k__check_items, b__check_items, ok_check_items F__check_items Tbo h_is_item⟩
  have c_Book : BookG P w K mg base C ⟨fI, _, d1, d2, d3, d4, ds, ds4, ds3⟩ := ⟨⟨mkC, iC, fI_, kC⟩, ok_init F_init Tbo Bk h__check_arguments h__check_items, b0, v2, b2, v4, b4, v3, b3, fun H => ⟨.inr ⟨_, _, _, ld1, rfl, rfl, by show 0 ≤ sizeLine; decide, .nil⟩, .inr ⟨_, _, _, ld2, rfl, rfl, by show 0 ≤ sizeLine; decide, .nil⟩, .inr ⟨_, _, _, ld3, rfl, rfl, by show 0 ≤ sizeLine; decide, .nil⟩, .inr ⟨_, _, _, ld4, rfl, rfl, by show 0 ≤ sizeLine; decide, .nil⟩⟩, PySem.W.mg_of X G aC, Bk⟩
  have h_bag : Cal P w K mg base CX0 1 "_law_bag" ["_law_script"] (spBag K) := ⟨_, _, PySem.W.mg_of X G a_bag, k_bag, b_bag, ok_bag F_bag Tl⟩
  have h_take : Cal P w K mg base CX0 1 "_law_take" ["_law_bag_here", "_law_many"] spTake := ⟨_, _, PySem.W.mg_of X G a_take, k_take, b_take, ok_take F_take Tl⟩
  have h_one : Cal P w K mg base CX0 2 "_law_one" ["_law_bag_here", "_law_menu"] (spOne K) := ⟨_, _, PySem.W.mg_of X G a_one, k_one, b_one, ok_one F_one Tl h_take⟩
  have h_kind : Cal P w K mg base CX0 2 "_law_kind" ["_law_bag_here"] spKnd := ⟨_, _, PySem.W.mg_of X G a_kind, k_kind, b_kind, ok_kind F_kind Tl h_take⟩
  have h_good : Cal P w K mg base CX0 3 "_law_good" ["_law_bag_here", "_law_part"] spGood := ⟨_, _, PySem.W.mg_of X G a_good, k_good, b_good, ok_good F_good Tl h_take h_one h_kind⟩
  have h_spoilt_number : Cal P w K mg base CX0 3 "_law_spoilt_number" ["_law_bag_here"] (spSpoiltN K) := ⟨_, _, PySem.W.mg_of X G a_spoilt_number, k_spoilt_number, b_spoilt_number, ok_spoiltN F_spoilt_number Tl h_one⟩
  have h_beyond : Cal P w K mg base CX0 9 "_law_beyond" ["_law_bag_here", "_law_many"] (spBeyond K) := ⟨_, _, PySem.W.mg_of X G a_beyond, k_beyond, b_beyond, ok_beyond F_beyond Tl h_one c_Book⟩
  have h_spoilt : Cal P w K mg base CX0 10 "_law_spoilt" ["_law_bag_here", "_law_part", "_law_item", "_law_events", "_law_witnesses"] (spSpoilt K) := ⟨_, _, PySem.W.mg_of X G a_spoilt, k_spoilt, b_spoilt, ok_spoilt F_spoilt Tl h_take h_one h_beyond h_spoilt_number c_Book⟩
  have hX__check_arguments : Cal P w K mg base (L2.CX P w) 3 "_check_arguments" ["events", "witnesses", "parts"] (spCaY K CWr) := ⟨_, _, PySem.W.mg_of X G a__check_arguments, k__check_arguments, b__check_arguments, ok_check_argumentsY F__check_arguments Tbo h_is_below EWr⟩
  have hX__check_items : Cal P w K mg base (L2.CX P w) 6 "_check_items" ["place", "part", "items", "events", "witnesses"] (spCiX K CTo CBa) := ⟨_, _, PySem.W.mg_of X G a__check_items, k__check_items, b__check_items, ok_check_itemsX F__check_items Tbo h_is_item ETo EBa⟩
  have c_BookY : BookGY P w K mg base C CWr CTo CBa fI _ := ⟨⟨mkC, iC, fI_, kC⟩, ok_initY F_init Tbo Bk hX__check_arguments hX__check_items, b0, PySem.W.mg_of X G aC⟩
  have h_heard : Cal P w K mg base CX0 9 "_law_heard" ["_law_things"] (spHeardY K) := ⟨_, _, PySem.W.mg_of X G a_heard, k_heard, b_heard, ok_heardY F_heard Tl c_BookY p_events HT⟩
  have h_due : Cal P w K mg base CX0 1 "_law_due" ["_law_things", "_law_spoilt_here"] (spDueY K) := ⟨_, _, PySem.W.mg_of X G a_due, k_due, b_due, ok_dueY F_due Tl⟩
  have h_deep_right : Cal P w K mg base CX0 10 "_law_deep_right" [] spDeep := ⟨_, _, PySem.W.mg_of X G a_deep_right, k_deep_right, b_deep_right, ok_deep F_deep_right Tl h_heard⟩
  exact ok_law F_law Tl h_bag h_take h_one h_good h_spoilt h_heard h_due h_deep_right c_Book
end EL

open PySem PySem.W PyProof.Rows
set_option maxRecDepth 100000 in
set_option maxHeartbeats 0 in
theorem PySem.Challenge.cw_earlyorlate_k14_books_refused_holds : PySem.Challenge.rw_earlyorlate_k14_books_refused.Holds := by
  w_on; o_law; k_head; (case hw => w_witness2)
  k_fill
  refine EL.walk_all (l := PySem.Challenge.rw_earlyorlate_k14_books_refused) (k := 12) rfl rfl ⟨rfl, by decide, by decide⟩ (fun w h Y => PySem.W.kIn_of Y) ?F
  case F =>
    intro w mg fa h KX G hmg
    refine' EL.all_mk KX G hmg ?a_is_integer ?l_is_integer ?c_is_integer ?k_is_integer ?a_is_number ?l_is_number ?c_is_number ?k_is_number ?a_is_kind ?l_is_kind ?c_is_kind ?k_is_kind ?a_is_tuple ?l_is_tuple ?c_is_tuple ?k_is_tuple ?a_is_below ?l_is_below ?c_is_below ?k_is_below ?a_is_side ?l_is_side ?c_is_side ?k_is_side ?a__can_stand ?l__can_stand ?c__can_stand ?k__can_stand ?a_first_wrong ?l_first_wrong ?c_first_wrong ?k_first_wrong ?a_is_item ?l_is_item ?c_is_item ?k_is_item ?a__check_arguments ?l__check_arguments ?c__check_arguments ?k__check_arguments ?a__check_items ?l__check_items ?c__check_items ?k__check_items ?a_bag ?l_bag ?c_bag ?k_bag ?a_take ?l_take ?c_take ?k_take ?a_one ?l_one ?c_one ?k_one ?a_kind ?l_kind ?c_kind ?k_kind ?a_good ?l_good ?c_good ?k_good ?a_spoilt_number ?l_spoilt_number ?c_spoilt_number ?k_spoilt_number ?a_beyond ?l_beyond ?c_beyond ?k_beyond ?a_spoilt ?l_spoilt ?c_spoilt ?k_spoilt ?a_heard ?l_heard ?c_heard ?k_heard ?a_due ?l_due ?c_due ?k_due ?a_deep_right ?l_deep_right ?c_deep_right ?k_deep_right ?a_law ?l_law ?c_law ?k_law ?z_len ?z_isinstance ?z_int ?z_bool ?z_str ?z_list ?z_tuple ?z_range ?z_enumerate ?z_zip ?z_abs ?z_repr ?z_min ?z_max ?z_sum ?z_all ?gGN ?gForms ?lForms ?kForms ?ntel ?ltel ?ngap ?lgap ?nsur ?lsur ?ncla ?lcla ?gParts ?lParts ?gtE ?gtW ?gtI ?aC ?iC ?fI_ ?lI ?cI ?kI ?lT ?ld1 ?ld2 ?ld3 ?ld4 ?pg ?hd ?po ?sa ?mkC ?kC ?nf0 ?nf1 ?nf2 ?nf3 ?nf4 ?nf5 ?oc1 ?oc2 ?oc3 ?oc4 ?kt0 ?kt1 ?kt2 ?kt3 ?kt4 ?u1_events ?u2_events ?u3_events ?u4_events ?u5_events ?u6_events ?u7_events ?aE ?yeE ?yiE ?ytE ?aWr ?iWr ?tWr ?lWr ?cWr ?kWr ?xlWr ?xvWr ?xsWr ?xeWr ?xtWr ?xkWr ?xgWr ?xaWr ?xhWr ?xcWr ?xoWr ?xiWr ?ysWr ?x0Wr ?aTo ?iTo ?tTo ?lTo ?cTo ?kTo ?xlTo ?xvTo ?xsTo ?xeTo ?xtTo ?xkTo ?xgTo ?xaTo ?xhTo ?xcTo ?xoTo ?xiTo ?ysTo ?x0To ?aBa ?iBa ?tBa ?lBa ?cBa ?kBa ?xlBa ?xvBa ?xsBa ?xeBa ?xtBa ?xkBa ?xgBa ?xaBa ?xhBa ?xcBa ?xoBa ?xiBa ?ysBa ?x0Ba ?x1Ba ?nWT ?sWT ?nWB ?sWB ?nTW ?sTW ?nTB ?sTB ?nBW ?sBW ?nBT ?sBT
    (case a_is_integer => k_is)
    (case l_is_integer => k_is)
    (case c_is_integer => k_is)
    (case k_is_integer => k_is)
    (case a_is_number => k_is)
    (case l_is_number => k_is)
    (case c_is_number => k_is)
    (case k_is_number => k_is)
    (case a_is_kind => k_is)
    (case l_is_kind => k_is)
    (case c_is_kind => k_is)
    (case k_is_kind => k_is)
    (case a_is_tuple => k_is)
    (case l_is_tuple => k_is)
    (case c_is_tuple => k_is)
    (case k_is_tuple => k_is)
    (case a_is_below => k_is)
    (case l_is_below => k_is)
    (case c_is_below => k_is)
    (case k_is_below => k_is)
    (case a_is_side => k_is)
    (case l_is_side => k_is)
    (case c_is_side => k_is)
    (case k_is_side => k_is)
    (case a__can_stand => k_is)
    (case l__can_stand => k_is)
    (case c__can_stand => k_is)
    (case k__can_stand => k_is)
    (case a_first_wrong => k_is)
    (case l_first_wrong => k_is)
    (case c_first_wrong => k_is)
    (case k_first_wrong => k_is)
    (case a_is_item => k_is)
    (case l_is_item => k_is)
    (case c_is_item => k_is)
    (case k_is_item => k_is)
    (case a__check_arguments => k_is)
    (case l__check_arguments => k_is)
    (case c__check_arguments => k_is)
    (case k__check_arguments => k_is)
    (case a__check_items => k_is)
    (case l__check_items => k_is)
    (case c__check_items => k_is)
    (case k__check_items => k_is)
    (case a_bag => k_is)
    (case l_bag => k_is)
    (case c_bag => k_is)
    (case k_bag => k_is)
    (case a_take => k_is)
    (case l_take => k_is)
    (case c_take => k_is)
    (case k_take => k_is)
    (case a_one => k_is)
    (case l_one => k_is)
    (case c_one => k_is)
    (case k_one => k_is)
    (case a_kind => k_is)
    (case l_kind => k_is)
    (case c_kind => k_is)
    (case k_kind => k_is)
    (case a_good => k_is)
    (case l_good => k_is)
    (case c_good => k_is)
    (case k_good => k_is)
    (case a_spoilt_number => k_is)
    (case l_spoilt_number => k_is)
    (case c_spoilt_number => k_is)
    (case k_spoilt_number => k_is)
    (case a_beyond => k_is)
    (case l_beyond => k_is)
    (case c_beyond => k_is)
    (case k_beyond => k_is)
    (case a_spoilt => k_is)
    (case l_spoilt => k_is)
    (case c_spoilt => k_is)
    (case k_spoilt => k_is)
    (case a_heard => k_is)
    (case l_heard => k_is)
    (case c_heard => k_is)
    (case k_heard => k_is)
    (case a_due => k_is)
    (case l_due => k_is)
    (case c_due => k_is)
    (case k_due => k_is)
    (case a_deep_right => k_is)
    (case l_deep_right => k_is)
    (case c_deep_right => k_is)
    (case k_deep_right => k_is)
    (case a_law => k_is)
    (case l_law => k_is)
    (case c_law => k_is)
    (case k_law => k_is)
    (case z_len => k_is)
    (case z_isinstance => k_is)
    (case z_int => k_is)
    (case z_bool => k_is)
    (case z_str => k_is)
    (case z_list => k_is)
    (case z_tuple => k_is)
    (case z_range => k_is)
    (case z_enumerate => k_is)
    (case z_zip => k_is)
    (case z_abs => k_is)
    (case z_repr => k_is)
    (case z_min => k_is)
    (case z_max => k_is)
    (case z_sum => k_is)
    (case z_all => k_is)
    (case gGN => k_is)
    (case gForms => k_is)
    (case lForms => k_is)
    (case kForms => exact ⟨⟨_, _, rfl, rfl⟩, ⟨_, _, rfl, rfl⟩, ⟨_, _, rfl, rfl⟩, ⟨_, _, rfl, rfl⟩, trivial⟩)
    (case ntel => k_is)
    (case ltel => k_is)
    (case ngap => k_is)
    (case lgap => k_is)
    (case nsur => k_is)
    (case lsur => k_is)
    (case ncla => k_is)
    (case lcla => k_is)
    (case gParts => k_is)
    (case lParts => k_is)
    (case gtE => k_is)
    (case gtW => k_is)
    (case gtI => k_is)
    (case aC => k_is)
    (case iC => k_is)
    (case fI_ => k_is)
    (case lI => k_is)
    (case cI => k_is)
    (case kI => k_is)
    (case lT => k_is)
    (case ld1 => k_is)
    (case ld2 => k_is)
    (case ld3 => k_is)
    (case ld4 => k_is)
    (case pg => k_is)
    (case hd => k_is)
    (case po => k_is)
    (case sa => k_is)
    (case mkC => k_is)
    (case kC => k_is)
    (case nf0 => k_is)
    (case nf1 => k_is)
    (case nf2 => k_is)
    (case nf3 => k_is)
    (case nf4 => k_is)
    (case nf5 => k_is)
    (case oc1 => k_is)
    (case oc2 => k_is)
    (case oc3 => k_is)
    (case oc4 => k_is)
    (case kt0 => k_is)
    (case kt1 => k_is)
    (case kt2 => k_is)
    (case kt3 => k_is)
    (case kt4 => k_is)
    (case u1_events => k_is)
    (case u2_events => k_is)
    (case u3_events => k_is)
    (case u4_events => k_is)
    (case u5_events => k_is)
    (case u6_events => k_is)
    (case u7_events => k_is)
    (case aE => k_is)
    (case yeE => k_is)
    (case yiE => k_is)
    (case ytE => k_is)
    (case aWr => k_is)
    (case iWr => k_is)
    (case tWr => k_is)
    (case lWr => k_is)
    (case cWr => k_is)
    (case kWr => k_is)
    (case xlWr => k_is)
    (case xvWr => decide)
    (case xsWr => k_is)
    (case xeWr => k_is)
    (case xtWr => k_is)
    (case xkWr => k_is)
    (case xgWr => k_is)
    (case xaWr => k_is)
    (case xhWr => k_is)
    (case xcWr => k_is)
    (case xoWr => k_is)
    (case xiWr => k_is)
    (case ysWr => k_is)
    (case x0Wr => k_is)
    (case aTo => k_is)
    (case iTo => k_is)
    (case tTo => k_is)
    (case lTo => k_is)
    (case cTo => k_is)
    (case kTo => k_is)
    (case xlTo => k_is)
    (case xvTo => decide)
    (case xsTo => k_is)
    (case xeTo => k_is)
    (case xtTo => k_is)
    (case xkTo => k_is)
    (case xgTo => k_is)
    (case xaTo => k_is)
    (case xhTo => k_is)
    (case xcTo => k_is)
    (case xoTo => k_is)
    (case xiTo => k_is)
    (case ysTo => k_is)
    (case x0To => k_is)
    (case aBa => k_is)
    (case iBa => k_is)
    (case tBa => k_is)
    (case lBa => k_is)
    (case cBa => k_is)
    (case kBa => k_is)
    (case xlBa => k_is)
    (case xvBa => decide)
    (case xsBa => k_is)
    (case xeBa => k_is)
    (case xtBa => k_is)
    (case xkBa => k_is)
    (case xgBa => k_is)
    (case xaBa => k_is)
    (case xhBa => k_is)
    (case xcBa => k_is)
    (case xoBa => k_is)
    (case xiBa => k_is)
    (case ysBa => k_is)
    (case x0Ba => k_is)
    (case x1Ba => k_is)
    (case nWT => decide)
    (case sWT => k_is)
    (case nWB => decide)
    (case sWB => k_is)
    (case nTW => decide)
    (case sTW => k_is)
    (case nTB => decide)
    (case sTB => k_is)
    (case nBW => decide)
    (case sBW => k_is)
    (case nBT => decide)
    (case sBT => k_is)
