import PyProof.Rows.All
import Wide.All
import OpenK.AllK
import Wide.FinOn
import HandS.ForMost
import HandS.ForExc
import HandS.More
import HandS.Flow
import HandS.Style
import HandS.IsInst
import HandS.Property
import HandS.OwnEq
import HandS.Evl
import KE.GoesEnum
import HandS.SortKw
import KE.GoesEnumKw
import HandS.Walk
import HandS.TupAny
import PySem.Challenge.RW_earlyorlate_k81_contraries_told
import HandS.Defaults
import HandS.ExcField
import HandS.ExcIs
import KE.KExcIs
import KE.KUnpackStar
import HandS.ExcInit
import HandS.Small
import HandS.MakeKw
import HandS.ClsMeth
import HandS.Star
set_option Elab.async false
set_option linter.all false
set_option maxRecDepth 100000
set_option maxHeartbeats 4000000
/- part P0 -/
/-! Early or late: own words over the hand layer. Part 0: defs that know that no repr is under way. -/
namespace EL
open PySem PySem.Spec PyProof.Rows L2
open PySem.W (Frag)

/-- no repr is under way around -/
abbrev Quiet (A : Around) : Prop := A.guards = some []

/-- a def's promise, for callers around which no repr is under way -/
structure FnG (P : Program) (w : World) (K : Frag) (mg : Str → Option Value) (base : Heap) (X : CXT) (k : Nat) (f : Addr) (fd : FuncData) (ps : List Str) (sp : Sp) : Prop where
  len : ∀ vs H Q E, sp vs H Q E → vs.length = ps.length
  run : ∀ (A : Around) (out : List Env) (s : Shared) (H : Hp) (args : Args) (us : List Value) (vs : List V) (Q : VK) (E : XK),
    Room k A → Quiet A → Env0 P w K mg base A out s H → BindsTo s fd args (ps.zip us) → Vals vs us → sp vs H Q E →
    codeAny (model P w) A (.call (.ref f) args) (CR X out P w H s Q E) s

theorem FnG.of {P : Program} {w : World} {K : Frag} {mg : Str → Option Value} {base : Heap} {X : CXT} {k : Nat} {f : Addr} {fd : FuncData} {ps : List Str} {sp : Sp}
    (F : FnOk P w K mg base X k f fd ps sp) : FnG P w K mg base X k f fd ps sp :=
  ⟨F.len, fun A out s H args us vs Q E hr _ he hb hv hs => F.run A out s H args us vs Q E hr he hb hv hs⟩

theorem FnG.up {P : Program} {w : World} {K : Frag} {mg : Str → Option Value} {base : Heap} {X : CXT} {j k : Nat} {f : Addr} {fd : FuncData} {ps : List Str} {sp : Sp}
    (F : FnG P w K mg base X j f fd ps sp) (h : j ≤ k) : FnG P w K mg base X k f fd ps sp :=
  ⟨F.len, fun A out s H args us vs Q E hr => F.run A out s H args us vs Q E (hr.mono h)⟩

/-- the end of a body, told to the caller -/
theorem ended {X : CXT} {P : Program} {w : World} {K : Frag} {mg : Str → Option Value} {base : Heap} {N : List Str} {qual : Str} {sc : Scope} {f : Addr} {cd : Value} {A : Around} {out : List Env}
    {s s' : Shared} {H H' : Hp} {E : XK} {Q : VK} {σ : L2.St} {v : V} {u : Value}
    (J : Inv (cxOf X P w K mg base N qual sc f cd A out s H E) [] σ H' s') (rv : RelV v u) (q : Q v H') : CE out P w H s Q u s' :=
  ⟨v, H', J.os, J.bare, J.base, J.hok, rv, q⟩

theorem fnG_of {X : CXT} {P : Program} {w : World} {K : Frag} {mg : Str → Option Value} {base : Heap} {k : Nat} {x qual : Str} {st : Stmt} {f : Addr} {fd : FuncData} {N ps : List Str} {sp : Sp}
    (F : Fun K x qual st f fd) (S : FnScope N ps (defScope st)) (len : ∀ vs H Q E, sp vs H Q E → vs.length = ps.length)
    (hbody : ∀ (cd : Value) (A : Around) (out : List Env) (s : Shared) (H : Hp) (vs : List V) (Q : VK) (E : XK), Room k (A.deeper (envOfC qual (defScope st) s.heap.objs.size f cd)) →
      Quiet (A.deeper (envOfC qual (defScope st) s.heap.objs.size f cd)) → sp vs H Q E →
      ∃ t, PSs (cxOf X P w K mg base N qual (defScope st) f cd A out s H E) (defBody st) t ∧ t { nx := fun _ H' => Q .non H', rt := Q } (start N vs) H) :
    FnG P w K mg base X (k + 1) f fd ps sp := by
  obtain ⟨oc, od, kV, doc, pm, an, cd, ct, osl, rfl, lk, hcd⟩ := F.ex
  constructor
  · exact len
  intro A out s H args us vs Q E hr hg e0 hb r hsp
  have old : ∀ b o, base.get? b = some o → s.heap.get? b = some o := fun b o e => (e0.bs b o e).1
  have KX := e0.mod.kin.keeps old
  have kinds : ∀ y ∈ ps.zip us, (defScope st).names.lookup y.1 = some .local ∨ ((defScope st).names.lookup y.1 = some .cell ∧ ((cellsFrom (s.heap.objs.size + 1) (defScope st).names []).lookup y.1).isSome = true) := by
    rintro ⟨n, v⟩ hy
    cases S.par n (List.of_mem_zip hy).1 with
    | inl q => exact .inl q
    | inr q => exact .inr ⟨q, PySem.W.cellsFrom_some _ _ _ (.inl q)⟩
  apply codeAny_call_function hr.depth (KX _ _ lk) rfl S.co S.gen rfl (PySem.W.codeRec_of KX hcd)
  apply hb
  apply wpAny_newFunctionEnv_cells S.kind kinds
  rintro env rfl s1 x
  refine ⟨(e0.mod.nolimit.keeps old).keeps x.toInCall.keep, codeAny_func ?_⟩
  obtain ⟨t, ht, hq⟩ := hbody cd A out s H vs Q E (hr.deeper _) hg hsp
  have I := inv_start (CX := X) (E := E) S hr.hd e0 (len _ _ _ _ hsp) r x
  refine wpAny_mono (ht.run [] s1 _ H _ I hq) ?_ (fun _ _ z => z)
  intro fl s' hs
  cases fl with
  | next =>
    obtain ⟨σ', H', J, q⟩ := hs
    exact ended (v := V.non) (u := Value.none) J rfl q
  | ret u =>
    obtain ⟨v, σ', H', J, rv, q⟩ := hs
    exact ended J rv q
  | brk => exact (let ⟨_, _, _, z⟩ := hs; False.elim z)
  | cont => exact (let ⟨_, _, _, z⟩ := hs; False.elim z)

/-- a def of the module by its name: where it stands, how its arguments bind, its promise -/
structure Cal (P : Program) (w : World) (K : Frag) (mg : Str → Option Value) (base : Heap) (CX : CXT) (k : Nat) (x : Str) (ps : List Str) (sp : Sp) : Prop where
  ex : ∃ f fd, mg x = some (.ref f) ∧ PySem.W.keepIn K (.ref f) = true ∧ Binds K fd ps [] ∧ FnOk P w K mg base CX k f fd ps sp
structure CalG (P : Program) (w : World) (K : Frag) (mg : Str → Option Value) (base : Heap) (CX : CXT) (k : Nat) (x : Str) (ps : List Str) (sp : Sp) : Prop where
  ex : ∃ f fd, mg x = some (.ref f) ∧ PySem.W.keepIn K (.ref f) = true ∧ Binds K fd ps [] ∧ FnG P w K mg base CX k f fd ps sp
theorem Cal.g {P : Program} {w : World} {K : Frag} {mg : Str → Option Value} {base : Heap} {CX : CXT} {k : Nat} {x : Str} {ps : List Str} {sp : Sp} (C : Cal P w K mg base CX k x ps sp) : CalG P w K mg base CX k x ps sp := by
  obtain ⟨f, fd, h1, h2, h3, h4⟩ := C.ex
  exact ⟨f, fd, h1, h2, h3, .of h4⟩
section
variable {X : Cx} {CX : CXT} {k : Nat} {x : Str} {ps : List Str} {sp : Sp} {E : XK} {p pos : Pos} {e : Expr} {es : List Expr} {t : TA}
theorem pe_cal (C : Cal X.prog X.w X.K X.mg X.base CX k x ps sp) (hr : Room k X.A) (hx : Passes CX X E) (ha : PA X (e :: es) t) (hg : Gl X x := by rfl) (hdb : (x == ("__debug__" : Str)) = false := by decide)
    (he : starEach (e :: es) X.env = (false, eval e X.env) :: starEach es X.env := by rfl) (hpl : (backTo pos (starEach es X.env)).any (·.1) = false := by rfl) :
    PE X (.Call (.Name x p) (e :: es) [] pos) (tCall sp [] E t) := by
  obtain ⟨f, fd, h1, h2, h3, h4⟩ := C.ex
  exact pe_call h4 hr hg h1 h2 h3 .nil hx ha hdb he hpl
theorem pe_cal0 (C : Cal X.prog X.w X.K X.mg X.base CX k x ps sp) (hr : Room k X.A) (hx : Passes CX X E) (hg : Gl X x := by rfl) (hdb : (x == ("__debug__" : Str)) = false := by decide) :
    PE X (.Call (.Name x p) [] [] pos) (tCall sp [] E tNil) := by
  obtain ⟨f, fd, h1, h2, h3, h4⟩ := C.ex
  exact pe_call0 h4 hr hg h1 h2 h3 .nil hx hdb
theorem run_calG {f : Addr} {fd : FuncData} {pins : List (Addr × Obj)} {σ : L2.St} {H : Hp} {s : Shared} {Q : VK} {us : List Value} {vs : List V} (F : FnG X.prog X.w X.K X.mg X.base CX k f fd ps sp) (hr : Room k X.A) (hq : Quiet X.A) (hb : Binds X.K fd ps [])
    (hx : Passes CX X E) (I : Inv X pins σ H s) (r : Vals vs us) (h : sp vs H Q E) : wpAny (model X.prog X.w) X.A (call (.ref f) us) (EP X pins σ Q) X.xe s := by
  have hl : us.length = ps.length := r.length.symm.trans (F.len _ _ _ _ h)
  have hb1 := hb s us I.kIn (by rw [List.append_nil]; exact hl)
  rw [List.append_nil] at hb1
  refine wpAny_call (codeAny_mono (F.run X.A X.stack s H ⟨us, []⟩ us vs Q E hr hq I.env0 hb1 r h) ?_)
  rintro (e | fl) s' hz
  · exact hx pins σ H s e s' I hz
  · cases fl with
    | ret u => exact I.after hz
    | next => exact False.elim hz
    | brk => exact False.elim hz
    | cont => exact False.elim hz
theorem pe_calG (C : CalG X.prog X.w X.K X.mg X.base CX k x ps sp) (hr : Room k X.A) (hq : Quiet X.A) (hx : Passes CX X E) (ha : PA X (e :: es) t) (hg : Gl X x := by rfl) (hdb : (x == ("__debug__" : Str)) = false := by decide)
    (he : starEach (e :: es) X.env = (false, eval e X.env) :: starEach es X.env := by rfl) (hpl : (backTo pos (starEach es X.env)).any (·.1) = false := by rfl) :
    PE X (.Call (.Name x p) (e :: es) [] pos) (tCall sp [] E t) := by
  obtain ⟨f, fd, h1, h2, h3, h4⟩ := C.ex
  constructor
  intro pins s σ H Q I h
  apply wpAny_Call_Name_kw
  refine ld_glob I hg h1 (PySem.W.callWith_K (h₀ := X.base) I.ok.mod.kin h2 (thn (ha.run pos pins s σ H _ I h) ?_) he hpl) hdb
  rintro us s1 ⟨vs, H1, I1, r, q⟩
  rw [List.append_nil] at q
  exact ⟨I1.kIn, run_calG h4 hr hq h3 hx I1 r q⟩
theorem pe_calG0 (C : CalG X.prog X.w X.K X.mg X.base CX k x ps sp) (hr : Room k X.A) (hq : Quiet X.A) (hx : Passes CX X E) (hg : Gl X x := by rfl) (hdb : (x == ("__debug__" : Str)) = false := by decide) :
    PE X (.Call (.Name x p) [] [] pos) (tCall sp [] E tNil) := by
  obtain ⟨f, fd, h1, h2, h3, h4⟩ := C.ex
  constructor
  intro pins s σ H Q I h
  apply wpAny_Call_Name_kw
  exact ld_glob I hg h1 (PySem.W.callWith_K0 I.kIn h2 (run_calG (us := []) h4 hr hq h3 hx I .nil h)) hdb
end
end EL

/- part P1 -/
/-! the end of a law whose def wants that no repr is under way -/
namespace EL
open PySem PySem.Spec PyProof.Rows L2
open PySem.W (Frag)

theorem law_from {P : Program} {w : World} {K : Frag} {mg mb : Str → Option Value} {CX : CXT} {k : Nat} {fa a : Addr} {fd : FuncData} {x : Str} {sp : Sp} {s : Shared} {vs : List Value} {H : Hp}
    (KX : K.In s.heap) (hns : s.heap.Ns mainGlobals mg) (hb : s.heap.Ns builtinsNs mb) (hbb : ∀ y : Str, y ≠ "__name__" → mb y = bootBuiltins y) (hlim : s.heap.NoLimit) (hg : s.gens = #[])
    (ha : s.heap.get? a = some { cls := .type "list", data := .seq vs.toArray }) (hr : Room k PySem.callerA)
    (F : ∀ base : Heap, K.In base → base.Ns mainGlobals mg → FnG P w K mg base CX k fa fd [x] sp) (hbind : ∀ (s : Shared) (u : Value), BindsTo s fd ⟨[u], []⟩ [(x, u)])
    (hsp : sp [.ref a] H (fun v _ => v = .bl true) fun _ _ _ => False) (hCX : ∀ e s', CX [] H s (fun _ _ _ => False) e s' → False)
    (hO : Only H) (hok : HOk P w H s.heap) (hA : ∀ b, H b ≠ none → b = a) (hK : H a ≠ none → K.lookup a = none) :
    codeAny (model P w) PySem.callerA (.call (.ref fa) ⟨[.ref a], []⟩) (fun r s' => r = .ok (.ret (.bool true)) ∧ OldK s.heap s'.heap ∧ s'.os = s.os ∧ AllBare s'.gens) s := by
  have free : ∀ {b : Addr} {o : Obj}, s.heap.get? b = some o → (b = a → False) ∨ (H b = none) → (hidT s.heap H).get? b = some o := by
    intro b o e z
    apply hidT_get e
    rcases z with z | z
    · cases q : H b with
      | none => rfl
      | some u => exact (z (hA b (by simp [q]))).elim
    · exact z
  have dict : ∀ {b : Addr} {m : Str → Option Value}, s.heap.Ns b m → (hidT s.heap H).Ns b m := by
    rintro b m ⟨o, es, ep, e, d, r⟩
    refine ⟨o, es, ep, free e (.inl fun z => ?_), d, r⟩
    rw [z, ha] at e
    cases e
    exact nomatch d
  have kin : K.In (hidT s.heap H) := by
    intro b o e
    cases q : H b with
    | none => exact free (KX b o e) (.inr q)
    | some u =>
      have ba := hA b (by simp [q])
      rw [ba] at e q
      rw [hK (by simp [q])] at e
      exact nomatch e
  have M : Mod K mg (hidT s.heap H) := ⟨kin, dict hns, ⟨mb, dict hb, hbb⟩, let ⟨mc, h1, h2⟩ := hlim; ⟨mc, dict h1, h2⟩⟩
  have none_in : ∀ b : Addr, b ∉ ([] : List Addr) := fun b z => by simp at z
  have e0 : Env0 P w K mg (hidT s.heap H) PySem.callerA [] s H :=
    { frames := rfl, mod := M, bs := fun b o e => of_hidT e, bsz := Nat.le_of_eq (hidT_size _ _), funs := trivial, frf := fun b z => (none_in b z).elim, hok := hok, bare := .of_eq hg }
  refine codeAny_mono ((F _ kin (dict hns)).run PySem.callerA [] s H _ [.ref a] [.ref a] _ _ hr rfl e0 (hbind s (.ref a)) (.cons rfl .nil) hsp) ?_
  rintro (e | fl) s' hz
  · exact (hCX e s' hz).elim
  · cases fl with
    | next => exact False.elim hz
    | brk => exact False.elim hz
    | cont => exact False.elim hz
    | ret u =>
      obtain ⟨v, H', os, bare, un, hok', r', q⟩ := hz
      have q2 : v = .bl true := q
      rw [q2] at r'
      have u2 : u = Value.bool true := r'
      rw [u2]
      refine ⟨rfl, OldK.of_keep fun b o e => ?_, os, bare⟩
      rcases hO b with z | ⟨ob, xs, z⟩
      · exact un.keep b o e z (none_in b) (none_in b)
      · have e1 := (hok b _ z).1
        rw [e] at e1
        rw [Option.some.inj e1]
        exact (hok' b _ (un.frzs b ob _ z)).1

theorem law_runs {P : Program} {w : World} {K : Frag} {mg mb : Str → Option Value} {CX : CXT} {k : Nat} {fa a : Addr} {fd : FuncData} {x : Str} {sp : Sp} {s : Shared} {vs : List Value} {ns : List Int}
    (KX : K.In s.heap) (hns : s.heap.Ns mainGlobals mg) (hb : s.heap.Ns builtinsNs mb) (hbb : ∀ y : Str, y ≠ "__name__" → mb y = bootBuiltins y) (hlim : s.heap.NoLimit) (hg : s.gens = #[])
    (ha : s.heap.get? a = some { cls := .type "list", data := .seq vs.toArray }) (hi : IntsAre vs ns) (hl : ns.length ≤ sizeLine) (hr : Room k PySem.callerA)
    (F : ∀ base : Heap, K.In base → base.Ns mainGlobals mg → FnG P w K mg base CX k fa fd [x] sp) (hbind : ∀ (s : Shared) (u : Value), BindsTo s fd ⟨[u], []⟩ [(x, u)])
    (hsp : ∀ H : Hp, Only H → SqL K H a (ns.map V.int) → sp [.ref a] H (fun v _ => v = .bl true) fun _ _ _ => False)
    (hCX : ∀ H e s', CX [] H s (fun _ _ _ => False) e s' → False) :
    codeAny (model P w) PySem.callerA (.call (.ref fa) ⟨[.ref a], []⟩) (fun r s' => r = .ok (.ret (.bool true)) ∧ OldK s.heap s'.heap ∧ s'.os = s.os ∧ AllBare s'.gens) s := by
  have rv := vals_ints hi
  by_cases hk : K.lookup a = none
  · let H : Hp := fun b => if b = a then some (.frz { cls := .type "list", data := .seq vs.toArray } (.lst (ns.map V.int))) else none
    have at_ : H a = some (.frz { cls := .type "list", data := .seq vs.toArray } (.lst (ns.map V.int))) := if_pos rfl
    have other : ∀ b, b ≠ a → H b = none := fun b h => if_neg h
    have hO : Only H := fun b => by
      by_cases q : b = a
      · exact .inr ⟨_, _, by rw [q]; exact at_⟩
      · exact .inl (other b q)
    refine law_from (H := H) KX hns hb hbb hlim hg ha hr F hbind (hsp H hO (.inl (.inr ⟨_, at_⟩))) (hCX H) hO ?_ ?_ fun _ => hk
    · intro b u z
      by_cases q : b = a
      · subst q
        rw [at_] at z
        cases z
        refine ⟨ha, ?_, vs, _, rv, ha⟩
        rw [List.length_map]
        exact hl
      · rw [other b q] at z
        exact nomatch z
    · intro b z
      by_cases q : b = a
      · exact q
      · exact (z (other b q)).elim
  · obtain ⟨o, hk⟩ := Option.ne_none_iff_exists'.mp hk
    have e := KX a o hk
    rw [ha] at e
    cases e
    let H : Hp := fun _ => none
    have hO : Only H := fun _ => .inl rfl
    have hS : SqL K H a (ns.map V.int) := .inr ⟨_, vs.toArray, _, hk, rfl, rfl, rfl, by simpa [hi.length] using hl, by simpa using rv⟩
    exact law_from (H := H) KX hns hb hbb hlim hg ha hr F hbind (hsp H hO hS) (hCX H) hO (fun b u z => nomatch (show (none : Option HO) = some u from z)) (fun b z => (z rfl).elim) fun z => (z rfl).elim

theorem walk_law {l : PySem.W.OpenLaw} {n k : Nat} {q : Program} {loose : List Str} {XP : (Str → Option Value) → Heap → Prop} {YP : World → Heap → Prop} {d : DefRec} {K : Params → Frag} {CX : World → CXT} {sp : World → Sp} {x : Str}
    (hn : l.most = some n) (hn2 : n ≤ sizeLine) (hdf : d.params.defaults = []) (hr : Room k PySem.callerA) (hY : ∀ (w : World) (h : Heap), YP w h → (K w.params).In h)
    (F : ∀ (w : World) (mg : Str → Option Value) (fa : Addr) (h : Heap), (K w.params).In h → h.Ns mainGlobals mg → mg d.name = some (.ref fa) →
      ∃ fd : FuncData, (∀ (s : Shared) (u : Value), BindsTo s fd ⟨[u], []⟩ [(x, u)]) ∧ ∀ base : Heap, (K w.params).In base → base.Ns mainGlobals mg → FnG l.prog w (K w.params) mg base (CX w) k fa fd [x] (sp w))
    (hsp : ∀ (w : World) (H : Hp) (a : Addr) (ns : List Int), ns.length ≤ n → Only H → SqL (K w.params) H a (ns.map V.int) → sp w [.ref a] H (fun v _ => v = .bl true) fun _ _ _ => False)
    (hCX : ∀ (w : World) (H : Hp) (s : Shared) (e : Value) (s' : Shared), CX w [] H s (fun _ _ _ => False) e s' → False) :
    PySem.W.WalkO q loose XP YP l.row.toRowW d [] (fun f vs => PySem.call f vs) := by
  refine Att.attach_call hn hdf ?_
  intro w s₀ s₁ mg mb fa o pm cd doc a vs ns G Y ho hd hcd hmg hobj hints hlen hg
  obtain ⟨fd, hb, hF⟩ := F w mg fa _ (hY w _ Y) G.T.g hmg
  exact law_runs (hY w _ Y) G.T.g G.T.b G.T.builtins G.T.nolimit hg hobj hints (Nat.le_trans hlen hn2) hr hF hb (fun H => hsp w H a ns hlen) fun H => hCX w H s₁
end EL

/- part P2 -/
/-! repr of data, where no repr is under way -/
namespace EL
open PySem PySem.Spec PyProof.Rows L2
open PySem.W (Frag)
mutual
theorem dp_nodict {K : Frag} {H : Hp} : ∀ (d : PyData) (v : V), Dp K H v d → d.hasDict = false
  | .none, _, _ => rfl
  | .bool _, _, _ => rfl
  | .int _, _, _ => rfl
  | .str _, _, _ => rfl
  | .list ds, _, h => by
    cases h with
    | lst _ ha => exact dp_nodictAll ds _ ha
  | .tuple ds, _, h => by
    cases h with
    | tup _ ha => exact dp_nodictAll ds _ ha
  | .dict _, _, h => by cases h
theorem dp_nodictAll {K : Frag} {H : Hp} : ∀ (ds : List PyData) (vs : List V), DpAll K H vs ds → PyData.hasDictAll ds = false
  | [], _, _ => rfl
  | d :: ds, _, h => by
    cases h with
    | cons h1 h2 =>
      show (d.hasDict || PyData.hasDictAll ds) = false
      rw [dp_nodict d _ h1, dp_nodictAll ds _ h2]
      rfl
end
/-- what repr hands back of data -/
def rShow (K : Frag) : List V → Hp → VK → Prop := fun xs H Q => ∃ x d, xs = [x] ∧ Dp K H x d ∧ d.showable = true ∧ d.depth ≤ 50 ∧ d.shown.length ≤ sizeLine ∧ Q (.str d.shown) H
theorem call_show {X : Cx} (hq : Quiet X.A) (hu : X.A.units + 64 < cLine) : CallR X (.builtin "repr") (rShow X.K) := by
  rintro pins s σ H xs us Q I r ⟨x, d, rfl, hd, hs, hdep, hlen, q⟩
  cases r with
  | cons rx rn =>
    rename_i u us
    cases rn
    obtain ⟨as, rd⟩ := Dp.reads I d x u hd rx
    have fin : ∀ t k, EP X pins σ Q (.str d.shown t) { s with toks := k } := fun t k => ⟨V.str d.shown, H, I.tok _, ⟨t, rfl⟩, q⟩
    cases rd with
    | none => exact PySem.P.repr_of_none (fin _ _)
    | bool b => exact PySem.P.repr_of_bool (fin _ _)
    | int i t => exact PySem.P.repr_of_int (by simpa [PyData.showable] using hs) (fin _ _)
    | str y t => exact PySem.P.repr_of_str (fin _ _) hlen
    | list h1 h2 h3 h4 =>
      have nd := dp_nodict _ _ hd
      refine repr_of_reads' (h₀ := s.heap) (.list h1 h2 h3 h4) hs (fun z => by rw [nd] at z; cases z) hq (by omega) (fun _ _ e => e) ?_ hlen
      intro h' t tk k
      exact ⟨V.str _, H, I.kept k, ⟨t, rfl⟩, q⟩
    | tuple h1 h2 h3 h4 =>
      have nd := dp_nodict _ _ hd
      refine repr_of_reads' (h₀ := s.heap) (.tuple h1 h2 h3 h4) hs (fun z => by rw [nd] at z; cases z) hq (by omega) (fun _ _ e => e) ?_ hlen
      intro h' t tk k
      exact ⟨V.str _, H, I.kept k, ⟨t, rfl⟩, q⟩
    | dict h1 h2 h3 h4 h5 => cases hd
theorem call_showE {X : Cx} (hq : Quiet X.A) (hu : X.A.units + 64 < cLine) : CallR X (.builtin "repr") (fun xs H Q => ∃ p, xs = [.ref p] ∧ H p = some (.dK []) ∧ Q (.str (PyData.dict []).shown) H) := by
  rintro pins s σ H xs us Q I r ⟨p, rfl, hp, q⟩
  cases r with
  | cons rx rn =>
    rename_i u us
    cases rn
    cases rx
    obtain ⟨_, ns, vs, kv, o, es, ep, ho, ex, hd, _, pr, _⟩ := I.hok p _ hp
    cases kv
    have e0 : es.toList = [] := by
      generalize es.toList = l at pr
      cases pr
      rfl
    have e1 : es = #[] := Array.toList_inj.mp e0
    subst e1
    have hz : X.A.units + ((PyData.dict []).depth + 1) < cLine := by
      have z : (PyData.dict []).depth ≤ 50 := by decide +kernel
      omega
    refine repr_of_reads' (d := .dict []) (h₀ := s.heap) (.dict ho ex.1 hd .nil .nil) (by decide +kernel) (fun _ z => ?_) hq hz (fun _ _ e => e) ?_ (by decide +kernel)
    · have z' : sysModules = p := by simpa using z
      rw [← z'] at ns
      exact absurd ns (by decide)
    · intro h' t tk k
      exact ⟨V.str _, H, I.kept k, ⟨t, rfl⟩, q⟩
/-- repr of data, or of an empty dict -/
def rShowU (K : Frag) : List V → Hp → VK → Prop := fun xs H Q => rShow K xs H Q ∨ ∃ p, xs = [.ref p] ∧ H p = some (.dK []) ∧ Q (.str (PyData.dict []).shown) H
theorem u_show {X : Cx} (hq : Quiet X.A) (hu : X.A.units + 64 < cLine) : CallR X (.builtin "repr") (rShowU X.K) := (call_show hq hu).or (call_showE hq hu)
end EL

/- part E1 -/
/-! enumerate(v, start=k): how it is made -/
namespace EL
open PySem PySem.Spec PyProof.Rows L2
open PySem.W (Frag)
theorem tcall_enum_kw (a b : Value) : checkTypeCall "enumerate" ⟨[a], [("start", b)]⟩ = pure () := by kernel_rfl
theorem ncall_enum_kw (a b : Value) : checkBuiltinCall "enumerate.__new__" ⟨[.type "enumerate", a], [("start", b)]⟩ = pure () := by kernel_rfl
/-- the enumerate object, before its first turn -/
abbrev enumObj (r : Value) (k : Int) : Obj := { cls := .type "enumerate", data := .fields #[.none, .bool false, r, rawInt k, .none, .none] }
set_option maxHeartbeats 2000000 in
theorem meets_enum_kw {v : Value} {rv : Heap → Value} {f : Heap → Heap} {W : Heap → Prop}
    (IT : ∀ (prog : Program) (w : World) (A : Around) (E : Value → Shared → Prop) (s : Shared) (Q : Value → Shared → Prop), W s.heap → Q (rv s.heap) { s with heap := f s.heap } → wpAny (model prog w) A (pyIter v) Q E s)
    (k : Int) (t : Tok) (fit : Builtin.SmallTypes.fitsIndex k = true) :
    Meets (Builtin.«enumerate.__new__» ⟨[.type "enumerate", v], [("start", .int k t)]⟩) (fun _ R s => W s.heap ∧ R (.ok (.ret (.ref (f s.heap).objs.size))) { s with heap := (f s.heap).push (enumObj (rv s.heap) k) }) :=
  .of_wp fun prog w A R s h => by
    obtain ⟨hp, g, d, tk, os⟩ := s
    obtain ⟨h1, h⟩ := h
    have sub := sub_enumerate
    have nf : (!Builtin.SmallTypes.fitsIndex k) = false := by rw [fit]; rfl
    have go : ∀ {A' : Around} {E : Value → Shared → Prop} {Q : Value → Shared → Prop}, Q (rv hp) ⟨f hp, g, d, tk, os⟩ → wpAny (model prog w) A' (pyIter v) Q E ⟨hp, g, d, tk, os⟩ := fun q => IT prog w _ _ ⟨hp, g, d, tk, os⟩ _ h1 q
    wp_walk using go
    refine wpAny_stack_any fun st => wpAny_pure ?_
    split
    · rename_i c _ _ _ _ _
      cases (c == Value.type "enumerate")
      · wp_walk using go
        exact ⟨_, rfl, h⟩
      · wp_walk using go
        exact ⟨_, rfl, h⟩
    · wp_walk using go
      exact ⟨_, rfl, h⟩
end EL

/- part E2 -/
/-! enumerate over any iterator: one turn; zip over two tuples whose pair may still be about -/
namespace EL
open PySem PySem.Spec PyProof.Rows L2
open PySem.W (Frag)
section
variable {prog : Program} {w : World} {A : Around} {E : Value → Shared → Prop} {s : Shared}
theorem alive {a : Addr} {Q : Option Obj → Shared → Prop} (h : Q (s.heap.get? a) s) : wpAny (model prog w) A (loadIfAlive a) Q E s := fun _ _ _ => h
theorem enum_turn {e it : Addr} {c : Int} {old : Value} {R : Value → Heap → Prop} {Q : Value → Shared → Prop} (he : IsEnum s.heap e it c old)
    (inner : ∀ (Q' E' : Value → Shared → Prop), (∀ x h1 tk, IsEnum h1 e it c old → R x h1 → Q' x { s with heap := h1, toks := tk }) → wpAny (model prog w) A (Builtin.SmallTypes.nextOf (.ref it)) Q' E' s)
    (hQ : ∀ x h1 h' tk, R x h1 → e < h1.objs.size → IsEnumOut h' e it (c + 1) x h1.objs.size → h'.get? h1.objs.size = some { cls := .type "tuple", data := .seq #[.int c tk, x] } → h'.objs.size = h1.objs.size + 1 →
      (∀ b o, b ≠ e → h1.get? b = some o → h'.get? b = some o) → Q (.ref h1.objs.size) { s with heap := h', toks := tk + 1 }) :
    wpAny (model prog w) A (Builtin.«enumerate.__next__» ⟨[.ref e], []⟩) (fun fin s' => ∃ v, fin = .done (.ret v) ∧ Q v s') E s := by
  obtain ⟨hp, g, d, tk0, os⟩ := s
  refine wpAny_bind (m := field (.ref e) 2) (wpAny_field he rfl (x := .ref it) rfl (wpAny_bind (inner _ _ fun x h1 tk e1 r1 => ?_)))
  have lt : e < h1.objs.size := Heap.lt_size e1
  refine wpAny_bind (m := field (.ref e) 3) (wpAny_field e1 rfl (x := rawInt c) rfl ?_)
  refine wpAny_bind (m := field (.ref e) 4) (wpAny_field e1 rfl (x := .none) rfl ?_)
  refine wpAny_bind (m := mkInt c) (wpAny_mkInt ?_)
  refine wpAny_bind (m := setField (.ref e) 3 (rawInt (c + 1))) (wpAny_setField_rec e1 (by simp) fun h2 e2 k2 => ?_)
  have e2' : IsEnum h2 e it (c + 1) old := e2
  refine wpAny_bind (m := setField (.ref e) 4 .none) (wpAny_setField_rec e2' (by simp) fun h3 e3 k3 => ?_)
  have e3' : IsEnum h3 e it (c + 1) old := e3
  have z3 : h3.objs.size = h1.objs.size := k3.1.trans k2.1
  have up3 : ∀ b o, b ≠ e → h1.get? b = some o → h3.get? b = some o := fun b o hb q => Heap.SameBut.extBut k3 b o hb (Heap.SameBut.extBut k2 b o hb q)
  refine wpAny_bind (m := newTuple [.int c tk, x]) (wpAny_newTuple ?_)
  have e4 : IsEnum (h3.push { cls := .type "tuple", data := .seq #[.int c tk, x] }) e it (c + 1) old := Heap.get?_push_of_some _ e3'
  have t4 : (h3.push { cls := .type "tuple", data := .seq #[.int c tk, x] }).get? h1.objs.size = some { cls := .type "tuple", data := .seq #[.int c tk, x] } := by
    have q := Heap.get?_push_size h3 (o := { cls := .type "tuple", data := .seq #[.int c tk, x] }) rfl
    rw [z3] at q
    exact q
  have s4 : (h3.push { cls := .type "tuple", data := .seq #[.int c tk, x] }).objs.size = h1.objs.size + 1 := (Heap.size_push ..).trans (by rw [z3])
  have up4 : ∀ b o, b ≠ e → h1.get? b = some o → (h3.push { cls := .type "tuple", data := .seq #[.int c tk, x] }).get? b = some o := fun b o hb q => Heap.get?_push_of_some _ (up3 b o hb q)
  refine wpAny_bind (m := Builtin.SmallTypes.ownedTupleIsFree (.ref e)) ?_
  unfold Builtin.SmallTypes.ownedTupleIsFree
  refine wpAny_bind (m := field (.ref e) 0) (wpAny_field e4 rfl (x := .none) rfl (wpAny_pure ?_))
  rw [if_pos rfl]
  refine wpAny_bind (wpAny_rule (wpAny_bind (wpAny_field e4 rfl (x := old) rfl (wpAny_bind (wpAny_setField_rec e4 (by simp) fun h5 e5 k5 => ?_)))))
  have e5' : IsEnum h5 e it (c + 1) x := e5
  show wpAny _ _ (Builtin.SmallTypes.ownedTupleHandOut (.ref e) (.ref h3.objs.size) >>= _) _ _ _
  rw [z3]
  refine wpAny_bind ?_
  unfold Builtin.SmallTypes.ownedTupleHandOut
  refine wpAny_bind (wpAny_setField_rec e5' (by simp) fun h6 e6 k6 => wpAny_setField_rec e6 (by simp) fun h7 e7 k7 => ?_)
  have up : ∀ b o, b ≠ e → h1.get? b = some o → h7.get? b = some o := fun b o hb q =>
    Heap.SameBut.extBut k7 b o hb (Heap.SameBut.extBut k6 b o hb (Heap.SameBut.extBut k5 b o hb (up4 b o hb q)))
  have ne : h1.objs.size ≠ e := Nat.ne_of_gt lt
  refine wpAny_bind (wpAny_letGo (wpAny_pure ⟨_, rfl, hQ x h1 h7 tk r1 lt e7 ?_ ?_ up⟩))
  · exact Heap.SameBut.extBut k7 _ _ ne (Heap.SameBut.extBut k6 _ _ ne (Heap.SameBut.extBut k5 _ _ ne t4))
  · exact k7.1.trans (k6.1.trans (k5.1.trans s4))
end
end EL

/- part E3 -/
/-! one turn of zip(t1, t2), whatever became of the pair that it handed out last -/
namespace EL
open PySem PySem.Spec PyProof.Rows L2
open PySem.W (Frag)
/-- a zip object; f0 tells the pair that is out, b that it was met alive -/
abbrev zipObj (f0 : Value) (b : Bool) (TI TO : Addr) : Obj := { cls := .type "zip", dict := none, data := .fields #[f0, .bool b, .bool false, .ref TI, .ref TO], slots := #[] }
def OutMark (f0 : Value) : Prop := f0 = .none ∨ ∃ a : Addr, f0 = rawInt a
def ZipAt (h : Heap) (z TI TO : Addr) : Prop := ∃ f0 b, h.get? z = some (zipObj f0 b TI TO) ∧ OutMark f0
/-- the cells of the zip and of its two iterators lie apart -/
structure Apart (z TI TO i1 i2 t1 t2 : Addr) : Prop where
  zTI : z ≠ TI
  zTO : z ≠ TO
  zi1 : z ≠ i1
  zi2 : z ≠ i2
  zt1 : z ≠ t1
  zt2 : z ≠ t2
  TITO : TI ≠ TO
  TIi1 : TI ≠ i1
  TIi2 : TI ≠ i2
  TOi1 : TO ≠ i1
  TOi2 : TO ≠ i2
  TOt1 : TO ≠ t1
  TOt2 : TO ≠ t2
  i12 : i1 ≠ i2
  t1i1 : t1 ≠ i1
  t1i2 : t1 ≠ i2
  t2i1 : t2 ≠ i1
  t2i2 : t2 ≠ i2
section
variable {prog : Program} {w : World} {A : Around} {E : Value → Shared → Prop} {s : Shared} {z TI TO i1 i2 t1 t2 : Addr} {xs ys : Array Value} {i : Nat}
/-- what the zip stands on -/
structure ZipSt (h : Heap) (z TI TO i1 i2 t1 t2 : Addr) (xs ys : Array Value) (i : Nat) : Prop where
  zip : ZipAt h z TI TO
  ti : IsTupOf2 h TI (.ref i1) (.ref i2)
  to : ∃ a b, IsTupOf2 h TO a b
  it1 : h.IsTupleIter i1 t1 i
  it2 : h.IsTupleIter i2 t2 i
  tu1 : h.IsTuple t1 xs
  tu2 : h.IsTuple t2 ys
theorem ext_of {x : Addr} {h h' : Heap} (k : Heap.SameBut x h h') : ∀ b o, b ≠ x → h.get? b = some o → h'.get? b = some o := fun b o hb q => Heap.SameBut.extBut k b o hb q
/-- whether the pair is free: if not, the zip notes it -/
theorem free_or {f0 : Value} {b : Bool} {Q : Bool → Shared → Prop} (hz : s.heap.get? z = some (zipObj f0 b TI TO)) (mark : OutMark f0)
    (h1 : Q true s) (h2 : ∀ h' b', h'.get? z = some (zipObj f0 b' TI TO) → h'.objs.size = s.heap.objs.size → (∀ c o, c ≠ z → s.heap.get? c = some o → h'.get? c = some o) → Q false { s with heap := h' }) :
    wpAny (model prog w) A (Builtin.SmallTypes.ownedTupleIsFree (.ref z)) Q E s := by
  unfold Builtin.SmallTypes.ownedTupleIsFree
  rcases mark with rfl | ⟨a, rfl⟩
  · exact wpAny_bind (wpAny_field hz rfl (x := .none) rfl (wpAny_pure h1))
  · refine wpAny_bind (wpAny_field hz rfl (x := rawInt a) rfl ?_)
    refine wpAny_bind (alive ?_)
    have ea : ((a : Nat) : Int).toNat = a := rfl
    cases hal : s.heap.get? ((a : Nat) : Int).toNat with
    | none => exact wpAny_pure h1
    | some o =>
      refine wpAny_bind (m := field (.ref z) 1) (wpAny_field hz rfl (x := .bool b) rfl ?_)
      cases b with
      | true => exact wpAny_pure (h2 s.heap true hz rfl fun _ _ _ q => q)
      | false =>
        refine wpAny_bind (m := setField (.ref z) 1 (.bool true)) (wpAny_setField_rec hz (by simp) fun h' e' k' => wpAny_pure ?_)
        exact h2 h' true e' k'.1 (ext_of k')
theorem drawn {it t : Addr} {vs : Array Value} {v : Value} {Q : Value → Shared → Prop} (hit : s.heap.IsTupleIter it t i) (ht : s.heap.IsTuple t vs) (hv : vs[i]? = some v)
    (h : ∀ h', h'.IsTupleIter it t (i + 1) → Heap.SameBut it s.heap h' → Q v { s with heap := h' }) : wpAny (model prog w) A (Builtin.SmallTypes.nextOf (.ref it)) Q E s :=
  wpAny_nextOf_tuple_item hit ht hv h
theorem zip_turn {x y : Value} {Q : Value → Shared → Prop} (ap : Apart z TI TO i1 i2 t1 t2) (st : ZipSt s.heap z TI TO i1 i2 t1 t2 xs ys i) (hx : xs[i]? = some x) (hy : ys[i]? = some y)
    (hQ : ∀ h' tk, ZipSt h' z TI TO i1 i2 t1 t2 xs ys (i + 1) → IsTupOf2 h' s.heap.objs.size x y → h'.objs.size = s.heap.objs.size + 1 →
      (∀ c o, c ≠ z → c ≠ TO → c ≠ i1 → c ≠ i2 → s.heap.get? c = some o → h'.get? c = some o) → Q (.ref s.heap.objs.size) { s with heap := h', toks := tk }) :
    wpAny (model prog w) A (Builtin.«zip.__next__» ⟨[.ref z], []⟩) (fun fin s' => ∃ v, fin = .done (.ret v) ∧ Q v s') E s := by
  obtain ⟨⟨f0, b, hz, mark⟩, hti, ⟨a0, b0, hto⟩, h1, h2, u1, u2⟩ := st
  obtain ⟨hp, g, d, tk0, os⟩ := s
  replace hz : hp.get? z = some (zipObj f0 b TI TO) := hz
  replace hti : IsTupOf2 hp TI (.ref i1) (.ref i2) := hti
  replace hto : IsTupOf2 hp TO a0 b0 := hto
  replace h1 : hp.IsTupleIter i1 t1 i := h1
  replace h2 : hp.IsTupleIter i2 t2 i := h2
  replace u1 : hp.IsTuple t1 xs := u1
  replace u2 : hp.IsTuple t2 ys := u2
  refine wpAny_bind (m := field (.ref z) 2) (wpAny_field hz rfl (x := .bool false) rfl ?_)
  refine wpAny_bind (m := field (.ref z) 3) (wpAny_field hz rfl (x := .ref TI) rfl ?_)
  refine wpAny_bind (wpAny_seqItems hti rfl ?_)
  have lz : z < hp.objs.size := Heap.lt_size hz
  have an := ap
  refine wpAny_bind (free_or hz mark ?_ ?_)
  · rw [if_pos rfl]
    refine wpAny_bind (wpAny_rule (wpAny_bind (wpAny_field hz rfl (x := .ref TO) rfl (wpAny_bind (wpAny_setField_rec hz (by simp) fun g0 z0 k0 => ?_)))))
    replace z0 : g0.get? z = some (zipObj .ellipsis b TI TO) := z0
    replace k0 : Heap.SameBut z hp g0 := k0
    refine wpAny_bind ?_
    simp only [List.zipIdx_cons, List.zipIdx_nil, List.forIn_cons, List.forIn_nil]
    refine wpAny_bind (wpAny_bind (wpAny_onRaise ?_))
    show wpAny _ _ (Builtin.SmallTypes.nextOf (.ref i1) >>= _) _ _ ⟨g0, g, d, tk0, os⟩
    refine wpAny_bind (drawn (s := ⟨g0, g, d, tk0, os⟩) (h1.at fun o q => ext_of k0 _ _ ap.zi1.symm q) (u1.at fun o q => ext_of k0 _ _ ap.zt1.symm q) hx fun g1 n1 k1 => wpAny_pure ?_)
    replace k1 : Heap.SameBut i1 g0 g1 := k1
    have to1 : IsTupOf2 g1 TO a0 b0 := ext_of k1 _ _ ap.TOi1 (ext_of k0 _ _ ap.zTO.symm hto)
    refine wpAny_bind (wpAny_seqItems (s := ⟨g1, g, d, tk0, os⟩) to1 rfl ?_)
    refine wpAny_bind (updateSeq_IsTupOf2 (s := ⟨g1, g, d, tk0, os⟩) to1 fun g2 to2 k2 => ?_)
    replace k2 : Heap.SameBut TO g1 g2 := k2
    replace to2 : IsTupOf2 g2 TO x b0 := to2
    refine wpAny_bind (wpAny_letGo (wpAny_pure ?_))
    refine wpAny_bind (wpAny_bind (wpAny_onRaise ?_))
    show wpAny _ _ (Builtin.SmallTypes.nextOf (.ref i2) >>= _) _ _ ⟨g2, g, d, tk0, os⟩
    refine wpAny_bind (drawn (s := ⟨g2, g, d, tk0, os⟩) (h2.at fun o q => ext_of k2 _ _ ap.TOi2.symm (ext_of k1 _ _ ap.i12.symm (ext_of k0 _ _ ap.zi2.symm q)))
      (u2.at fun o q => ext_of k2 _ _ ap.TOt2.symm (ext_of k1 _ _ ap.t2i1 (ext_of k0 _ _ ap.zt2.symm q))) hy fun g3 n3 k3 => wpAny_pure ?_)
    replace k3 : Heap.SameBut i2 g2 g3 := k3
    have to3 : IsTupOf2 g3 TO x b0 := ext_of k3 _ _ ap.TOi2 to2
    refine wpAny_bind (wpAny_seqItems (s := ⟨g3, g, d, tk0, os⟩) to3 rfl ?_)
    refine wpAny_bind (updateSeq_IsTupOf2 (s := ⟨g3, g, d, tk0, os⟩) to3 fun g4 to4 k4 => ?_)
    replace k4 : Heap.SameBut TO g3 g4 := k4
    replace to4 : IsTupOf2 g4 TO x y := to4
    refine wpAny_bind (wpAny_letGo (wpAny_pure (wpAny_pure ?_)))
    refine wpAny_bind (wpAny_seqItems (s := ⟨g4, g, d, tk0, os⟩) to4 rfl (wpAny_bind (wpAny_newTuple ?_)))
    have z4 : g4.objs.size = hp.objs.size := by rw [k4.1, k3.1, k2.1, k1.1, k0.1]
    have up4 : ∀ c o, c ≠ z → c ≠ TO → c ≠ i1 → c ≠ i2 → hp.get? c = some o → g4.get? c = some o := fun c o cz cT c1 c2 q =>
      ext_of k4 _ _ cT (ext_of k3 _ _ c2 (ext_of k2 _ _ cT (ext_of k1 _ _ c1 (ext_of k0 _ _ cz q))))
    have zz4 : g4.get? z = some (zipObj .ellipsis b TI TO) := ext_of k4 _ _ ap.zTO (ext_of k3 _ _ ap.zi2 (ext_of k2 _ _ ap.zTO (ext_of k1 _ _ ap.zi1 z0)))
    generalize e5 : g4.push { cls := .type "tuple", data := .seq (#[x, y] : Array Value) } = g5
    have up5 : ∀ c o, g4.get? c = some o → g5.get? c = some o := fun c o q => by rw [← e5]; exact Heap.get?_push_of_some _ q
    have tt5 : IsTupOf2 g5 hp.objs.size x y := by rw [← e5, ← z4]; exact Heap.get?_push_size _ rfl
    have z5 : g5.objs.size = hp.objs.size + 1 := by rw [← e5, Heap.size_push, z4]
    refine wpAny_bind ?_
    show wpAny _ _ (Builtin.SmallTypes.ownedTupleHandOut (.ref z) (.ref g4.objs.size)) _ _ _
    unfold Builtin.SmallTypes.ownedTupleHandOut
    have z5' : g5.get? z = some (zipObj .ellipsis b TI TO) := up5 _ _ zz4
    refine wpAny_bind (wpAny_setField_rec z5' (by simp) fun g6 z6 k6 => ?_)
    replace k6 : Heap.SameBut z g5 g6 := k6
    refine wpAny_setField_rec z6 (by simp) fun g7 z7 k7 => ?_
    replace k7 : Heap.SameBut z g6 g7 := k7
    have up7 : ∀ c o, c ≠ z → g4.get? c = some o → g7.get? c = some o := fun c o cz q => ext_of k7 _ _ cz (ext_of k6 _ _ cz (up5 _ _ q))
    have nz : hp.objs.size ≠ z := Nat.ne_of_gt lz
    refine wpAny_pure ⟨_, rfl, ?_⟩
    show Q (.ref g4.objs.size) ⟨g7, g, d, tk0, os⟩
    rw [z4]
    refine hQ g7 tk0 ⟨⟨rawInt g4.objs.size, false, z7, .inr ⟨_, rfl⟩⟩, ?_, ⟨x, y, up7 _ _ ap.zTO.symm to4⟩, ?_, ?_, ?_, ?_⟩ ?_ ?_ ?_
    · exact up7 _ _ ap.zTI.symm (up4 _ _ ap.zTI.symm ap.TITO ap.TIi1 ap.TIi2 hti)
    · exact n1.at fun o q => up7 _ _ ap.zi1.symm (ext_of k4 _ _ ap.TOi1.symm (ext_of k3 _ _ ap.i12 (ext_of k2 _ _ ap.TOi1.symm q)))
    · exact n3.at fun o q => up7 _ _ ap.zi2.symm (ext_of k4 _ _ ap.TOi2.symm q)
    · exact u1.at fun o q => up7 _ _ ap.zt1.symm (up4 _ _ ap.zt1.symm ap.TOt1.symm ap.t1i1 ap.t1i2 q)
    · exact u2.at fun o q => up7 _ _ ap.zt2.symm (up4 _ _ ap.zt2.symm ap.TOt2.symm ap.t2i1 ap.t2i2 q)
    · exact ext_of k7 _ _ nz (ext_of k6 _ _ nz tt5)
    · rw [k7.1, k6.1, z5]
    · exact fun c o cz cT c1 c2 q => up7 _ _ cz (up4 c o cz cT c1 c2 q)
  · intro h0 b' z0 s0 k0
    replace s0 : h0.objs.size = hp.objs.size := s0
    replace k0 : ∀ c o, c ≠ z → hp.get? c = some o → h0.get? c = some o := k0
    rw [if_neg (by decide)]
    refine wpAny_bind ?_
    simp only [List.forIn_toArray, List.forIn_cons, List.forIn_nil]
    refine wpAny_bind (wpAny_bind (wpAny_holding ?_))
    show wpAny _ _ (Builtin.SmallTypes.nextOf (.ref i1) >>= _) _ _ ⟨h0, g, d, tk0, os⟩
    refine wpAny_bind (drawn (s := ⟨h0, g, d, tk0, os⟩) (h1.at fun o q => k0 _ _ ap.zi1.symm q) (u1.at fun o q => k0 _ _ ap.zt1.symm q) hx fun g1 n1 k1 => wpAny_pure ?_)
    replace k1 : Heap.SameBut i1 h0 g1 := k1
    refine wpAny_pure ?_
    refine wpAny_bind (wpAny_bind (wpAny_holding ?_))
    show wpAny _ _ (Builtin.SmallTypes.nextOf (.ref i2) >>= _) _ _ ⟨g1, g, d, tk0, os⟩
    refine wpAny_bind (drawn (s := ⟨g1, g, d, tk0, os⟩) (h2.at fun o q => ext_of k1 _ _ ap.i12.symm (k0 _ _ ap.zi2.symm q)) (u2.at fun o q => ext_of k1 _ _ ap.t2i1 (k0 _ _ ap.zt2.symm q)) hy fun g2 n2 k2 => wpAny_pure ?_)
    replace k2 : Heap.SameBut i2 g1 g2 := k2
    refine wpAny_pure (wpAny_pure ?_)
    refine wpAny_bind (wpAny_newTuple ?_ (by show 2 ≤ sizeLine; decide))
    have z2 : g2.objs.size = hp.objs.size := by rw [k2.1, k1.1, s0]
    have up : ∀ c o, c ≠ z → c ≠ i1 → c ≠ i2 → hp.get? c = some o → (g2.push { cls := .type "tuple", data := .seq (#[x, y] : Array Value) }).get? c = some o := fun c o cz c1 c2 q =>
      Heap.get?_push_of_some _ (ext_of k2 _ _ c2 (ext_of k1 _ _ c1 (k0 _ _ cz q)))
    refine wpAny_pure ⟨_, rfl, ?_⟩
    show Q (.ref g2.objs.size) ⟨g2.push { cls := .type "tuple", data := .seq (#[x, y] : Array Value) }, g, d, tk0, os⟩
    rw [z2]
    refine hQ _ tk0 ⟨⟨f0, b', Heap.get?_push_of_some _ (ext_of k2 _ _ ap.zi2 (ext_of k1 _ _ ap.zi1 z0)), mark⟩, up _ _ ap.zTI.symm ap.TIi1 ap.TIi2 hti, ⟨a0, b0, up _ _ ap.zTO.symm ap.TOi1 ap.TOi2 hto⟩, ?_, ?_, ?_, ?_⟩ ?_ ?_ ?_
    · exact n1.at fun o q => Heap.get?_push_of_some _ (ext_of k2 _ _ ap.i12 q)
    · exact n2.at fun o q => Heap.get?_push_of_some _ q
    · exact u1.at fun o q => up _ _ ap.zt1.symm ap.t1i1 ap.t1i2 q
    · exact u2.at fun o q => up _ _ ap.zt2.symm ap.t2i1 ap.t2i2 q
    · have q := Heap.get?_push_size g2 (o := { cls := .type "tuple", data := .seq (#[x, y] : Array Value) }) rfl
      rw [z2] at q
      exact q
    · rw [Heap.size_push, z2]
    · exact fun c o cz cT c1 c2 q => up c o cz c1 c2 q
end
end EL

/- part E4 -/
/-! for i, x in enumerate(t, start=k) over a tuple; for i, (x, y) in enumerate(zip(t, u), start=k) over two tuples of one length -/
namespace EL
open PySem PySem.Spec PyProof.Rows L2
open PySem.W (Frag)
section
variable {prog : Program} {w : World} {A : Around} {E : Value → Shared → Prop} {s : Shared} {z TI TO i1 i2 t1 t2 : Addr} {xs ys : Array Value} {i : Nat}
theorem zip_over {Q : Fin → Shared → Prop} (hh : A.handled = none) (ap : Apart z TI TO i1 i2 t1 t2) (st : ZipSt s.heap z TI TO i1 i2 t1 t2 xs ys i) (hx : xs[i]? = none)
    (hE : ∀ h' e, (∀ c o, c ≠ z → c ≠ TO → c ≠ i1 → c ≠ i2 → s.heap.get? c = some o → h'.get? c = some o) → (∃ o, h'.get? e = some o ∧ o.cls = .type "StopIteration") → E (.ref e) { s with heap := h' }) :
    wpAny (model prog w) A (Builtin.«zip.__next__» ⟨[.ref z], []⟩) Q E s := by
  obtain ⟨⟨f0, b, hz, mark⟩, hti, ⟨a0, b0, hto⟩, h1, h2, u1, u2⟩ := st
  obtain ⟨hp, g, d, tk0, os⟩ := s
  replace hz : hp.get? z = some (zipObj f0 b TI TO) := hz
  replace h1 : hp.IsTupleIter i1 t1 i := h1
  replace u1 : hp.IsTuple t1 xs := u1
  refine wpAny_bind (m := field (.ref z) 2) (wpAny_field hz rfl (x := .bool false) rfl ?_)
  refine wpAny_bind (m := field (.ref z) 3) (wpAny_field hz rfl (x := .ref TI) rfl ?_)
  refine wpAny_bind (wpAny_seqItems hti rfl ?_)
  refine wpAny_bind (free_or hz mark ?_ ?_)
  · rw [if_pos rfl]
    refine wpAny_bind (wpAny_rule (wpAny_bind (wpAny_field hz rfl (x := .ref TO) rfl (wpAny_bind (wpAny_setField_rec hz (by simp) fun g0 z0 k0 => ?_)))))
    replace z0 : g0.get? z = some (zipObj .ellipsis b TI TO) := z0
    replace k0 : Heap.SameBut z hp g0 := k0
    refine wpAny_bind ?_
    simp only [List.zipIdx_cons, List.zipIdx_nil, List.forIn_cons, List.forIn_nil]
    refine wpAny_bind (wpAny_bind (wpAny_onRaise ?_))
    show wpAny _ _ (Builtin.SmallTypes.nextOf (.ref i1) >>= _) _ _ ⟨g0, g, d, tk0, os⟩
    refine wpAny_bind (wpAny_nextOf_tuple_end (s := ⟨g0, g, d, tk0, os⟩) hh (h1.at fun o q => ext_of k0 _ _ ap.zi1.symm q) (u1.at fun o q => ext_of k0 _ _ ap.zt1.symm q) hx fun g1 e k1 he => ?_)
    replace k1 : Heap.ExtBut i1 g0 g1 := k1
    obtain ⟨oe, he, hc⟩ := he
    replace he : g1.get? e = some oe := he
    have z1 : g1.get? z = some (zipObj .ellipsis b TI TO) := k1 _ _ ap.zi1 z0
    have ez : e ≠ z := by
      rintro rfl
      rw [z1] at he
      cases he
      simp at hc
    refine wpAny_setField_rec (s := ⟨g1, g, d, tk0, os⟩) z1 (by simp) fun g2 _ k2 => ?_
    replace k2 : Heap.SameBut z g1 g2 := k2
    exact hE g2 e (fun c o cz cT c1 c2 q => ext_of k2 _ _ cz (k1 _ _ c1 (ext_of k0 _ _ cz q))) ⟨oe, ext_of k2 _ _ ez he, hc⟩
  · intro h0 b' z0 s0 k0
    replace k0 : ∀ c o, c ≠ z → hp.get? c = some o → h0.get? c = some o := k0
    rw [if_neg (by decide)]
    refine wpAny_bind ?_
    simp only [List.forIn_toArray, List.forIn_cons, List.forIn_nil]
    refine wpAny_bind (wpAny_bind (wpAny_holding ?_))
    show wpAny _ _ (Builtin.SmallTypes.nextOf (.ref i1) >>= _) _ _ ⟨h0, g, d, tk0, os⟩
    refine wpAny_bind (wpAny_nextOf_tuple_end (s := ⟨h0, g, d, tk0, os⟩) hh (h1.at fun o q => k0 _ _ ap.zi1.symm q) (u1.at fun o q => k0 _ _ ap.zt1.symm q) hx fun g1 e k1 he => ?_)
    replace k1 : Heap.ExtBut i1 h0 g1 := k1
    exact hE g1 e (fun c o cz cT c1 c2 q => k1 _ _ c1 (k0 _ _ cz q)) he
theorem zipType {f0 : Value} {b : Bool} (hz : s.heap.get? z = some (zipObj f0 b TI TO)) : s.TypeIs (.ref z) "zip" := ⟨_, hz, rfl⟩
/-- next(z) within a built-in -/
theorem zip_drawn {Q E' : Value → Shared → Prop} (hz : ZipAt s.heap z TI TO) (h : wpAny (model prog w) A.in1 (Builtin.«zip.__next__» ⟨[.ref z], []⟩) (fun fin s' => ∃ v, fin = .done (.ret v) ∧ Q v s') E' s) :
    wpAny (model prog w) A (Builtin.SmallTypes.nextOf (.ref z)) Q E' s := by
  obtain ⟨f0, b, e, _⟩ := hz
  unfold Builtin.SmallTypes.nextOf
  refine wpAny_bind (wpAny_callSpecial?_slot (name := Str.ofString "__next__") (zipType e) F.slot_zip_next (wpAny_call_entry F.slot_zip_next (zipType e) F.entry_zip_next ?_ (F.args_zip_next_1 _)))
  refine wpAny_mono h ?_ (fun _ _ q => q)
  rintro fin s' ⟨v, rfl, q⟩
  exact ⟨v, rfl, wpAny_pure q⟩
theorem zip_itself {Q : Value → Shared → Prop} (hz : ZipAt s.heap z TI TO) (h : Q (.ref z) s) : wpAny (model prog w) A (pyIter (.ref z)) Q E s := by
  obtain ⟨f0, b, e, _⟩ := hz
  exact wpAny_pyIter_slot (zipType e) F.slot_zip_iter (wpAny_call_entry F.slot_zip_iter (zipType e) F.entry_zip_iter (wpAny_pure ⟨_, rfl, "zip", _, zipType e, F.slot_zip_next.lookup, h⟩) (F.args_zip_iter_1 _))
end
/-- enumerate(v, start=k) as a call -/
theorem enum_made {prog : Program} {w : World} {A : Around} {E : Value → Shared → Prop} {s : Shared} {v : Value} {rv : Heap → Value} {f : Heap → Heap} {W : Heap → Prop} {k : Int} {t : Tok} {Q : Value → Shared → Prop}
    (IT : ∀ (prog : Program) (w : World) (A : Around) (E : Value → Shared → Prop) (s : Shared) (Q : Value → Shared → Prop), W s.heap → Q (rv s.heap) { s with heap := f s.heap } → wpAny (model prog w) A (pyIter v) Q E s)
    (h0 : -(2 ^ 63) ≤ k) (h1 : k < 2 ^ 63) (hw : W s.heap)
    (h : Q (.ref (f s.heap).objs.size) { s with heap := (f s.heap).push (enumObj (rv s.heap) k) }) :
    wpAny (model prog w) A (call (.type "enumerate") [v] [(Str.ofString "start", .int k t)]) Q E s := by
  refine callType_newKw F.called_enumerate (by decide) (F.typeCall_enumerate_start _ _) (F.newCall_enumerate_start _ _) (fun obj => F.args_object_init_start obj _ _) F.entry_enumerate_new (meets_enum_kw IT k t (fits_start h0 h1)) ⟨hw, ?_⟩
  exact ⟨⟨_, Heap.get?_push_size _ rfl, rfl⟩, h⟩
/-- the keyword call of a built-in type -/
theorem callType_kw {M : Model} {A : Around} {E : Value → Shared → Prop} {s : Shared} {env : Env} {pos : Pos} {T : String} {e : Expr} {rest : List Expr} {kws : List Keyword} {Q : Value → Shared → Prop}
    (h : wpAny M A (spliced (backTo pos (starEach (e :: rest) env))) (fun vs s1 => wpAny M A (evalAll ((backToKw pos (keywordEach kws env)).map (·.2)))
      (fun us s2 => wpAny M A (call (.type T) vs (((backToKw pos (keywordEach kws env)).filterMap (·.1)).zip us)) Q E s2) E s1) E s)
    (he : starEach (e :: rest) env = (false, eval e env) :: starEach rest env) (hp : (backTo pos (starEach (e :: rest) env)).any (·.1) = false)
    (ha : (backToKw pos (keywordEach kws env)).all (·.1.isSome) = true) (hn : (backToKw pos (keywordEach kws env)).any (·.1.isNone) = false) :
    wpAny M A (callWith pos (.type T) [] (backTo pos (starEach (e :: rest) env)) (backToKw pos (keywordEach kws env))) Q E s := by
  have z := evalArgs_kw2 (f := .type T) (Q := fun a s1 => wpAny M A (call (.type T) a.pos a.kw) Q E s1) ha h he
  unfold callWith
  refine wpAny_bind (wpAny_holding (wpAny_mono z (fun a s1 q => wpAny_bind (wpAny_standAt ?_)) fun _ _ q => q))
  rw [hp, hn]
  simp only [Bool.or_false]
  refine wpAny_bind (wpAny_pure ?_)
  exact wpAny_bind (wpAny_mono q (fun r s2 hr => wpAny_bind (wpAny_holding (wpAny_point (wpAny_pure hr)))) fun _ _ q => q)
end EL

/- part E5 -/
namespace EL
open PySem PySem.Spec PyProof.Rows L2
open PySem.W (Frag)
/-! ### enumerate(zip(t, u), start=k) -/
/-- each turn: a new pair of the two items, a new pair of the count and that pair -/
def Itez (K : Frag) (a b : Addr) (k : Int) : It :=
  ⟨fun i H => ∃ (xs ys : List V) (x y : V), SqT K H a xs ∧ SqT K H b ys ∧ xs[i]? = some x ∧ ys[i]? = some y,
    fun i H v H' => ∃ (T0 T1 : Addr) (x y : V), v = .ref T1 ∧ H T0 = none ∧ H T1 = none ∧ T0 ≠ T1 ∧ H' = upd (upd H T0 (.tup [x, y])) T1 (.tup [.int (k + i), .ref T0]) ∧ (∀ xs, SqT K H a xs → xs[i]? = some x) ∧ ∀ ys, SqT K H b ys → ys[i]? = some y,
    fun i H => ∃ xs ys : List V, SqT K H a xs ∧ SqT K H b ys ∧ xs.length ≤ i⟩
def TurnEz (e z TI TO i1 i2 t1 t2 : Addr) (k : Int) (i : Nat) (h : Heap) : Prop :=
  (∃ old, IsEnum h e z (k + i) old) ∧ ZipAt h z TI TO ∧ IsTupOf2 h TI (.ref i1) (.ref i2) ∧ (∃ a b, IsTupOf2 h TO a b) ∧ h.IsTupleIter i1 t1 i ∧ h.IsTupleIter i2 t2 i
theorem fp_mem {e z TI TO i1 i2 b : Addr} (h : b ∈ [e, z, TI, TO, i1, i2]) : b = e ∨ b = z ∨ b = TI ∨ b = TO ∨ b = i1 ∨ b = i2 := by simpa using h
theorem fpOk_upd {X : Cx} {pins : List (Addr × Obj)} {H : Hp} {b T : Addr} {o : HO} (f : FpOk X pins H b) (h : b ≠ T) : FpOk X pins (upd H T o) b :=
  ⟨by rw [upd_ne h]; exact f.1, f.2⟩
theorem turn_ez {P : Program} {w : World} {K : Frag} {elts : List Expr} {kk : Nat} {tpos : Pos} {e z TI TO i1 i2 t1 t2 : Addr} {k : Int} (ap : Apart z TI TO i1 i2 t1 t2)
    (ne : ∀ b ∈ [z, TI, TO, i1, i2], e ≠ b) (te1 : t1 ≠ e) (te2 : t2 ≠ e) :
    Turn P w K (.Tuple elts kk tpos) (Itez K t1 t2 k) [e, z, TI, TO, i1, i2] e (TurnEz e z TI TO i1 i2 t1 t2 k) where
  mem := by simp
  obj := fun i h st b hb => by
    obtain ⟨⟨old, he⟩, ⟨f0, b0, hz, _⟩, hti, ⟨a1, a2, hto⟩, ⟨o1, q1, _, d1⟩, ⟨o2, q2, _, d2⟩⟩ := st
    rcases fp_mem hb with q | q | q | q | q | q <;> subst q
    · exact ⟨_, he, fun v q => nomatch q⟩
    · exact ⟨_, hz, fun v q => nomatch q⟩
    · exact ⟨_, hti, fun v q => nomatch q⟩
    · exact ⟨_, hto, fun v q => nomatch q⟩
    · exact ⟨o1, q1, fun v q => by rw [d1] at q; cases q⟩
    · exact ⟨o2, q2, fun v q => by rw [d2] at q; cases q⟩
  keep := fun i h h' st kp => by
    obtain ⟨⟨old, he⟩, ⟨f0, b0, hz, m⟩, hti, ⟨a1, a2, hto⟩, h1, h2⟩ := st
    exact ⟨⟨old, kp e (by simp) _ he⟩, ⟨f0, b0, kp z (by simp) _ hz, m⟩, kp TI (by simp) _ hti, ⟨a1, a2, kp TO (by simp) _ hto⟩, h1.at fun o q => kp i1 (by simp) o q, h2.at fun o q => kp i2 (by simp) o q⟩
  item := by
    intro X hP hw hK hc i pins s σ H E I hf st hg
    subst hP hw hK
    obtain ⟨⟨old, he⟩, hz, hti, hto, h1, h2⟩ := st
    obtain ⟨xs, ys, x, y, hqx, hqy, hx, hy⟩ := hg
    obtain ⟨its, rv, p, _⟩ := I.tuple hqx
    obtain ⟨its2, rv2, p2, _⟩ := I.tuple hqy
    obtain ⟨u, hu, ru⟩ := rv.get hx
    obtain ⟨u2, hu2, ru2⟩ := rv2.get hy
    have old_lt : ∀ {b o}, s.heap.get? b = some o → b < s.heap.objs.size := fun q => Heap.lt_size q
    have le : e < s.heap.objs.size := old_lt he
    have typ : s.TypeIs (.ref e) "enumerate" := ⟨_, he, rfl⟩
    have ez : e ≠ z := ne z (by simp)
    unfold pyNext
    refine wpAny_bind (wpAny_attempt (wpAny_callSpecial?_slot (name := Str.ofString "__next__") typ F.slot_enumerate_next (wpAny_call_entry F.slot_enumerate_next typ F.entry_enumerate_next
      (wpAny_mono (enum_turn (R := fun v h1 => v = .ref s.heap.objs.size ∧ ZipSt h1 z TI TO i1 i2 t1 t2 its.toArray its2.toArray (i + 1) ∧ IsTupOf2 h1 s.heap.objs.size u u2 ∧ h1.objs.size = s.heap.objs.size + 1 ∧
          ∀ c o, c ≠ z → c ≠ TO → c ≠ i1 → c ≠ i2 → s.heap.get? c = some o → h1.get? c = some o)
        (Q := fun v s' => wpAny (model X.prog X.w) X.A (letOwnedTupleGo (.Tuple elts kk tpos) (.ref e) v) (fun _ s2 => ∃ x H', Inv X pins σ H' s2 ∧ RelV x v ∧ (Itez X.K t1 t2 k).yld i H x H' ∧ TurnEz e z TI TO i1 i2 t1 t2 k (i + 1) s2.heap ∧ ∀ b ∈ [e, z, TI, TO, i1, i2], H' b = none) E s')
        he (fun Q' E' hq => zip_drawn hz (zip_turn ap ⟨hz, hti, hto, h1, h2, p, p2⟩ (by simpa using hu) (by simpa using hu2) fun h' tk st' t' z' k' => hq _ h' tk ?_ ⟨rfl, st', t', z', k'⟩)) ?_) ?_ (fun _ _ q => q)) (F.args_enumerate_next_1 _))))
    · exact k' e _ ez (ne TO (by simp)) (ne i1 (by simp)) (ne i2 (by simp)) he
    · rintro v g1 g2 tk ⟨rfl, st1, pr, z1, k1⟩ _ eo tp z2 k2
      have lt1 : e < g1.objs.size := by rw [z1]; exact Nat.lt_succ_of_lt le
      refine wpAny_letOwnedTupleGo_enum (s := { s with heap := g2, toks := tk + 1 }) eo fun g3 e3 k3 => ?_
      replace k3 : Heap.SameBut e g2 g3 := k3
      -- the pair of the zip, then the pair of the enumerate
      have I1 : Inv X pins σ (upd H s.heap.objs.size (.tup [x, y])) { s with heap := g1, toks := tk } :=
        I.turnedNew (ch := [z, TO, i1, i2]) (fun c o hc q => k1 c o (fun q' => hc (by simp [q'])) (fun q' => hc (by simp [q'])) (fun q' => hc (by simp [q'])) (fun q' => hc (by simp [q'])) q)
          (fun b hb => hf b (by
            have q : b = z ∨ b = TO ∨ b = i1 ∨ b = i2 := by simpa using hb
            rcases q with q | q | q | q <;> simp [q])) (Nat.le_refl _)
          ⟨by show 2 ≤ sizeLine; decide, [u, u2], .cons ru (.cons ru2 .nil), ⟨_, pr, rfl, _, rfl⟩⟩
      have n1 : e ≠ s.heap.objs.size := Nat.ne_of_lt le
      have T1 : g3.get? g1.objs.size = some { cls := .type "tuple", data := .seq #[.int (k + i) tk, .ref s.heap.objs.size] } := ext_of k3 _ _ (Nat.ne_of_gt lt1) tp
      have I2 : Inv X pins σ (upd (upd H s.heap.objs.size (.tup [x, y])) g1.objs.size (.tup [.int (k + i), .ref s.heap.objs.size])) { s with heap := g3, toks := tk + 1 } :=
        I1.turnedNew (ch := [e]) (fun c o hc q => ext_of k3 _ _ (fun q' => hc (by simp [q'])) (k2 c o (fun q' => hc (by simp [q'])) q))
          (fun b hb => by
            have q : b = e := by simpa using hb
            subst q
            exact fpOk_upd (hf _ (by simp)) n1) (Nat.le_refl _)
          ⟨by show 2 ≤ sizeLine; decide, [.int (k + i) tk, .ref s.heap.objs.size], .cons ⟨_, rfl⟩ (.cons rfl .nil), ⟨_, T1, rfl, _, rfl⟩⟩
      have lz : ∀ b ∈ [e, z, TI, TO, i1, i2], b < s.heap.objs.size := by
        intro b hb
        rcases fp_mem hb with q | q | q | q | q | q <;> subst q
        · exact le
        · exact let ⟨_, _, q, _⟩ := hz; old_lt q
        · exact old_lt hti
        · exact let ⟨_, _, q⟩ := hto; old_lt q
        · exact let ⟨_, q, _⟩ := h1; old_lt q
        · exact let ⟨_, q, _⟩ := h2; old_lt q
      have f0 : H s.heap.objs.size = none := I.hok.fresh (Nat.le_refl _)
      have f1 : H g1.objs.size = none := I.hok.fresh (by rw [z1]; omega)
      refine ⟨.ref g1.objs.size, _, I2, rfl, ⟨s.heap.objs.size, g1.objs.size, x, y, rfl, f0, f1, by rw [z1]; exact Nat.ne_of_lt (Nat.lt_succ_self _), rfl, fun l hl => by rw [I.tuple_inj hl hqx]; exact hx, fun l hl => by rw [I.tuple_inj hl hqy]; exact hy⟩, ⟨⟨.ref s.heap.objs.size, ?_⟩, ?_, ?_, ?_, ?_, ?_⟩, fun b hb => ?_⟩
      · have q : (k + ((i + 1 : Nat) : Int)) = k + i + 1 := by omega
        rw [q]
        exact e3
      · obtain ⟨f, b, q, m⟩ := st1.zip
        exact ⟨f, b, ext_of k3 _ _ ez.symm (k2 _ _ ez.symm q), m⟩
      · exact ext_of k3 _ _ (ne TI (by simp)).symm (k2 _ _ (ne TI (by simp)).symm st1.ti)
      · obtain ⟨a1, a2, q⟩ := st1.to
        exact ⟨a1, a2, ext_of k3 _ _ (ne TO (by simp)).symm (k2 _ _ (ne TO (by simp)).symm q)⟩
      · exact st1.it1.at fun o q => ext_of k3 _ _ (ne i1 (by simp)).symm (k2 _ _ (ne i1 (by simp)).symm q)
      · exact st1.it2.at fun o q => ext_of k3 _ _ (ne i2 (by simp)).symm (k2 _ _ (ne i2 (by simp)).symm q)
      · have q := lz b hb
        rw [upd_ne (by rw [z1]; exact Nat.ne_of_lt (Nat.lt_succ_of_lt q)), upd_ne (Nat.ne_of_lt q)]
        exact (hf b hb).1
    · rintro fin s' ⟨v, rfl, q⟩
      exact ⟨v, rfl, wpAny_pure ⟨v, rfl, q⟩⟩
  done := by
    intro X hP hw hK hc i pins s σ H E I hf st hg
    subst hP hw hK
    obtain ⟨⟨old, he⟩, hz, hti, hto, h1, h2⟩ := st
    obtain ⟨xs, ys, hqx, hqy, hx⟩ := hg
    obtain ⟨its, rv, p, _⟩ := I.tuple hqx
    obtain ⟨its2, rv2, p2, _⟩ := I.tuple hqy
    have l1 := rv.length
    have typ : s.TypeIs (.ref e) "enumerate" := ⟨_, he, rfl⟩
    unfold pyNext
    refine wpAny_bind (wpAny_attempt (wpAny_callSpecial?_slot (name := Str.ofString "__next__") typ F.slot_enumerate_next (wpAny_call_entry F.slot_enumerate_next typ F.entry_enumerate_next ?_ (F.args_enumerate_next_1 _))))
    refine wpAny_bind (m := field (.ref e) 2) (wpAny_field he rfl (x := .ref z) rfl (wpAny_bind (zip_drawn hz ?_)))
    refine zip_over (I.ok.hd hc) ap ⟨hz, hti, hto, h1, h2, p, p2⟩ (by simp; omega) fun h' x k' hx' => ?_
    obtain ⟨o, ho, hcls⟩ := hx'
    refine wpAny_bind (wpAny_isInstance (T := "StopIteration") (b := true) ⟨o, ho, hcls⟩ isSubtype_stop (wpAny_pure ⟨rfl, ?_⟩))
    exact I.turnedL (t' := s.toks) (ch := [z, TO, i1, i2]) (fun c o hc q => k' c o (fun q' => hc (by simp [q'])) (fun q' => hc (by simp [q'])) (fun q' => hc (by simp [q'])) (fun q' => hc (by simp [q'])) q)
      (fun b hb => hf b (by
        have q : b = z ∨ b = TO ∨ b = i1 ∨ b = i2 := by simpa using hb
        rcases q with q | q | q | q <;> simp [q]))
  self := fun A i s Q E st h => let ⟨⟨_, he⟩, _⟩ := st; wpAny_pyIter_enum he h
end EL

/- part E6 -/
namespace EL
open PySem PySem.Spec PyProof.Rows L2
open PySem.W (Frag)
/-- the keyword's constant -/
theorem start_kw {X : Cx} {pos : Pos} {k : Int} {j : Nat} {p kp : Pos} {E : Value → Shared → Prop} {s : Shared} {Q : List Value → Shared → Prop} (h : Q [.int k s.toks] { s with toks := s.toks + 1 }) :
    wpAny (model X.prog X.w) X.A (evalAll ((backToKw pos (keywordEach [⟨some "start", .Constant (.int k) j p, kp⟩] X.env)).map (·.2))) Q E s := by
  show wpAny _ _ (evalAll ((do let v ← eval (.Constant (.int k) j p) X.env; standAt pos; pure v) :: [])) _ _ s
  exact wpAny_evalAll_cons (wpAny_bind (wpAny_Constant_int (wpAny_bind (wpAny_standAt (wpAny_pure (wpAny_evalAll_nil h))))))
theorem zip_apart (N a b : Addr) (ha : a < N) (hb : b < N) : Apart (N + 4) (N + 2) (N + 3) N (N + 1) a b := by
  constructor <;> intro q <;> simp only [Addr] at * <;> omega
def iEz (K : Frag) (k : Int) (ta : TA) : TI := fun σ H R => ta σ H fun vs H1 => ∃ a b xs ys, vs = [.ref a, .ref b] ∧ SqT K H1 a xs ∧ SqT K H1 b ys ∧ R (Itez K a b k) H1
theorem pi_ez {X : Cx} {e e2 : Expr} {ta : TA} {p p2 pos pos2 tpos cp kp : Pos} {elts : List Expr} {kk j : Nat} {k : Int} (hg : Gl X "enumerate") (hm : X.mg "enumerate" = none) (hg2 : Gl X "zip") (hm2 : X.mg "zip" = none) (ha : PA X [e, e2] ta)
    (h0 : -(2 ^ 63) ≤ k) (h1 : k < 2 ^ 63)
    (hs : starEach [e, e2] X.env = (false, eval e X.env) :: starEach [e2] X.env := by rfl) (hpl : (backTo pos2 (starEach [e2] X.env)).any (·.1) = false := by rfl) :
    PI X (.Tuple elts kk tpos) (.Call (.Name "enumerate" p) [.Call (.Name "zip" p2) [e, e2] [] pos2] [⟨some "start", .Constant (.int k) j cp, kp⟩] pos) (iEz X.K k ta) := by
  refine ⟨fun pins s σ H R I h => ?_⟩
  apply wpAny_Call_Name_kw
  refine ld_blt I hg hm boot_enumerate ?_
  refine callType_kw (e := .Call (.Name "zip" p2) [e, e2] [] pos2) (rest := []) ?_ rfl rfl rfl rfl
  show wpAny _ _ (spliced [(false, eval (.Call (.Name "zip" p2) [e, e2] [] pos2) X.env)]) _ _ _
  refine Calls.spliced_cons ?_
  refine Call_ (ld_blt I hg2 hm2 PyProof.Rows.boot_zip (PyProof.Rows.callWith_type1 (thn (ha.run pos2 pins s σ H _ I h) ?_) hs hpl))
  rintro us s1 ⟨vs, H1, I1, r1, a, b, xs, ys, rfl, hqx, hqy, q⟩
  obtain ⟨ua, ub, rfl, ra, rb⟩ := vals2 r1
  cases (show ua = Value.ref a from ra)
  cases (show ub = Value.ref b from rb)
  obtain ⟨its, rv, pa, _⟩ := I1.tuple hqx
  obtain ⟨its2, rv2, pb, _⟩ := I1.tuple hqy
  refine zip_begins2 (begins_tuple a its.toArray) (begins_tuple b its2.toArray) pa pb fun h' hz hti hto hi1 hi2 hsz hk => ?_
  have I2 : Inv X pins σ H1 { s1 with heap := h' } := I1.kept (t' := s1.toks) hk
  refine Calls.spliced_nil (start_kw ?_)
  have za : ZipAt h' (s1.heap.objs.size + 4) (s1.heap.objs.size + 2) (s1.heap.objs.size + 3) := ⟨.none, false, hz, .inl rfl⟩
  refine enum_made (W := fun h => ZipAt h (s1.heap.objs.size + 4) (s1.heap.objs.size + 2) (s1.heap.objs.size + 3)) (rv := fun _ => .ref (s1.heap.objs.size + 4)) (f := fun h => h) (fun prog w A E s Q hw hq => zip_itself hw hq) h0 h1 za ?_
  have he : IsEnum (h'.push (enumObj (.ref (s1.heap.objs.size + 4)) k)) (s1.heap.objs.size + 5) (s1.heap.objs.size + 4) k .none := by
    have z := Heap.get?_push_size h' (o := enumObj (.ref (s1.heap.objs.size + 4)) k) rfl
    rw [hsz] at z
    exact z
  show wpAny _ _ (pyIter (.ref h'.objs.size)) _ _ _
  rw [hsz]
  refine wpAny_pyIter_enum he ?_
  have I3 : Inv X pins σ H1 { s1 with heap := h'.push (enumObj (.ref (s1.heap.objs.size + 4)) k), toks := s1.toks + 1 } := I1.kept fun c o q => Heap.get?_push_of_some _ (hk c o q)
  have up : ∀ c o, h'.get? c = some o → (h'.push (enumObj (.ref (s1.heap.objs.size + 4)) k)).get? c = some o := fun c o q => Heap.get?_push_of_some _ q
  have la : a < s1.heap.objs.size := pa.lt
  have lb : b < s1.heap.objs.size := pb.lt
  refine ⟨s1.heap.objs.size + 5, [s1.heap.objs.size + 5, s1.heap.objs.size + 4, s1.heap.objs.size + 2, s1.heap.objs.size + 3, s1.heap.objs.size, s1.heap.objs.size + 1], _, _, H1, rfl, I3,
    turn_ez (zip_apart s1.heap.objs.size a b la lb) (fun b hb => ?_) ?_ ?_, ⟨⟨.none, ?_⟩, ⟨.none, false, up _ _ hz, .inl rfl⟩, up _ _ hti, ⟨_, _, up _ _ hto⟩, ⟨_, up _ _ hi1, rfl, rfl⟩, ⟨_, up _ _ hi2, rfl, rfl⟩⟩, fun c hc => ?_, q⟩
  · have q : b = s1.heap.objs.size + 4 ∨ b = s1.heap.objs.size + 2 ∨ b = s1.heap.objs.size + 3 ∨ b = s1.heap.objs.size ∨ b = s1.heap.objs.size + 1 := by simpa using hb
    intro z
    simp only [Addr] at *
    omega
  · intro z
    simp only [Addr] at *
    omega
  · intro z
    simp only [Addr] at *
    omega
  · have q : k + ((0 : Nat) : Int) = k := by omega
    rw [q]
    exact he
  · have q := fp_mem hc
    have hle : s1.heap.objs.size ≤ c := by
      simp only [Addr] at *
      omega
    exact I1.fpOk hle (I1.hok.fresh hle)
/-! ### enumerate(t, start=k) -/
def Ites (K : Frag) (a : Addr) (k : Int) : It :=
  ⟨fun i H => ∃ (xs : List V) (x : V), SqT K H a xs ∧ xs[i]? = some x, fun i H v H' => ∃ T x, v = .ref T ∧ H T = none ∧ H' = upd H T (.tup [.int (k + i), x]) ∧ ∀ xs, SqT K H a xs → xs[i]? = some x, fun i H => ∃ xs : List V, SqT K H a xs ∧ xs.length ≤ i⟩
def TurnEs (e it t : Addr) (k : Int) (i : Nat) (h : Heap) : Prop := (∃ old, IsEnum h e it (k + i) old) ∧ h.IsTupleIter it t i
theorem turn_es {P : Program} {w : World} {K : Frag} {elts : List Expr} {kk : Nat} {tpos : Pos} {e it t : Addr} {k : Int} (ne : e ≠ it) : Turn P w K (.Tuple elts kk tpos) (Ites K t k) [e, it] e (TurnEs e it t k) where
  mem := by simp
  obj := fun i h st b hb => by
    obtain ⟨⟨old, he⟩, ⟨o1, q1, _, d1⟩⟩ := st
    have q : b = e ∨ b = it := by simpa using hb
    rcases q with q | q <;> subst q
    · exact ⟨_, he, fun v q => nomatch q⟩
    · exact ⟨o1, q1, fun v q => by rw [d1] at q; cases q⟩
  keep := fun i h h' st kp => by
    obtain ⟨⟨old, he⟩, h1⟩ := st
    exact ⟨⟨old, kp e (by simp) _ he⟩, h1.at fun o q => kp it (by simp) o q⟩
  item := by
    intro X hP hw hK hc i pins s σ H E I hf st hg
    subst hP hw hK
    obtain ⟨⟨old, he⟩, h1⟩ := st
    obtain ⟨xs, x, hqx, hx⟩ := hg
    obtain ⟨its, rv, p, _⟩ := I.tuple hqx
    obtain ⟨u, hu, ru⟩ := rv.get hx
    have le : e < s.heap.objs.size := Heap.lt_size he
    have typ : s.TypeIs (.ref e) "enumerate" := ⟨_, he, rfl⟩
    unfold pyNext
    refine wpAny_bind (wpAny_attempt (wpAny_callSpecial?_slot (name := Str.ofString "__next__") typ F.slot_enumerate_next (wpAny_call_entry F.slot_enumerate_next typ F.entry_enumerate_next
      (wpAny_mono (enum_turn (R := fun v h' => v = u ∧ h'.IsTupleIter it t (i + 1) ∧ Heap.SameBut it s.heap h')
        (Q := fun v s' => wpAny (model X.prog X.w) X.A (letOwnedTupleGo (.Tuple elts kk tpos) (.ref e) v) (fun _ s2 => ∃ x H', Inv X pins σ H' s2 ∧ RelV x v ∧ (Ites X.K t k).yld i H x H' ∧ TurnEs e it t k (i + 1) s2.heap ∧ ∀ b ∈ [e, it], H' b = none) E s')
        he (fun Q' E' hq => wpAny_nextOf_tuple_item h1 p (x := u) (by simpa using hu) fun h' st' k' => hq _ h' s.toks (ext_of k' _ _ ne he) ⟨rfl, st', k'⟩) ?_) ?_ (fun _ _ q => q)) (F.args_enumerate_next_1 _))))
    · rintro v g1 g2 tk ⟨rfl, st1, k1⟩ lt1 eo tp z2 k2
      refine wpAny_letOwnedTupleGo_enum (s := { s with heap := g2, toks := tk + 1 }) eo fun g3 e3 k3 => ?_
      replace k3 : Heap.SameBut e g2 g3 := k3
      have T1 : g3.get? g1.objs.size = some { cls := .type "tuple", data := .seq #[.int (k + i) tk, v] } := ext_of k3 _ _ (Nat.ne_of_gt lt1) tp
      have sz : s.heap.objs.size = g1.objs.size := k1.1.symm
      have I2 : Inv X pins σ (upd H g1.objs.size (.tup [.int (k + i), x])) { s with heap := g3, toks := tk + 1 } :=
        I.turnedNew (ch := [e, it]) (fun c o hc q => ext_of k3 _ _ (fun q' => hc (by simp [q'])) (k2 c o (fun q' => hc (by simp [q'])) (ext_of k1 _ _ (fun q' => hc (by simp [q'])) q)))
          hf (Nat.le_of_eq sz) ⟨by show 2 ≤ sizeLine; decide, [.int (k + i) tk, v], .cons ⟨_, rfl⟩ (.cons ru .nil), ⟨_, T1, rfl, _, rfl⟩⟩
      refine ⟨.ref g1.objs.size, _, I2, rfl, ⟨g1.objs.size, x, rfl, I.hok.fresh (Nat.le_of_eq sz), rfl, fun l hl => by rw [I.tuple_inj hl hqx]; exact hx⟩, ⟨⟨v, ?_⟩, ?_⟩, fun b hb => ?_⟩
      · have q : (k + ((i + 1 : Nat) : Int)) = k + i + 1 := by omega
        rw [q]
        exact e3
      · exact st1.at fun o q => ext_of k3 _ _ ne.symm (k2 _ _ ne.symm q)
      · have q : b < g1.objs.size := by
          have q : b = e ∨ b = it := by simpa using hb
          rcases q with q | q <;> subst q
          · exact lt1
          · exact let ⟨_, q, _⟩ := st1; Heap.lt_size q
        rw [upd_ne (Nat.ne_of_lt q)]
        exact (hf b hb).1
    · rintro fin s' ⟨v, rfl, q⟩
      exact ⟨v, rfl, wpAny_pure ⟨v, rfl, q⟩⟩
  done := by
    intro X hP hw hK hc i pins s σ H E I hf st hg
    subst hP hw hK
    obtain ⟨⟨old, he⟩, h1⟩ := st
    obtain ⟨xs, hqx, hx⟩ := hg
    obtain ⟨its, rv, p, _⟩ := I.tuple hqx
    have l1 := rv.length
    have typ : s.TypeIs (.ref e) "enumerate" := ⟨_, he, rfl⟩
    unfold pyNext
    refine wpAny_bind (wpAny_attempt (wpAny_callSpecial?_slot (name := Str.ofString "__next__") typ F.slot_enumerate_next (wpAny_call_entry F.slot_enumerate_next typ F.entry_enumerate_next ?_ (F.args_enumerate_next_1 _))))
    refine wpAny_bind (m := field (.ref e) 2) (wpAny_field he rfl (x := .ref it) rfl (wpAny_bind ?_))
    refine wpAny_nextOf_tuple_end (I.ok.hd hc) h1 p (by simp; omega) fun h' x k' hx' => ?_
    obtain ⟨o, ho, hcls⟩ := hx'
    refine wpAny_bind (wpAny_isInstance (T := "StopIteration") (b := true) ⟨o, ho, hcls⟩ isSubtype_stop (wpAny_pure ⟨rfl, ?_⟩))
    exact I.turnedL (t' := s.toks) (ch := [it]) (fun c o hc q => k' c o (fun q' => hc (by simp [q'])) q) (fun b hb => hf b (by
      have q : b = it := by simpa using hb
      simp [q]))
  self := fun A i s Q E st h => let ⟨⟨_, he⟩, _⟩ := st; wpAny_pyIter_enum he h
def iEs (K : Frag) (k : Int) (ta : TA) : TI := fun σ H R => ta σ H fun vs H1 => ∃ a xs, vs = [.ref a] ∧ SqT K H1 a xs ∧ R (Ites K a k) H1
theorem pi_es {X : Cx} {e : Expr} {ta : TA} {p pos tpos cp kp : Pos} {elts : List Expr} {kk j : Nat} {k : Int} (hg : Gl X "enumerate") (hm : X.mg "enumerate" = none) (ha : PA X [e] ta) (h0 : -(2 ^ 63) ≤ k) (h1 : k < 2 ^ 63)
    (hs : starEach [e] X.env = (false, eval e X.env) :: starEach [] X.env := by rfl) (hpl : (backTo pos (starEach [e] X.env)).any (·.1) = false := by rfl) :
    PI X (.Tuple elts kk tpos) (.Call (.Name "enumerate" p) [e] [⟨some "start", .Constant (.int k) j cp, kp⟩] pos) (iEs X.K k ta) := by
  refine ⟨fun pins s σ H R I h => ?_⟩
  apply wpAny_Call_Name_kw
  refine ld_blt I hg hm boot_enumerate (callType_kw (thn (ha.run pos pins s σ H _ I h) ?_) hs hpl rfl rfl)
  rintro us s1 ⟨vs, H1, I1, r1, a, xs, rfl, hqx, q⟩
  cases r1 with
  | cons ra rn =>
    cases rn
    cases ra
    obtain ⟨its, rv, pa, _⟩ := I1.tuple hqx
    refine start_kw (enum_begins_start (begins_tuple a its.toArray) pa h0 h1 fun h' he hit hsz hk => wpAny_pyIter_enum he ?_)
    refine ⟨s1.heap.objs.size + 1, [s1.heap.objs.size + 1, s1.heap.objs.size], _, _, H1, rfl, I1.kept (t' := s1.toks + 1) hk, turn_es (Nat.succ_ne_self _), ⟨⟨.none, ?_⟩, ⟨_, hit, rfl, rfl⟩⟩, fun c hc => ?_, q⟩
    · have q : k + ((0 : Nat) : Int) = k := by omega
      rw [q]
      exact he
    · have q : c = s1.heap.objs.size + 1 ∨ c = s1.heap.objs.size := by simpa using hc
      have hle : s1.heap.objs.size ≤ c := by
        simp only [Addr] at *
        omega
      exact I1.fpOk hle (I1.hok.fresh hle)
end EL

/- part E7 -/
/-! enumerate(t) over a tuple; loops over enumerate -/
namespace EL
open PySem PySem.Spec PyProof.Rows L2
open PySem.W (Frag)
theorem tcall_enum_1 (a : Value) : checkTypeCall "enumerate" ⟨[a], []⟩ = pure () := by kernel_rfl
set_option maxHeartbeats 2000000 in
theorem meets_enum_1 {v : Value} {rv : Heap → Value} {f : Heap → Heap} {W : Heap → Prop}
    (IT : ∀ (prog : Program) (w : World) (A : Around) (E : Value → Shared → Prop) (s : Shared) (Q : Value → Shared → Prop), W s.heap → Q (rv s.heap) { s with heap := f s.heap } → wpAny (model prog w) A (pyIter v) Q E s) :
    Meets (Builtin.«enumerate.__new__» ⟨[.type "enumerate", v], []⟩) (fun _ R s => W s.heap ∧ R (.ok (.ret (.ref (f s.heap).objs.size))) { s with heap := (f s.heap).push (enumObj (rv s.heap) 0) }) :=
  .of_wp fun prog w A R s h => by
    obtain ⟨hp, g, d, tk, os⟩ := s
    obtain ⟨h1, h⟩ := h
    have sub := sub_enumerate
    have go : ∀ {A' : Around} {E : Value → Shared → Prop} {Q : Value → Shared → Prop}, Q (rv hp) ⟨f hp, g, d, tk, os⟩ → wpAny (model prog w) A' (pyIter v) Q E ⟨hp, g, d, tk, os⟩ := fun q => IT prog w _ _ ⟨hp, g, d, tk, os⟩ _ h1 q
    wp_walk using go
    refine wpAny_stack_any fun st => wpAny_pure ?_
    split
    · rename_i c _ _ _ _ _
      cases (c == Value.type "enumerate")
      · wp_walk using go
        exact ⟨_, rfl, h⟩
      · wp_walk using go
        exact ⟨_, rfl, h⟩
    · wp_walk using go
      exact ⟨_, rfl, h⟩
theorem enum_begins_1 {prog : Program} {w : World} {A : Around} {E : Value → Shared → Prop} {s : Shared} {v : Value} {o : Obj} {H : Heap → Prop} {Q : Value → Shared → Prop} (B : Begins v o H) (h : H s.heap)
    (q : ∀ h' : Heap, IsEnum h' (s.heap.objs.size + 1) s.heap.objs.size 0 .none → h'.get? s.heap.objs.size = some o → h'.objs.size = s.heap.objs.size + 2 → (∀ (b : Addr) (o : Obj), s.heap.get? b = some o → h'.get? b = some o) → Q (.ref (s.heap.objs.size + 1)) { s with heap := h' }) :
    wpAny (model prog w) A (call (.type "enumerate") [v]) Q E s := by
  refine callType_new F.called_enumerate (by decide) (F.typeCall_enumerate_1 _) (F.newCall_enumerate_1 _) (fun obj => F.args_object_init_2 obj _) F.entry_enumerate_new
    (meets_enum_1 (W := H) (rv := fun h => .ref h.objs.size) (f := fun h => h.push o) fun prog w A E s Q hw hq => B.iter prog w A E s Q hw hq) ⟨h, ?_⟩
  have z : (s.heap.push o).objs.size = s.heap.objs.size + 1 := Heap.size_push ..
  have e1 : IsEnum ((s.heap.push o).push (enumObj (.ref s.heap.objs.size) 0)) (s.heap.objs.size + 1) s.heap.objs.size 0 .none := by
    have y := Heap.get?_push_size (s.heap.push o) (o := enumObj (.ref s.heap.objs.size) 0) rfl
    rw [z] at y
    exact y
  refine ⟨⟨_, Heap.get?_push_size _ rfl, rfl⟩, ?_⟩
  show Q (.ref (s.heap.push o).objs.size) _
  rw [z]
  refine q _ e1 (Heap.get?_push_of_some _ (Heap.get?_push_size _ B.free)) ((Heap.size_push ..).trans (by rw [z])) fun b o' hb => Heap.get?_push_of_some _ (Heap.get?_push_of_some _ hb)
theorem evalAll_nil {M : Model} {A : Around} {E : Value → Shared → Prop} {s : Shared} {Q : List Value → Shared → Prop} (h : Q [] s) : wpAny M A (evalAll []) Q E s := wpAny_pure h
def iE1 (K : Frag) (ta : TA) : TI := fun σ H R => ta σ H fun vs H1 => ∃ a xs, vs = [.ref a] ∧ SqT K H1 a xs ∧ R (Ites K a 0) H1
theorem pi_e1 {X : Cx} {e : Expr} {ta : TA} {p pos tpos : Pos} {elts : List Expr} {kk : Nat} (hg : Gl X "enumerate") (hm : X.mg "enumerate" = none) (ha : PA X [e] ta)
    (hs : starEach [e] X.env = (false, eval e X.env) :: starEach [] X.env := by rfl) (hpl : (backTo pos (starEach [e] X.env)).any (·.1) = false := by rfl) :
    PI X (.Tuple elts kk tpos) (.Call (.Name "enumerate" p) [e] [] pos) (iE1 X.K ta) := by
  refine ⟨fun pins s σ H R I h => ?_⟩
  apply wpAny_Call_Name_kw
  refine ld_blt I hg hm boot_enumerate (callType_kw (thn (ha.run pos pins s σ H _ I h) ?_) hs hpl rfl rfl)
  rintro us s1 ⟨vs, H1, I1, r1, a, xs, rfl, hqx, q⟩
  cases r1 with
  | cons ra rn =>
    cases rn
    cases ra
    obtain ⟨its, rv, pa, _⟩ := I1.tuple hqx
    refine evalAll_nil (enum_begins_1 (begins_tuple a its.toArray) pa fun h' he hit hsz hk => wpAny_pyIter_enum he ?_)
    refine ⟨s1.heap.objs.size + 1, [s1.heap.objs.size + 1, s1.heap.objs.size], _, _, H1, rfl, I1.kept (t' := s1.toks) hk, turn_es (Nat.succ_ne_self _), ⟨⟨.none, ?_⟩, ⟨_, hit, rfl, rfl⟩⟩, fun c hc => ?_, q⟩
    · exact he
    · have q : c = s1.heap.objs.size + 1 ∨ c = s1.heap.objs.size := by simpa using hc
      have hle : s1.heap.objs.size ≤ c := by
        simp only [Addr] at *
        omega
      exact I1.fpOk hle (I1.hok.fresh hle)
/-! ### loops over them -/
/-- a turn of enumerate(t, start=k) -/
def YEs (k : Int) (xs : List V) : Nat → Hp → V → Hp → Prop := fun i H v H' => ∃ T x, v = V.ref T ∧ H T = none ∧ H' = upd H T (.tup [.int (k + i), x]) ∧ xs[i]? = some x
theorem walk_es {K : Frag} {a : Addr} {k : Int} {xs : List V} : Walk (Ites K a k) xs.length (fun H => SqT K H a xs) (YEs k xs) :=
  ⟨fun i H hi h => ⟨xs, xs[i], h, List.getElem?_eq_getElem hi⟩, fun H h => ⟨xs, h, Nat.le_refl _⟩, fun i H x H' hi h ⟨T, y, e, hT, hH, hy⟩ => ⟨T, y, e, hT, hH, hy xs h⟩⟩
/-- a turn of enumerate(zip(t, u), start=k) -/
def YEz (k : Int) (xs ys : List V) : Nat → Hp → V → Hp → Prop := fun i H v H' => ∃ T0 T1 x y, v = V.ref T1 ∧ H T0 = none ∧ H T1 = none ∧ T0 ≠ T1 ∧ H' = upd (upd H T0 (.tup [x, y])) T1 (.tup [.int (k + i), .ref T0]) ∧ xs[i]? = some x ∧ ys[i]? = some y
theorem walk_ez {K : Frag} {a b : Addr} {k : Int} {xs ys : List V} (hl : xs.length = ys.length) : Walk (Itez K a b k) xs.length (fun H => SqT K H a xs ∧ SqT K H b ys) (YEz k xs ys) :=
  ⟨fun i H hi h => ⟨xs, ys, xs[i], ys[i], h.1, h.2, List.getElem?_eq_getElem hi, List.getElem?_eq_getElem (hl ▸ hi)⟩, fun H h => ⟨xs, ys, h.1, h.2, Nat.le_refl _⟩,
   fun i H x H' hi h ⟨T0, T1, y, z, e, h0, h1, ne, hH, hy, hz⟩ => ⟨T0, T1, y, z, e, h0, h1, ne, hH, hy xs h.1, hz ys h.2⟩⟩
end EL

/- part U -/
/-! Operators by the values that they meet; how a reading goes on -/
namespace EL
open PySem PySem.Spec PyProof.Rows L2
open PySem.W (Frag)
section
variable {X : Cx}
/-! ### rules that take what comes -/
theorem PI.alt {tg e : Expr} {w1 w2 : TI} (h1 : PI X tg e w1) (h2 : PI X tg e w2) : PI X tg e (fun σ H R => w1 σ H R ∨ w2 σ H R) :=
  ⟨fun pins s σ H R I h => h.elim (h1.run pins s σ H R I) (h2.run pins s σ H R I)⟩
theorem get_list : PGet X (rIxL X.K) := by
  rintro pins s σ H o i ov iv Q I ro ri ⟨p, xs, k, v, rfl, rfl, hq, hv, q⟩
  cases ro
  obtain ⟨t, rfl⟩ := ri
  obtain ⟨its, r, pl, hz⟩ := I.list hq
  obtain ⟨j, h1, h2, h3, h4, h5⟩ := atI_get hv
  obtain ⟨u, hu, ru⟩ := r.get h2
  have hl := r.length
  have hn := line63
  by_cases h0 : 0 ≤ k
  · have hj : k.toNat = j := by
      rw [seqIndex_of h0 h5] at h1
      exact Option.some.inj h1
    exact wpAny_getItem_list pl.isList h0 (by omega) (by rw [hj]; simpa using hu) ⟨v, H, I, ru, q⟩
  · have hj : (k + (its.toArray.size : Int)).toNat = j := by
      rw [seqIndex_neg (by omega) h4] at h1
      rw [List.size_toArray, ← hl]
      exact Option.some.inj h1
    exact wpAny_getItem_list_neg pl.isList (by omega) (by rw [List.size_toArray] <;> omega) (by omega) (by rw [hj]; simpa using hu) ⟨v, H, I, ru, q⟩
abbrev rAddI : R2 := rI0 fun i j => .int (i + j)
def rAdd (K : Frag) : R2 := fun x y H Q => rAddI x y H Q ∨ rCat x y H Q ∨ rCatA K x y H Q
theorem u_add : OpR X (binaryOp .Add) (rAdd X.K) := op_add.or (op_cat.or op_catA)
def rMul : R2 := fun x y H Q => rI CMul (fun i j => .int (i * j)) x y H Q ∨ rRep x y H Q
theorem u_mul : OpR X (binaryOp .Mult) rMul := op_mul.or op_rep
def rEqU (K : Frag) : R2 := fun x y H Q => rEq x y H Q ∨ rEqD K x y H Q
def rNeU (K : Frag) : R2 := fun x y H Q => rNe x y H Q ∨ rNeD K x y H Q
theorem u_eq (hu : X.A.units + 64 < cLine) : OpR X (compareOp .Eq) (rEqU X.K) := op_eq.or (op_eqD hu)
theorem u_ne (hu : X.A.units + 64 < cLine) : OpR X (compareOp .NotEq) (rNeU X.K) := op_ne.or (op_neD hu)
abbrev rIsNone : R2 := fun x y H Q => y = .non ∧ Q (.bl (decide (x = .non))) H
abbrev rNotNone : R2 := fun x y H Q => y = .non ∧ Q (.bl (!decide (x = .non))) H
/-- x is True, for any x that is no bool, too -/
abbrev rIsTrue : R2 := rIsB
theorem op_notBI {X : Cx} : OpR X (compareOp .IsNot) (fun x y H Q => ∃ i b, x = .int i ∧ y = .bl b ∧ Q (.bl true) H) := by
  rintro pins s σ H x y v u Q I rx ry ⟨i, b, rfl, rfl, q⟩
  obtain ⟨t, rfl⟩ := rx
  cases ry
  have e : (Value.int i t == Value.bool b) = false := by rfl
  exact wpAny_pure ⟨.bl true, H, I, by rw [e]; rfl, q⟩
theorem op_isBI {X : Cx} : OpR X (compareOp .Is) (fun x y H Q => ∃ i b, x = .int i ∧ y = .bl b ∧ Q (.bl false) H) := by
  rintro pins s σ H x y v u Q I rx ry ⟨i, b, rfl, rfl, q⟩
  obtain ⟨t, rfl⟩ := rx
  cases ry
  have e : (Value.int i t == Value.bool b) = false := by rfl
  exact wpAny_pure ⟨.bl false, H, I, by rw [e]; rfl, q⟩
def rIsU : R2 := fun x y H Q => rIsNone x y H Q ∨ rIsB x y H Q ∨ ∃ i b, x = .int i ∧ y = .bl b ∧ Q (.bl false) H
def rNotU : R2 := fun x y H Q => rNotNone x y H Q ∨ rNotB x y H Q ∨ ∃ i b, x = .int i ∧ y = .bl b ∧ Q (.bl true) H
theorem u_is : OpR X (compareOp .Is) rIsU := op_isN.or (op_isBl.or op_isBI)
theorem u_isnot : OpR X (compareOp .IsNot) rNotU := op_notN.or (op_notBl.or op_notBI)
theorem u_in : OpR X (compareOp .In) (rIn X.K false) := op_in_seq
theorem u_notin : OpR X (compareOp .NotIn) (rIn X.K true) := op_notIn_seq
abbrev rLen (K : Frag) : List V → Hp → VK → Prop := fun xs H Q => ∃ p ys, xs = [.ref p] ∧ (SqL K H p ys ∨ SqT K H p ys) ∧ Q (.int ys.length) H
theorem u_len : CallR X (.builtin "len") (rLen X.K) := call_len_seq
def rIsiU (K : Frag) : List V → Hp → VK → Prop := fun xs H Q => rIsi K xs H Q ∨ rIsiT K xs H Q
theorem u_isi : CallR X (.builtin "isinstance") (rIsiU X.K) := call_isi.or call_isiT
abbrev rInt : List V → Hp → VK → Prop := fun xs H Q => (∃ i, xs = [.int i] ∧ Q (.int i) H) ∨ ∃ k, xs = [.bl k] ∧ Q (.int (if k then 1 else 0)) H
theorem u_int : CallR X (.type "int") rInt := call_int1
abbrev rList (K : Frag) : List V → Hp → VK → Prop := fun xs H Q => ∃ p ys, xs = [.ref p] ∧ (SqL K H p ys ∨ SqT K H p ys) ∧ ∀ l, H l = none → Q (.ref l) (upd H l (.lst ys))
theorem u_list : CallR X (.type "list") (rList X.K) := call_list_of
abbrev rTuple (K : Frag) : List V → Hp → VK → Prop := fun xs H Q => ∃ p ys, xs = [.ref p] ∧ ((SqL K H p ys ∧ ∀ l, H l = none → Q (.ref l) (upd H l (.tup ys))) ∨ (SqT K H p ys ∧ Q (.ref p) H))
theorem u_tuple : CallR X (.type "tuple") (rTuple X.K) := call_tuple_of
def rSlice (K : Frag) : V → Option Int → Option Int → Hp → VK → Prop := fun x lo hi H Q => rSlL K x lo hi H Q ∨ rSlA K x lo hi H Q
theorem u_slice : SlR X (rSlice X.K) := sl_list.or sl_tupA
def iSeq (K : Frag) (tl : TE) : TI := fun σ H R => iList K tl σ H R ∨ iTup K tl σ H R
theorem u_iter {tg l : Expr} {tl : TE} (hl : PE X l tl) : PI X tg l (iSeq X.K tl) := PI.alt (pi_list hl) (pi_tup hl)
theorem u_min (hc : X.calm = true) : CallR X (.builtin "min") (fun xs H Q => (∃ i j, xs = [.int i, .int j] ∧ Q (.int (if j < i then j else i)) H) ∨ rMin X.K xs H Q) := (call_min2 hc).or (cr_min hc)
theorem u_max (hc : X.calm = true) : CallR X (.builtin "max") (fun xs H Q => (∃ i j, xs = [.int i, .int j] ∧ Q (.int (if j > i then j else i)) H) ∨ rMax X.K xs H Q) := (call_max2 hc).or (cr_max hc)
end
/-! ### what stays: all but the bag at b -/
/-- everything else stays -/
def Kp (b : Addr) (H H' : Hp) : Prop := ∀ a o, a ≠ b → H a = some o → H' a = some o
theorem Kp.refl (b : Addr) (H : Hp) : Kp b H H := fun _ _ _ h => h
theorem Kp.trans {b : Addr} {H H1 H2 : Hp} (p : Kp b H H1) (q : Kp b H1 H2) : Kp b H H2 := fun a o n h => q a o n (p a o n h)
theorem Kp.new {b p : Addr} {H H1 : Hp} {o : HO} (k : Kp b H H1) (h : H1 p = none) : Kp b H (upd H1 p o) := fun a u n e => by
  have q := k a u n e
  rw [upd_ne (ne_of_none q h)]
  exact q
/-- an object that is new since H may change -/
theorem Kp.mut {b p : Addr} {H H1 : Hp} {o : HO} (k : Kp b H H1) (h : H p = none) : Kp b H (upd H1 p o) := fun a u n e => by
  rw [upd_ne (ne_of_none e h)]
  exact k a u n e
theorem Kp.bag {b : Addr} {H H1 : Hp} {o : HO} (k : Kp b H H1) : Kp b H (upd H1 b o) := fun a u n e => by
  rw [upd_ne n]
  exact k a u n e
theorem Kp.free {b p : Addr} {H H1 : Hp} (k : Kp b H H1) (h : H1 p = none) (n : p ≠ b) : H p = none := by
  cases q : H p with
  | none => rfl
  | some o =>
    rw [k p o n q] at h
    cases h
theorem same_kp {b : Addr} {H H' : Hp} (s : Same H H') : Kp b H H' := fun a o _ h => s a o h
/-! ### the way on, construct by construct -/
section
variable {σ : L2.St} {H : Hp} {Q : VK} {K : Frag}
theorem n_add {i j : Int} (q : Q (.int (i + j)) H) : rAdd K (.int i) (.int j) H Q := .inl ⟨i, j, rfl, rfl, q⟩
theorem n_cat {l m : Addr} {xs ys : List V} (h1 : H l = some (.lst xs)) (h2 : H m = some (.lst ys)) (z : xs.length + ys.length ≤ sizeLine) (q : ∀ p, H p = none → Q (.ref p) (upd H p (.lst (xs ++ ys)))) : rAdd K (.ref l) (.ref m) H Q :=
  .inr (.inl ⟨l, m, xs, ys, rfl, rfl, h1, h2, z, q⟩)
theorem n_mul {i j : Int} (c : CMul i j) (q : Q (.int (i * j)) H) : rMul (.int i) (.int j) H Q := .inl ⟨i, j, rfl, rfl, c, q⟩
theorem n_eq {x y : V} (s : scal x y = true) (q : Q (.bl (decide (x = y))) H) : rEqU K x y H Q := .inl ⟨s, q⟩
theorem n_ne {x y : V} (s : scal x y = true) (q : Q (.bl (!decide (x = y))) H) : rNeU K x y H Q := .inl ⟨s, q⟩
theorem n_eqD {x y : V} {d e : PyData} (hd : Dp K H x d) (he : Dp K H y e) (sd : SeqAt.shaped d = true) (se : SeqAt.shaped e = true) (q : Q (.bl (PyData.eqv d e)) H) : rEqU K x y H Q := .inr ⟨d, e, hd, he, sd, se, q⟩
theorem n_neD {x y : V} {d e : PyData} (hd : Dp K H x d) (he : Dp K H y e) (sd : SeqAt.shaped d = true) (se : SeqAt.shaped e = true) (q : Q (.bl (!PyData.eqv d e)) H) : rNeU K x y H Q := .inr ⟨d, e, hd, he, sd, se, q⟩
theorem n_isi {x : V} {n m : String} {b : Bool} (ty : TyX K H x (.type n)) (h : kitB n m = some b) (q : Q (.bl b) H) : rIsiU K [x, .ty m] H Q := .inl ⟨x, .ty m, _, _, b, rfl, .ty m, ty, kit_ty h, q⟩
theorem n_isiX {x : V} {t : Value} {m : String} {b : Bool} (ty : TyX K H x t) (h : PySem.W.kitOne K t (.type m) = some b) (q : Q (.bl b) H) : rIsiU K [x, .ty m] H Q := .inl ⟨x, .ty m, _, _, b, rfl, .ty m, ty, h, q⟩
theorem n_len {p : Addr} {ys : List V} (h : SqL K H p ys ∨ SqT K H p ys) (q : Q (.int ys.length) H) : rLen K [.ref p] H Q := ⟨p, ys, rfl, h, q⟩
theorem n_int {i : Int} (q : Q (.int i) H) : rInt [.int i] H Q := .inl ⟨i, rfl, q⟩
theorem n_ib {k : Bool} (q : Q (.int (if k then 1 else 0)) H) : rInt [.bl k] H Q := .inr ⟨k, rfl, q⟩
theorem n_ixL {p : Addr} {xs : List V} {i : Int} {v : V} (h : SqL K H p xs) (hi : atI xs i = some v) (q : Q v H) : rIx K (.ref p) (.int i) H Q := .inl ⟨p, xs, i, v, rfl, rfl, h, hi, q⟩
theorem n_ixT {p : Addr} {xs : List V} {i : Int} {v : V} (h : SqT K H p xs) (hi : atI xs i = some v) (q : Q v H) : rIx K (.ref p) (.int i) H Q := .inr (.inl ⟨p, xs, i, v, rfl, rfl, h, hi, q⟩)
theorem n_inT {x : V} {p : Addr} {xs : List V} (h : H p = some (.tup xs)) (f1 : flatV x = true) (f2 : xs.all flatV = true) (q : Q (.bl (inV x xs)) H) : rIn K false x (.ref p) H Q := ⟨p, xs, rfl, .inr (SqT.of h), f1, f2, q⟩
theorem n_inL {x : V} {p : Addr} {xs : List V} (h : H p = some (.lst xs)) (f1 : flatV x = true) (f2 : xs.all flatV = true) (q : Q (.bl (inV x xs)) H) : rIn K false x (.ref p) H Q := ⟨p, xs, rfl, .inl (SqL.of h), f1, f2, q⟩
theorem n_isN {x : V} (q : Q (.bl (decide (x = .non))) H) : rIsU x .non H Q := .inl ⟨rfl, q⟩
theorem n_notN {x : V} (q : Q (.bl (!decide (x = .non))) H) : rNotU x .non H Q := .inl ⟨rfl, q⟩
theorem n_isB {a b : Bool} (q : Q (.bl (decide (a = b))) H) : rIsU (.bl a) (.bl b) H Q := .inr (.inl ⟨a, b, rfl, rfl, q⟩)
theorem n_isBI {i : Int} {b : Bool} (q : Q (.bl false) H) : rIsU (.int i) (.bl b) H Q := .inr (.inr ⟨i, b, rfl, rfl, q⟩)
theorem n_notB {a b : Bool} (q : Q (.bl (!decide (a = b))) H) : rNotU (.bl a) (.bl b) H Q := .inr (.inl ⟨a, b, rfl, rfl, q⟩)
theorem n_notBI {i : Int} {b : Bool} (q : Q (.bl true) H) : rNotU (.int i) (.bl b) H Q := .inr (.inr ⟨i, b, rfl, rfl, q⟩)
end
end EL

/- part V -/
/-! the administrative steps of a reading -/
namespace EL
open PySem PySem.Spec PyProof.Rows L2
open PySem.W (Frag)
section
variable {σ : L2.St} {H : Hp} {Q : VK} {K : Frag} {i : Nat} {v : V} {D : Ends} {ta tb te tc : TE} {t u t1 t2 : TS} {c c2 : TT} {tl tr : TA} {g : TG}
theorem a_var (h : σ[i]? = some (some v)) (q : Q v H) : tVar i σ H Q := ⟨v, h, q⟩
theorem a_c (q : Q v H) : tC v σ H Q := q
theorem a_op {r : R2} (q : ta σ H fun x H1 => tb σ H1 fun y H2 => r x y H2 Q) : tOp r ta tb σ H Q := q
theorem a_un {r : V → Hp → VK → Prop} (q : ta σ H fun x H1 => r x H1 Q) : tUn r ta σ H Q := q
theorem a_U {j : Int} {f : Int → V} (q : Q (f j) H) : rU f (.int j) H Q := ⟨j, rfl, q⟩
theorem a_nil {R : List V → Hp → Prop} (q : R [] H) : tNil σ H R := q
theorem a_cons {R : List V → Hp → Prop} (q : te σ H fun x H1 => tl σ H1 fun xs H2 => R (x :: xs) H2) : tCons te tl σ H R := q
theorem a_cb {r : List V → Hp → VK → Prop} (q : tl σ H fun vs H1 => r vs H1 Q) : tCB r tl σ H Q := q
theorem a_call {sp : Sp} {E : XK} (q : tl σ H fun vs H1 => sp vs H1 Q E) : tCall sp [] E tl σ H Q := by
  show tl σ H fun vs H1 => sp (vs ++ []) H1 Q E
  simpa only [List.append_nil] using q
theorem a_I0 {f : Int → Int → V} {a b : Int} (q : Q (f a b) H) : rI0 f (.int a) (.int b) H Q := ⟨a, b, rfl, rfl, q⟩
theorem a_I {C : Int → Int → Prop} {f : Int → Int → V} {a b : Int} (hc : C a b) (q : Q (f a b) H) : rI C f (.int a) (.int b) H Q := ⟨a, b, rfl, rfl, hc, q⟩
theorem a_seq (q : t { D with nx := u D } σ H) : tSeq t u D σ H := q
theorem a_asg (q : te σ H fun x H1 => g x σ H1 D.nx) : tAsg te g D σ H := q
theorem a_sasg (q : te σ H fun x H1 => g x σ H1 (u D)) : tSeq (tAsg te g) u D σ H := q
theorem a_gn {R : L2.St → Hp → Prop} (q : R (σ.set i (some v)) H) : gName i v σ H R := q
theorem a_drop (q : te σ H fun _ H1 => D.nx σ H1) : tDrop te D σ H := q
theorem a_sdrop (q : te σ H fun _ H1 => u D σ H1) : tSeq (tDrop te) u D σ H := q
theorem a_ret (q : te σ H D.rt) : tRet te D σ H := q
theorem a_if (q : c σ H fun b H1 => if b = true then t1 D σ H1 else t2 D σ H1) : tIfS c t1 t2 D σ H := q
theorem a_next (q : D.nx σ H) : tNext D σ H := q
theorem a_nx {f k1 k2 : L2.St → Hp → Prop} {r : VK} (q : f σ H) : (Ends.mk f r k1 k2).nx σ H := q
theorem a_rt {f k1 k2 : L2.St → Hp → Prop} {r : VK} (q : r v H) : (Ends.mk f r k1 k2).rt v H := q
theorem a_test {R : Bool → Hp → Prop} (q : te σ H fun x H' => ∃ k, x = .bl k ∧ R k H') : tTest te σ H R := q
theorem a_B {R : Bool → Hp → Prop} (q : te σ H fun x H' => ∃ k, x = .bl k ∧ R k H') : tB te σ H R := q
theorem a_bl {R : Bool → Prop} {b : Bool} (q : R b) : ∃ k, V.bl b = V.bl k ∧ R k := ⟨b, rfl, q⟩
theorem a_and {R : Bool → Hp → Prop} (q : c σ H fun b H1 => if b = true then c2 σ H1 R else R false H1) : tAnd c c2 σ H R := q
theorem a_or {R : Bool → Hp → Prop} (q : c σ H fun b H1 => if b = true then R true H1 else c2 σ H1 R) : tOr c c2 σ H R := q
theorem a_not {R : Bool → Hp → Prop} (q : c σ H fun b H1 => R (!b) H1) : tNot c σ H R := q
theorem a_andV (q : ta σ H fun x H1 => ∃ b, x = .bl b ∧ if b = true then tb σ H1 Q else Q (.bl false) H1) : tAndV ta tb σ H Q := q
theorem a_orV (q : ta σ H fun x H1 => ∃ b, x = .bl b ∧ if b = true then Q (.bl true) H1 else tb σ H1 Q) : tOrV ta tb σ H Q := q
theorem a_notV (q : ta σ H fun x H1 => ∃ b, x = .bl b ∧ Q (.bl (!b)) H1) : tNotV ta σ H Q := q
theorem a_ifx (q : c σ H fun b H1 => if b = true then ta σ H1 Q else tb σ H1 Q) : tIf c ta tb σ H Q := q
theorem a_chain {r r' : R2} (q : ta σ H fun x H1 => tb σ H1 fun y H2 => r x y H2 fun z H3 => ∃ k, z = .bl k ∧ (if k = true then tc σ H3 fun w' H4 => r' y w' H4 Q else Q (.bl false) H3)) : tChain r r' ta tb tc σ H Q := q
theorem a_T {A B : Prop} (q : A) : if true = true then A else B := by rw [if_pos rfl]; exact q
theorem a_F {A B : Prop} (q : B) : if false = true then A else B := by rw [if_neg Bool.false_ne_true]; exact q
theorem a_nT {A B : Prop} (q : B) : if (!true) = true then A else B := q
theorem a_nF {A B : Prop} (q : A) : if (!false) = true then A else B := q
theorem a_fld {tv : TE} {f : Str} (q : tv σ H fun y H1 => ta σ H1 fun x H2 => ∃ a C dx fs, x = .ref a ∧ H2 a = some (.ins C dx fs) ∧ Cls K C ∧ NoAttr K C f ∧ fs.length < 1000 ∧ D.nx σ (upd H2 a (.ins C dx (putF f y fs)))) : sFld K ta tv f D σ H := q
theorem a_getF {f : Str} (q : ta σ H fun x H1 => ∃ a C dx fs v, x = .ref a ∧ H1 a = some (.ins C dx fs) ∧ Cls K C ∧ NoAttr K C f ∧ List.lookup f fs = some v ∧ Q v H1) : tFld K ta f σ H Q := q
theorem a_tup {es : TA} (q : es σ H fun xs H1 => xs.length ≤ sizeLine ∧ ∀ p, H1 p = none → Q (.ref p) (upd H1 p (.tup xs))) : tTup es σ H Q := q
theorem a_lst {es : TA} (q : es σ H fun xs H1 => xs.length ≤ sizeLine ∧ ∀ p, H1 p = none → Q (.ref p) (upd H1 p (.lst xs))) : tLst es σ H Q := q
theorem a_ntup {xs : List V} (z : xs.length ≤ sizeLine) (q : ∀ p, H p = none → Q (.ref p) (upd H p (.tup xs))) : xs.length ≤ sizeLine ∧ ∀ p, H p = none → Q (.ref p) (upd H p (.tup xs)) := ⟨z, q⟩
theorem a_nlst {xs : List V} (z : xs.length ≤ sizeLine) (q : ∀ p, H p = none → Q (.ref p) (upd H p (.lst xs))) : xs.length ≤ sizeLine ∧ ∀ p, H p = none → Q (.ref p) (upd H p (.lst xs)) := ⟨z, q⟩
theorem a_sub {to ti : TE} {ts : TSet} {R : L2.St → Hp → Prop} (q : to σ H fun o H1 => ti σ H1 fun j H2 => ts o j v H2 fun H3 => R σ H3) : gSub to ti ts v σ H R := q
theorem a_set {p : Addr} {xs : List V} {k : Int} {j : Nat} {R : Hp → Prop} (h : H p = some (.lst xs)) (hj : ixN xs.length k = some j) (q : R (upd H p (.lst (xs.set j v)))) : rSetL (.ref p) (.int k) v H R := ⟨p, xs, k, j, rfl, rfl, h, hj, q⟩
theorem a_augS {to ti te : TE} {tget : V → V → Hp → VK → Prop} {tip : TIp} {ts : TSet} (q : to σ H fun o H1 => ti σ H1 fun j H2 => tget o j H2 fun x H3 => te σ H3 fun y H4 => tip x y H4 fun z H5 => ts o j z H5 fun H6 => D.nx σ H6) :
    tAugS to ti te tget tip ts D σ H := q
theorem a_saugS {to ti te : TE} {tget : V → V → Hp → VK → Prop} {tip : TIp} {ts : TSet} (q : to σ H fun o H1 => ti σ H1 fun j H2 => tget o j H2 fun x H3 => te σ H3 fun y H4 => tip x y H4 fun z H5 => ts o j z H5 fun H6 => u D σ H6) :
    tSeq (tAugS to ti te tget tip ts) u D σ H := q
theorem a_getL {p : Addr} {xs : List V} {k : Int} (h : SqL K H p xs) (hk : atI xs k = some v) (q : Q v H) : rIxL K (.ref p) (.int k) H Q := ⟨p, xs, k, v, rfl, rfl, h, hk, q⟩
theorem a_ip {f : Int → Int → Int} {a b : Int} (q : Q (.int (f a b)) H) : ipI f (.int a) (.int b) H Q := ⟨a, b, rfl, rfl, q⟩
theorem a_aug {ti : TIp} {x : V} (h : σ[i]? = some (some x)) (q : te σ H fun y H1 => ti x y H1 fun z H2 => D.nx (σ.set i (some z)) H2) : tAug i te ti D σ H := ⟨x, h, q⟩
theorem a_saug {ti : TIp} {x : V} (h : σ[i]? = some (some x)) (q : te σ H fun y H1 => ti x y H1 fun z H2 => u D (σ.set i (some z)) H2) : tSeq (tAug i te ti) u D σ H := ⟨x, h, q⟩
theorem a_par {j : Nat} {a b : V} (q : tl σ H fun vs H1 => ∃ x y, vs = [x, y] ∧ D.nx ((σ.set i (some x)).set j (some y)) H1) : tPar i j tl D σ H := q
theorem a_spar {j : Nat} (q : tl σ H fun vs H1 => ∃ x y, vs = [x, y] ∧ u D ((σ.set i (some x)).set j (some y)) H1) : tSeq (tPar i j tl) u D σ H := q
theorem a_two {R : V → V → Prop} {a b : V} (q : R a b) : ∃ x y, [a, b] = [x, y] ∧ R x y := ⟨a, b, rfl, q⟩
theorem a_cut (M : L2.St → Hp → Prop) (h : t { D with nx := M } σ H) (k : ∀ σ' H', M σ' H' → u D σ' H') : Evl.tCut t u D σ H := ⟨M, h, k⟩
theorem a_abs {j : Int} {R : Int → Prop} (q : R j) : ∃ i, [V.int j] = [V.int i] ∧ R i := ⟨j, rfl, q⟩
theorem a_gtup {n : Nat} {ts : TGs} {a : Addr} {xs : List V} {R : L2.St → Hp → Prop} (h : SqT K H a xs) (z : xs.length = n) (q : ts xs σ H R) : gTup K n ts (.ref a) σ H R := ⟨a, xs, rfl, h, z, q⟩
theorem a_gcons {ts : TGs} {xs : List V} {R : L2.St → Hp → Prop} (q : g v σ H fun σ' H' => ts xs σ' H' R) : gCons g ts (v :: xs) σ H R := ⟨v, xs, rfl, q⟩
theorem a_gnil {R : L2.St → Hp → Prop} (q : R σ H) : gNil [] σ H R := ⟨rfl, q⟩
end
theorem a_pairs {tk tv : TE} {r : List (TE × TE)} {σ : L2.St} {H : Hp} {R : List (V × V) → Hp → Prop} (q : tk σ H fun k H1 => tv σ H1 fun v H2 => tPairs r σ H2 fun ps H3 => R ((k, v) :: ps) H3) : tPairs ((tk, tv) :: r) σ H R := q
theorem a_pairs0 {σ : L2.St} {H : Hp} {R : List (V × V) → Hp → Prop} (q : R [] H) : tPairs [] σ H R := q
theorem a_bm {K : Frag} {T : String} {r : V → List V → Hp → VK → Prop} {to : TE} {t : TA} {σ : L2.St} {H : Hp} {Q : VK} (q : to σ H fun x H1 => tyV K T x H1 ∧ t σ H1 fun xs H2 => r x xs H2 Q) : tBM K T r to t σ H Q := q
end EL

/- part W -/
/-! values by what they are: numbers, texts, tracked lists, tuples, dicts, books -/
namespace EL
open PySem PySem.Spec PyProof.Rows L2
open PySem.W (Frag)
/-- the built-in names that stand for themselves -/
structure Bi (mg : Str → Option Value) : Prop where
  len_ : mg "len" = none
  isinstance_ : mg "isinstance" = none
  int_ : mg "int" = none
  bool_ : mg "bool" = none
  str_ : mg "str" = none
  list_ : mg "list" = none
  tuple_ : mg "tuple" = none
  range_ : mg "range" = none
  enumerate_ : mg "enumerate" = none
  zip_ : mg "zip" = none
  abs_ : mg "abs" = none
  repr_ : mg "repr" = none
  min_ : mg "min" = none
  max_ : mg "max" = none
  sum_ : mg "sum" = none
  all_ : mg "all" = none
/-- a constant of the program -/
theorem pe_gc {X : Cx} {x : Str} {v : V} {pos : Pos} (hg : Gl X x) (h : ∃ u, X.mg x = some u ∧ L2.RelV v u) (hdb : (x == ("__debug__" : Str)) = false := by decide) : PE X (.Name x pos) (tC v) := by
  obtain ⟨u, h1, h2⟩ := h
  exact pe_glob hg h1 h2 hdb
/-- what isinstance asks of an own class -/
structure OwnC (K : Frag) (C : Addr) : Prop where
  cl : Cls K C
  cls : PySem.W.findIn K (.ref C) "__class__" = some (some (.builtin "object.__class__"))
  get : PySem.W.specialIn K (.builtin "object.__class__") "__get__" = some (some (.builtin "getset_descriptor.__get__"))
  tak : PySem.W.takesIn K (.builtin "object.__class__") = some true
  obj : PySem.W.mroIn K C (.type "object") = some true
  kInt : PySem.W.kitOne K (.ref C) (.type "int") = some false
  kBool : PySem.W.kitOne K (.ref C) (.type "bool") = some false
  kStr : PySem.W.kitOne K (.ref C) (.type "str") = some false
  kTup : PySem.W.kitOne K (.ref C) (.type "tuple") = some false
  kLst : PySem.W.kitOne K (.ref C) (.type "list") = some false
/-- a value that is known -/
inductive Th (K : Frag) (H : Hp) : V → Prop
  | non : Th K H .non
  | bl (b : Bool) : Th K H (.bl b)
  | int (i : Int) : Th K H (.int i)
  | str (x : Str) : Th K H (.str x)
  | lst {a : Addr} {xs : List V} (h : H a = some (.lst xs)) : Th K H (.ref a)
  | tup {a : Addr} {xs : List V} (h : H a = some (.tup xs)) : Th K H (.ref a)
  | dct {a : Addr} {kvs : List (Key × V)} (h : H a = some (.dK kvs)) : Th K H (.ref a)
  | ins {a C dx : Addr} {fs : List (Str × V)} (h : H a = some (.ins C dx fs)) (c : OwnC K C) : Th K H (.ref a)
  | dtt {a : Addr} {kvs : List (List Key × V)} (h : H a = some (.dT kvs)) : Th K H (.ref a)
def isI : V → Bool | .int _ => true | .bl _ => true | _ => false
def isB : V → Bool | .bl _ => true | _ => false
def isS : V → Bool | .str _ => true | _ => false
def obT : Option HO → Bool | some (.tup _) => true | _ => false
def obL : Option HO → Bool | some (.lst _) => true | _ => false
def isT (H : Hp) : V → Bool | .ref a => obT (H a) | _ => false
def isL (H : Hp) : V → Bool | .ref a => obL (H a) | _ => false
structure KitOf (K : Frag) (H : Hp) (x : V) (t : Value) : Prop where
  ty : TyX K H x t
  int : PySem.W.kitOne K t (.type "int") = some (isI x)
  bool : PySem.W.kitOne K t (.type "bool") = some (isB x)
  str : PySem.W.kitOne K t (.type "str") = some (isS x)
  tup : PySem.W.kitOne K t (.type "tuple") = some (isT H x)
  lst : PySem.W.kitOne K t (.type "list") = some (isL H x)
theorem Th.kit {K : Frag} {H : Hp} {x : V} (h : Th K H x) : ∃ t, KitOf K H x t := by
  cases h with
  | non => exact ⟨_, .base .non, kit_ty (by show _ = some false; decide +kernel), kit_ty (by show _ = some false; decide +kernel), kit_ty (by show _ = some false; decide +kernel), kit_ty (by show _ = some false; decide +kernel), kit_ty (by show _ = some false; decide +kernel)⟩
  | bl b => exact ⟨_, .base (.bl b), kit_ty (by show _ = some true; decide +kernel), kit_ty (by show _ = some true; decide +kernel), kit_ty (by show _ = some false; decide +kernel), kit_ty (by show _ = some false; decide +kernel), kit_ty (by show _ = some false; decide +kernel)⟩
  | int i => exact ⟨_, .base (.int i), kit_ty (by show _ = some true; decide +kernel), kit_ty (by show _ = some false; decide +kernel), kit_ty (by show _ = some false; decide +kernel), kit_ty (by show _ = some false; decide +kernel), kit_ty (by show _ = some false; decide +kernel)⟩
  | str s => exact ⟨_, .base (.str s), kit_ty (by show _ = some false; decide +kernel), kit_ty (by show _ = some false; decide +kernel), kit_ty (by show _ = some true; decide +kernel), kit_ty (by show _ = some false; decide +kernel), kit_ty (by show _ = some false; decide +kernel)⟩
  | @lst a xs h =>
    have e1 : isT H (.ref a) = false := by show obT (H a) = _; rw [h]; rfl
    have e2 : isL H (.ref a) = true := by show obL (H a) = _; rw [h]; rfl
    refine ⟨_, .base (.lst h), kit_ty (by show _ = some false; decide +kernel), kit_ty (by show _ = some false; decide +kernel), kit_ty (by show _ = some false; decide +kernel), ?_, ?_⟩
    · rw [e1]; exact kit_ty (by show _ = some _; decide +kernel)
    · rw [e2]; exact kit_ty (by show _ = some _; decide +kernel)
  | @tup a xs h =>
    have e1 : isT H (.ref a) = true := by show obT (H a) = _; rw [h]; rfl
    have e2 : isL H (.ref a) = false := by show obL (H a) = _; rw [h]; rfl
    refine ⟨_, .base (.tup h), kit_ty (by show _ = some false; decide +kernel), kit_ty (by show _ = some false; decide +kernel), kit_ty (by show _ = some false; decide +kernel), ?_, ?_⟩
    · rw [e1]; exact kit_ty (by show _ = some _; decide +kernel)
    · rw [e2]; exact kit_ty (by show _ = some _; decide +kernel)
  | @dct a kvs h =>
    have e1 : isT H (.ref a) = false := by show obT (H a) = _; rw [h]; rfl
    have e2 : isL H (.ref a) = false := by show obL (H a) = _; rw [h]; rfl
    refine ⟨_, .base (.dK h), kit_ty (by show _ = some false; decide +kernel), kit_ty (by show _ = some false; decide +kernel), kit_ty (by show _ = some false; decide +kernel), ?_, ?_⟩
    · rw [e1]; exact kit_ty (by show _ = some _; decide +kernel)
    · rw [e2]; exact kit_ty (by show _ = some _; decide +kernel)
  | @dtt a kvs h =>
    have e1 : isT H (.ref a) = false := by show obT (H a) = _; rw [h]; rfl
    have e2 : isL H (.ref a) = false := by show obL (H a) = _; rw [h]; rfl
    refine ⟨_, .base (.dT h), kit_ty (by show _ = some false; decide +kernel), kit_ty (by show _ = some false; decide +kernel), kit_ty (by show _ = some false; decide +kernel), ?_, ?_⟩
    · rw [e1]; exact kit_ty (by show _ = some _; decide +kernel)
    · rw [e2]; exact kit_ty (by show _ = some _; decide +kernel)
  | @ins a C dx fs h c =>
    have e1 : isT H (.ref a) = false := by show obT (H a) = _; rw [h]; rfl
    have e2 : isL H (.ref a) = false := by show obL (H a) = _; rw [h]; rfl
    refine ⟨_, .base (.ins h c.cl c.cls c.get c.tak c.obj), c.kInt, c.kBool, c.kStr, ?_, ?_⟩
    · rw [e1]; exact c.kTup
    · rw [e2]; exact c.kLst
/-- a known value stays known -/
theorem Th.stay {K : Frag} {b : Addr} {l : List V} {H H' : Hp} {x : V} (h : Th K H x) (hb : H b = some (.lst l)) {l' : List V} (hb' : H' b = some (.lst l')) (k : Kp b H H') : Th K H' x := by
  cases h with
  | non => exact .non
  | bl b => exact .bl b
  | int i => exact .int i
  | str s => exact .str s
  | @lst a xs h =>
    by_cases e : a = b
    · subst e; exact .lst hb'
    · exact .lst (k _ _ e h)
  | @tup a xs h => exact .tup (k _ _ (fun z => by subst z; rw [hb] at h; cases h) h)
  | @dct a xs h => exact .dct (k _ _ (fun z => by subst z; rw [hb] at h; cases h) h)
  | @ins a C dx fs h c => exact .ins (k _ _ (fun z => by subst z; rw [hb] at h; cases h) h) c
  | @dtt a kvs h => exact .dtt (k _ _ (fun z => by subst z; rw [hb] at h; cases h) h)
section
variable {K : Frag} {H : Hp} {Q : VK} {x : V} {t : Value}
theorem n_isT {m : String} {b : Bool} (k : TyX K H x t) (h : PySem.W.kitOne K t (.type m) = some b) (q : Q (.bl b) H) : rIsiU K [x, .ty m] H Q := n_isiX k h q
theorem n_isInt (k : KitOf K H x t) (q : Q (.bl (isI x)) H) : rIsiU K [x, .ty "int"] H Q := n_isT k.ty k.int q
theorem n_isBool (k : KitOf K H x t) (q : Q (.bl (isB x)) H) : rIsiU K [x, .ty "bool"] H Q := n_isT k.ty k.bool q
theorem n_isStr (k : KitOf K H x t) (q : Q (.bl (isS x)) H) : rIsiU K [x, .ty "str"] H Q := n_isT k.ty k.str q
theorem n_isTup (k : KitOf K H x t) (q : Q (.bl (isT H x)) H) : rIsiU K [x, .ty "tuple"] H Q := n_isT k.ty k.tup q
theorem n_isLst (k : KitOf K H x t) (q : Q (.bl (isL H x)) H) : rIsiU K [x, .ty "list"] H Q := n_isT k.ty k.lst q
/-- isinstance(x, (list, tuple)), the tuple just laid -/
theorem n_isLT {p : Addr} (k : KitOf K H x t) (hp : H p = some (.tup [.ty "list", .ty "tuple"])) (q : Q (.bl (isL H x || isT H x)) H) : rIsiU K [x, .ref p] H Q := by
  refine .inr ⟨x, p, _, t, [.type "list", .type "tuple"], isL H x || isT H x, rfl, hp, .cons (.ty "list") (.cons (.ty "tuple") .nil), k.ty, ?_, q⟩
  refine kitAny_cons k.lst (fun e => ?_) (fun e => by rw [e]; rfl)
  rw [e]
  refine kitAny_cons k.tup (fun e2 => ?_) (fun e2 => by rw [e2]; rfl)
  rw [e2]
  rfl
end
theorem _root_.L2.Same.nw {H H1 : Hp} {p : Addr} {o : HO} (k : Same H H1) (h : H1 p = none) : Same H (upd H1 p o) := fun a u e => by
  have q := k a u e
  rw [upd_ne (ne_of_none q h)]
  exact q
/-- an object that is new since H may change -/
theorem _root_.L2.Same.mu {H H1 : Hp} {p : Addr} {o : HO} (k : Same H H1) (h : H p = none) : Same H (upd H1 p o) := fun a u e => by
  rw [upd_ne (ne_of_none e h)]
  exact k a u e
theorem Th.same {K : Frag} {H H' : Hp} {x : V} (h : Th K H x) (k : Same H H') : Th K H' x := by
  cases h with
  | non => exact .non
  | bl b => exact .bl b
  | int i => exact .int i
  | str s => exact .str s
  | lst h => exact .lst (k _ _ h)
  | tup h => exact .tup (k _ _ h)
  | dct h => exact .dct (k _ _ h)
  | ins h c => exact .ins (k _ _ h) c
  | dtt h => exact .dtt (k _ _ h)
/-! ### the class of a sequence; isinstance(x, (list, tuple)) of one -/
theorem _root_.L2.SqT.ty {K : Frag} {H : Hp} {a : Addr} {xs : List V} (h : SqT K H a xs) : TyX K H (.ref a) (.type "tuple") := by
  rcases h with (h | ⟨o, h⟩) | ⟨o, its, n, h, c, _⟩
  · exact .base (.tup h)
  · exact .fTuple h
  · exact .kTuple h c
theorem n_isLTl {K : Frag} {H : Hp} {Q : VK} {x : V} {p : Addr} (ty : TyX K H x (.type "list")) (hp : H p = some (.tup [.ty "list", .ty "tuple"])) (q : Q (.bl true) H) : rIsiU K [x, .ref p] H Q :=
  .inr ⟨x, p, _, _, [.type "list", .type "tuple"], true, rfl, hp, .cons (.ty "list") (.cons (.ty "tuple") .nil), ty, kitAny_cons (b := true) (kit_ty (by decide +kernel)) (fun e => nomatch e) (fun _ => rfl), q⟩
theorem n_isLTt {K : Frag} {H : Hp} {Q : VK} {x : V} {p : Addr} (ty : TyX K H x (.type "tuple")) (hp : H p = some (.tup [.ty "list", .ty "tuple"])) (q : Q (.bl true) H) : rIsiU K [x, .ref p] H Q :=
  .inr ⟨x, p, _, _, [.type "list", .type "tuple"], true, rfl, hp, .cons (.ty "list") (.cons (.ty "tuple") .nil), ty,
    kitAny_cons (b := false) (kit_ty (by decide +kernel)) (fun _ => kitAny_cons (b := true) (kit_ty (by decide +kernel)) (fun e => nomatch e) (fun _ => rfl)) (fun e => nomatch e), q⟩
/-- a list or a tuple, tracked or of the program's top -/
def SqA (K : Frag) (H : Hp) (a : Addr) (xs : List V) : Prop := H a = some (.lst xs) ∨ SqT K H a xs
theorem _root_.L2.SqT.same {K : Frag} {H H' : Hp} {a : Addr} {xs : List V} (h : SqT K H a xs) (s : Same H H') : SqT K H' a xs := by
  rcases h with (h | ⟨o, h⟩) | h
  · exact .inl (.inl (s _ _ h))
  · exact .inl (.inr ⟨o, s _ _ h⟩)
  · exact .inr h
theorem SqA.same {K : Frag} {H H' : Hp} {a : Addr} {xs : List V} (h : SqA K H a xs) (s : Same H H') : SqA K H' a xs := by
  rcases h with h | (h | ⟨o, h⟩) | h
  · exact .inl (s _ _ h)
  · exact .inr (.inl (.inl (s _ _ h)))
  · exact .inr (.inl (.inr ⟨o, s _ _ h⟩))
  · exact .inr (.inr h)
theorem SqA.isLT {K : Frag} {H : Hp} {Q : VK} {a p : Addr} {xs : List V} (h : SqA K H a xs) (hp : H p = some (.tup [.ty "list", .ty "tuple"])) (q : Q (.bl true) H) : rIsiU K [.ref a, .ref p] H Q := by
  rcases h with h | h
  · exact n_isLTl (.base (.lst h)) hp q
  · exact n_isLTt h.ty hp q
theorem SqA.len {K : Frag} {H : Hp} {a : Addr} {xs : List V} (h : SqA K H a xs) : SqL K H a xs ∨ SqT K H a xs := h.elim (fun h => .inl (SqL.of h)) .inr
theorem n_tuple {K : Frag} {H : Hp} {Q : VK} {a : Addr} {xs : List V} (h : SqA K H a xs) (q : ∀ r H', Same H H' → SqT K H' r xs → Q (.ref r) H') : rTuple K [.ref a] H Q := by
  rcases h with h | h
  · exact ⟨a, xs, rfl, .inl ⟨SqL.of h, fun l hl => q l _ (L2.Same.nw (Same.refl _) hl) (SqT.of upd_same)⟩⟩
  · exact ⟨a, xs, rfl, .inr ⟨h, q a H (Same.refl _) h⟩⟩
theorem SqT.kp {K : Frag} {H H' : Hp} {a o : Addr} {xs : List V} {C dx : Addr} {fs : List (Str × V)} (h : SqT K H a xs) (ho : H o = some (.ins C dx fs)) (k : Kp o H H') : SqT K H' a xs := by
  rcases h with (h | ⟨o, h⟩) | h
  · exact .inl (.inl (k _ _ (fun z => by subst z; rw [ho] at h; cases h) h))
  · exact .inl (.inr ⟨_, k _ _ (fun z => by subst z; rw [ho] at h; cases h) h⟩)
  · exact .inr h
theorem SqA.kp {K : Frag} {H H' : Hp} {a o : Addr} {xs : List V} {C dx : Addr} {fs : List (Str × V)} (h : SqA K H a xs) (ho : H o = some (.ins C dx fs)) (k : Kp o H H') : SqA K H' a xs := by
  rcases h with h | h
  · exact .inl (k _ _ (fun z => by subst z; rw [ho] at h; cases h) h)
  · exact .inr (SqT.kp h ho k)
theorem n_ixA {K : Frag} {H : Hp} {Q : VK} {p : Addr} {xs : List V} {i : Int} {v : V} (h : SqA K H p xs) (hi : atI xs i = some v) (q : Q v H) : rIx K (.ref p) (.int i) H Q := h.elim (fun h => n_ixL (SqL.of h) hi q) fun h => n_ixT h hi q
/-! ### loops -/
/-- the loop itself, its walk made -/
def Lp (J : It) (g : TG) (tb : TS) (D : Ends) (σ : L2.St) (H : Hp) : Prop := ∃ W : Nat → Nat → L2.St → Hp → Prop, (∃ m, W 0 m σ H) ∧ ∀ (i m : Nat) (σ : L2.St) (H : Hp), W i m σ H →
  (J.stop i H ∧ D.nx σ H) ∨ (J.go i H ∧ ∃ N : L2.St → Hp → Prop, (∀ σ' H', N σ' H' → ∃ m', m' < m ∧ W (i + 1) m' σ' H') ∧ ∀ x H', J.yld i H x H' → g x σ H' fun σ2 H2 => tb { nx := N, rt := D.rt, bk := D.nx, ct := N } σ2 H2)
section
variable {σ : L2.St} {H : Hp} {K : Frag} {D : Ends} {g : TG} {tb u : TS} {wi : TI} {ta : TA} {te : TE} {R : It → Hp → Prop}
theorem a_for (q : wi σ H fun J H1 => Lp J g tb D σ H1) : tFor wi g tb D σ H := q
theorem a_sfor (q : wi σ H fun J H1 => Lp J g tb { D with nx := u D } σ H1) : tSeq (tFor wi g tb) u D σ H := q
theorem a_iE1 (q : ta σ H fun vs H1 => ∃ a xs, vs = [.ref a] ∧ SqT K H1 a xs ∧ R (Ites K a 0) H1) : iE1 K ta σ H R := q
theorem a_iEs {k : Int} (q : ta σ H fun vs H1 => ∃ a xs, vs = [.ref a] ∧ SqT K H1 a xs ∧ R (Ites K a k) H1) : iEs K k ta σ H R := q
theorem a_iEz {k : Int} (q : ta σ H fun vs H1 => ∃ a b xs ys, vs = [.ref a, .ref b] ∧ SqT K H1 a xs ∧ SqT K H1 b ys ∧ R (Itez K a b k) H1) : iEz K k ta σ H R := q
theorem a_iEnum (q : ta σ H fun vs H1 => ∃ a xs, vs = [.ref a] ∧ SqL K H1 a xs ∧ R (Ite K a) H1) : iEnum K ta σ H R := q
theorem a_iSeq (q : iList K te σ H R ∨ iTup K te σ H R) : iSeq K te σ H R := q
theorem a_iTup (q : te σ H fun x H1 => ∃ a, x = .ref a ∧ (∃ xs, SqT K H1 a xs) ∧ R (Itt K a) H1) : iTup K te σ H R := q
theorem a_iList (q : te σ H fun x H1 => ∃ a, x = .ref a ∧ (∃ xs, SqL K H1 a xs) ∧ R (Itl K a) H1) : iList K te σ H R := q
theorem lp_it {J : It} {n : Nat} {G : Hp → Prop} {Y : Nat → Hp → V → Hp → Prop} (w : Walk J n G Y) (Pv : Nat → L2.St → Hp → Prop) (h0 : Pv 0 σ H) (hG : ∀ i σ H, i ≤ n → Pv i σ H → G H)
    (hs : ∀ i x σ H H', i < n → Pv i σ H → Y i H x H' → g x σ H' fun σ2 H2 => tb { nx := Pv (i + 1), rt := D.rt, bk := D.nx, ct := Pv (i + 1) } σ2 H2) (hd : ∀ σ H, Pv n σ H → D.nx σ H) : Lp J g tb D σ H := for_it w Pv h0 hG hs hd
theorem lp_range {lo : Int} {n : Nat} (Pv : Nat → L2.St → Hp → Prop) (h0 : Pv 0 σ H) (hs : ∀ i σ H, i < n → Pv i σ H → g (.int (lo + i)) σ H fun σ2 H2 => tb { nx := Pv (i + 1), rt := D.rt, bk := D.nx, ct := Pv (i + 1) } σ2 H2) (hd : ∀ σ H, Pv n σ H → D.nx σ H) :
    Lp (Itr lo n) g tb D σ H := for_range Pv h0 hs hd
end
/-! ### comprehensions -/
def Lc (J : It) (g : TG) (tt : TT) (te : TE) (vs : List Nat) (σ : L2.St) (H1 : Hp) (D : Addr) (Qd : Hp → Prop) : Prop := ∃ W : Nat → Nat → Hp → Prop, (∃ m, W 0 m (upd H1 D (.lst []))) ∧ ∀ (i m : Nat) (H : Hp), W i m H →
  (J.stop i H ∧ Qd H) ∨ (J.go i H ∧ ∃ Nx : Hp → Prop, (∀ H', Nx H' → ∃ m', m' < m ∧ W (i + 1) m' H') ∧ ∀ (x : V) (H' : Hp), J.yld i H x H' → g x (wipe σ vs) H' fun σ2 H2 => wipe σ2 vs = wipe σ vs ∧
    tt σ2 H2 fun b H3 => if b = true then te σ2 H3 fun y H4 => ∃ acc, H4 D = some (.lst acc) ∧ acc.length < sizeLine ∧ Nx (upd H4 D (.lst (acc ++ [y]))) else Nx H3)
section
variable {σ : L2.St} {H : Hp} {Q : VK} {g : TG} {tt : TT} {te : TE} {wi : TI} {vs : List Nat}
theorem a_lc (q : wi σ H fun J H1 => ∀ D, H1 D = none → Lc J g tt te vs σ H1 D fun H2 => Q (.ref D) H2) : tLc wi g tt te vs σ H Q := q
theorem lc_of {J : It} {n : Nat} {G : Hp → Prop} {Y : Nat → Hp → V → Hp → Prop} (w : Walk J n G Y) {H1 : Hp} {D : Addr} {Qd : Hp → Prop} (Pv : Nat → Hp → Prop) (h0 : Pv 0 (upd H1 D (.lst []))) (hG : ∀ i H, i ≤ n → Pv i H → G H)
    (hs : ∀ i x H H', i < n → Pv i H → Y i H x H' → g x (wipe σ vs) H' fun σ2 H2 => wipe σ2 vs = wipe σ vs ∧ tt σ2 H2 fun b H3 => if b = true then te σ2 H3 fun y H4 => ∃ acc, H4 D = some (.lst acc) ∧ acc.length < sizeLine ∧ Pv (i + 1) (upd H4 D (.lst (acc ++ [y]))) else Pv (i + 1) H3)
    (hd : ∀ H, Pv n H → Qd H) : Lc J g tt te vs σ H1 D Qd := lc_it w Pv h0 hG hs hd
theorem a_yes {R : Bool → Hp → Prop} (q : R true H) : tYes σ H R := q
theorem a_wp {A B : Prop} (a : A) (b : B) : A ∧ B := ⟨a, b⟩
theorem a_sl {r : V → Option Int → Option Int → Hp → VK → Prop} {tl th : TO} (q : te σ H fun x H1 => tl σ H1 fun l H2 => th σ H2 fun u H3 => r x l u H3 Q) : tSl r te tl th σ H Q := q
theorem a_nop {R : Option Int → Hp → Prop} (q : R none H) : tNoPart σ H R := q
theorem a_prt {R : Option Int → Hp → Prop} (q : te σ H fun x H1 => ∃ i, x = .int i ∧ R (some i) H1) : tPart te σ H R := q
theorem a_ex1 {R : Int → Prop} {i : Int} (q : R i) : ∃ j, V.int i = V.int j ∧ R j := ⟨i, rfl, q⟩
end
section
variable {σ : L2.St} {H : Hp} {ta : TA} {R : It → Hp → Prop}
theorem a_rng1 (q : ta σ H fun vs H1 => ∃ j : Int, vs = [.int j] ∧ -2 ^ 62 ≤ j ∧ j < 2 ^ 62 ∧ R (Itr 0 j.toNat) H1) : iRng1 ta σ H R := q
theorem a_rng2 (q : ta σ H fun vs H1 => ∃ i j : Int, vs = [.int i, .int j] ∧ (-2 ^ 62 ≤ i ∧ i < 2 ^ 62 ∧ -2 ^ 62 ≤ j ∧ j < 2 ^ 62) ∧ R (Itr i (j - i).toNat) H1) : iRng2 ta σ H R := q
end
end EL

/- part T -/
/-! tracked data: what is laid and known, with empty dicts; repr of it; t[::-1] of a tuple -/
namespace EL
open PySem PySem.Spec PyProof.Rows L2
open PySem.W (Frag)
mutual
inductive Tk (H : Hp) : V → PyData → Prop
  | non : Tk H .non .none
  | bl (b : Bool) : Tk H (.bl b) (.bool b)
  | int (i : Int) : Tk H (.int i) (.int i)
  | str (x : Str) : Tk H (.str x) (.str x)
  | lst {a : Addr} {xs : List V} {ds : List PyData} (h : H a = some (.lst xs)) (t : TkAll H xs ds) : Tk H (.ref a) (.list ds)
  | tup {a : Addr} {xs : List V} {ds : List PyData} (h : H a = some (.tup xs)) (t : TkAll H xs ds) : Tk H (.ref a) (.tuple ds)
  | dct {a : Addr} (h : H a = some (.dK [])) : Tk H (.ref a) (.dict [])
inductive TkAll (H : Hp) : List V → List PyData → Prop
  | nil : TkAll H [] []
  | cons {v : V} {vs : List V} {d : PyData} {ds : List PyData} (h : Tk H v d) (t : TkAll H vs ds) : TkAll H (v :: vs) (d :: ds)
end
mutual
theorem tk_same {H H' : Hp} (s : Same H H') : ∀ (d : PyData) (v : V), Tk H v d → Tk H' v d
  | .none, _, h => by cases h; exact .non
  | .bool _, _, h => by cases h; exact .bl _
  | .int _, _, h => by cases h; exact .int _
  | .str _, _, h => by cases h; exact .str _
  | .list ds, _, h => by
    cases h with
    | lst a t => exact .lst (s _ _ a) (tk_sameAll s ds _ t)
  | .tuple ds, _, h => by
    cases h with
    | tup a t => exact .tup (s _ _ a) (tk_sameAll s ds _ t)
  | .dict _, _, h => by
    cases h with
    | dct a => exact .dct (s _ _ a)
theorem tk_sameAll {H H' : Hp} (s : Same H H') : ∀ (ds : List PyData) (vs : List V), TkAll H vs ds → TkAll H' vs ds
  | [], _, h => by cases h; exact .nil
  | d :: ds, _, h => by
    cases h with
    | cons h1 h2 => exact .cons (tk_same s d _ h1) (tk_sameAll s ds _ h2)
end
theorem Tk.same {H H' : Hp} {v : V} {d : PyData} (h : Tk H v d) (s : Same H H') : Tk H' v d := tk_same s d v h
theorem TkAll.same {H H' : Hp} {v : List V} {d : List PyData} (h : TkAll H v d) (s : Same H H') : TkAll H' v d := tk_sameAll s d v h
theorem TkAll.mem {H : Hp} : ∀ {vs : List V} {ds : List PyData}, TkAll H vs ds → ∀ y ∈ vs, ∃ e, e ∈ ds ∧ Tk H y e
  | [], _, _, _, h => nomatch h
  | v :: vs, _, .cons h t, y, hy => by
    rcases List.mem_cons.mp hy with rfl | q
    · exact ⟨_, List.mem_cons_self .., h⟩
    · obtain ⟨e, m, k⟩ := TkAll.mem t y q
      exact ⟨e, List.mem_cons_of_mem _ m, k⟩
theorem TkAll.app {H : Hp} : ∀ {vs ws : List V} {ds es : List PyData}, TkAll H vs ds → TkAll H ws es → TkAll H (vs ++ ws) (ds ++ es)
  | [], _, _, _, .nil, h => h
  | _ :: _, _, _, _, .cons h t, k => .cons h (TkAll.app t k)
theorem TkAll.at_ {H : Hp} {vs : List V} {ds : List PyData} (h : TkAll H vs ds) : ∀ (i : Nat) (v : V), vs[i]? = some v → ∃ d, ds[i]? = some d ∧ Tk H v d := by
  induction vs generalizing ds with
  | nil => intro i v e; cases i <;> cases e
  | cons w ws ih =>
    intro i v e
    cases h with
    | cons h1 h2 =>
      cases i with
      | zero => cases e; exact ⟨_, rfl, h1⟩
      | succ i => exact ih h2 i v e
theorem tk_ints {H : Hp} : ∀ (js : List Int), TkAll H (js.map V.int) (js.map PyData.int)
  | [] => .nil
  | j :: r => .cons (.int j) (tk_ints r)
theorem Tk.th {K : Frag} {H : Hp} {v : V} {d : PyData} (h : Tk H v d) : Th K H v := by
  cases h with
  | non => exact .non
  | bl b => exact .bl b
  | int i => exact .int i
  | str x => exact .str x
  | lst h _ => exact .lst h
  | tup h _ => exact .tup h
  | dct h => exact .dct h
theorem Tk.el {H : Hp} {q : Addr} {d : PyData} {xs : List V} (h : Tk H (.ref q) d) (e : H q = some (.tup xs)) : ∃ ds, d = .tuple ds ∧ TkAll H xs ds := by
  cases h with
  | lst h _ => rw [h] at e; cases e
  | tup h t => rw [h] at e; cases e; exact ⟨_, rfl, t⟩
  | dct h => rw [h] at e; cases e
theorem Tk.elL {H : Hp} {q : Addr} {d : PyData} {xs : List V} (h : Tk H (.ref q) d) (e : H q = some (.lst xs)) : ∃ ds, d = .list ds ∧ TkAll H xs ds := by
  cases h with
  | lst h t => rw [h] at e; cases e; exact ⟨_, rfl, t⟩
  | tup h _ => rw [h] at e; cases e
  | dct h => rw [h] at e; cases e
theorem Tk.els {K : Frag} {H : Hp} {x : V} {d : PyData} (h : Tk H x d) (q : Addr) (xs : List V) (ex : x = .ref q) (e : H q = some (.tup xs)) : ∀ y ∈ xs, Th K H y := fun y hy => by
  subst ex
  obtain ⟨ds, _, t⟩ := h.el e
  obtain ⟨e, _, k⟩ := t.mem y hy
  exact k.th
/-! ### the heap without the bag -/
def wo (b : Addr) (H : Hp) : Hp := fun a => if a = b then none else H a
theorem wo_ne {b a : Addr} {H : Hp} {o : HO} (n : a ≠ b) (h : H a = some o) : wo b H a = some o := by unfold wo; rw [if_neg n]; exact h
theorem wo_same {b : Addr} {H : Hp} : Same (wo b H) H := fun a o h => by
  unfold wo at h
  by_cases e : a = b
  · rw [if_pos e] at h; cases h
  · rw [if_neg e] at h; exact h
theorem wo_kp {b : Addr} {H H' : Hp} (k : Kp b H H') : Same (wo b H) (wo b H') := fun a o h => by
  unfold wo at h
  by_cases e : a = b
  · rw [if_pos e] at h; cases h
  · rw [if_neg e] at h; exact wo_ne e (k a o e h)
theorem wo_sm {b : Addr} {H H' : Hp} (s : Same H H') : Same (wo b H) (wo b H') := wo_kp (same_kp s)
/-- known apart from the bag -/
abbrev TkB (b : Addr) (H : Hp) (v : V) (d : PyData) : Prop := Tk (wo b H) v d
theorem TkB.tk {b : Addr} {H : Hp} {v : V} {d : PyData} (h : TkB b H v d) : Tk H v d := h.same wo_same
theorem TkB.kp {b : Addr} {H H' : Hp} {v : V} {d : PyData} (h : TkB b H v d) (k : Kp b H H') : TkB b H' v d := h.same (wo_kp k)
/-! ### what can be shown -/
mutual
def gd : PyData → Bool
  | .none | .bool _ => true
  | .int i => decide (i.natAbs < 10 ^ 40)
  | .str x => x.cps.toList.all fun c => decide (c < 16 ^ 8)
  | .list xs | .tuple xs => gdAll xs
  | .dict kvs => kvs.isEmpty
def gdAll : List PyData → Bool
  | [] => true
  | x :: xs => gd x && gdAll xs
end
mutual
def noL : PyData → Bool
  | .list _ => false
  | .tuple xs => noLAll xs
  | _ => true
def noLAll : List PyData → Bool
  | [] => true
  | x :: xs => noL x && noLAll xs
end
structure Fine (d : PyData) : Prop where
  good : gd d = true
  bulk : d.bulk ≤ 300000
  depth : d.depth ≤ 40
  mix : d.hasDict = true → noL d = true
theorem pow10 : (10 : Nat) ^ 40 ≤ 2 ^ 1920 := by decide +kernel
mutual
theorem gd_showable : ∀ (d : PyData), gd d = true → d.showable = true
  | .none, _ => rfl
  | .bool _, _ => rfl
  | .str _, _ => rfl
  | .int i, h => by
    have q : i.natAbs < 10 ^ 40 := by simpa [gd] using h
    have q2 : i.natAbs < 2 ^ 1920 := Nat.lt_of_lt_of_le q pow10
    show decide (i.natAbs.log2 < 1920) = true
    rw [decide_eq_true_iff]
    by_cases e : i.natAbs = 0
    · rw [e]; decide
    · exact (Nat.log2_lt e).mpr q2
  | .list xs, h => gd_showableAll xs h
  | .tuple xs, h => gd_showableAll xs h
  | .dict [], _ => rfl
  | .dict (_ :: _), h => by cases h
theorem gd_showableAll : ∀ (ds : List PyData), gdAll ds = true → PyData.showableAll ds = true
  | [], _ => rfl
  | d :: ds, h => by
    have q : gd d = true ∧ gdAll ds = true := by simpa [gdAll] using h
    show (d.showable && PyData.showableAll ds) = true
    rw [gd_showable d q.1, gd_showableAll ds q.2]
    rfl
end
theorem int_shown {i : Int} (h : i.natAbs < 10 ^ 40) : (PyData.shown (.int i)).length ≤ 42 := by
  have q := int_text_length_le10 (a := i) (k := 40) (by decide) h
  have e : (PyData.shown (.int i)).length = (toString i).length := by
    show (Str.ofString (toString i)).length = _
    exact PySem.ofString_length _
  omega
mutual
theorem gd_short : ∀ (d : PyData), gd d = true → d.leavesShort 42 = true
  | .none, _ => rfl
  | .bool _, _ => rfl
  | .str _, h => h
  | .int i, h => by
    have q : i.natAbs < 10 ^ 40 := by simpa [gd] using h
    show decide (_ ≤ 42) = true
    rw [decide_eq_true_iff]
    exact int_shown q
  | .list xs, h => gd_shortAll xs h
  | .tuple xs, h => gd_shortAll xs h
  | .dict [], _ => rfl
  | .dict (_ :: _), h => by cases h
theorem gd_shortAll : ∀ (ds : List PyData), gdAll ds = true → PyData.leavesShortAll 42 ds = true
  | [], _ => rfl
  | d :: ds, h => by
    have q : gd d = true ∧ gdAll ds = true := by simpa [gdAll] using h
    show (d.leavesShort 42 && PyData.leavesShortAll 42 ds) = true
    rw [gd_short d q.1, gd_shortAll ds q.2]
    rfl
end
theorem Fine.len {d : PyData} (h : Fine d) : d.shown.length ≤ sizeLine := by
  have q := PyData.shown_le_bulk 42 (by decide) d (gd_short d h.good)
  have e : sizeLine = 16777216 := rfl
  have := h.bulk
  omega
/-! ### what the real heap has of it -/
section
variable {X : Cx} {pins : List (Addr × Obj)} {σ : L2.St} {H : Hp} {s : Shared}
mutual
theorem tk_reads (I : Inv X pins σ H s) : ∀ (d : PyData) (v : V) (u : Value), Tk H v d → RelV v u → ∃ as, Reads s.heap u d as ∧ (noL d = true → sysModules ∉ as)
  | .none, _, _, h, r => by
    cases h
    cases r
    exact ⟨_, Reads.none, fun _ => List.not_mem_nil⟩
  | .bool b, _, _, h, r => by
    cases h
    cases r
    exact ⟨_, Reads.bool b, fun _ => List.not_mem_nil⟩
  | .int i, _, _, h, r => by
    cases h
    obtain ⟨t, rfl⟩ := r
    exact ⟨_, Reads.int i t, fun _ => List.not_mem_nil⟩
  | .str x, _, _, h, r => by
    cases h
    obtain ⟨t, rfl⟩ := r
    exact ⟨_, Reads.str x t, fun _ => List.not_mem_nil⟩
  | .list ds, _, _, h, r => by
    cases h with
    | lst hs ha =>
      cases r
      obtain ⟨its, rv, ⟨o, n, ho, hc, _, hd⟩, _⟩ := I.list (SqL.of hs)
      obtain ⟨as, hr, _⟩ := tk_readsAll I ds _ its ha rv
      exact ⟨_, Reads.list ho hc hd hr, fun z => nomatch z⟩
  | .tuple ds, _, _, h, r => by
    cases h with
    | tup hs ha =>
      cases r
      obtain ⟨its, rv, ⟨o, ho, hc, n, hd⟩, _⟩ := I.tuple (SqT.of hs)
      obtain ⟨as, hr, hm⟩ := tk_readsAll I ds _ its ha rv
      exact ⟨_, Reads.tuple ho hc hd hr, hm⟩
  | .dict _, _, _, h, r => by
    cases h with
    | @dct p hp =>
      cases r
      obtain ⟨_, ns, vs, kv, o, es, ep, ho, ex, hd, _, pr, _⟩ := I.hok p _ hp
      cases kv
      have e0 : es.toList = [] := by
        generalize es.toList = l at pr
        cases pr
        rfl
      have e1 : es = #[] := Array.toList_inj.mp e0
      subst e1
      refine ⟨_, .dict ho ex.1 hd .nil .nil, fun _ z => ?_⟩
      have z' : sysModules = p := by simpa using z
      rw [← z'] at ns
      exact absurd ns (by decide)
theorem tk_readsAll (I : Inv X pins σ H s) : ∀ (ds : List PyData) (vs : List V) (us : List Value), TkAll H vs ds → Vals vs us → ∃ as, ReadsAll s.heap us ds as ∧ (noLAll ds = true → sysModules ∉ as)
  | [], _, _, h, r => by
    cases h
    cases r
    exact ⟨_, ReadsAll.nil, fun _ => List.not_mem_nil⟩
  | d :: ds, _, _, h, r => by
    cases h with
    | cons h1 h2 =>
      cases r with
      | cons r1 r2 =>
        obtain ⟨as, q1, m1⟩ := tk_reads I d _ _ h1 r1
        obtain ⟨bs, q2, m2⟩ := tk_readsAll I ds _ _ h2 r2
        refine ⟨_, ReadsAll.cons q1 q2, fun z => ?_⟩
        have q : noL d = true ∧ noLAll ds = true := by simpa [noLAll] using z
        exact fun w => (List.mem_append.mp w).elim (m1 q.1) (m2 q.2)
end
end
def rShowT : List V → Hp → VK → Prop := fun xs H Q => ∃ x d, xs = [x] ∧ Tk H x d ∧ Fine d ∧ Q (.str d.shown) H
theorem u_showT {X : Cx} (hq : Quiet X.A) (hu : X.A.units + 64 < cLine) : CallR X (.builtin "repr") rShowT := by
  rintro pins s σ H xs us Q I r ⟨x, d, rfl, hd, hf, q⟩
  have hlen := hf.len
  have hs := gd_showable d hf.good
  have hdep := hf.depth
  have hm := hf.mix
  cases r with
  | cons rx rn =>
    rename_i u us
    cases rn
    obtain ⟨as, rd, ns⟩ := tk_reads I d x u hd rx
    have ns2 : d.hasDict = true → sysModules ∉ as := fun z => ns (hm z)
    have fin : ∀ t k, EP X pins σ Q (.str d.shown t) { s with toks := k } := fun t k => ⟨V.str d.shown, H, I.tok _, ⟨t, rfl⟩, q⟩
    have fin2 : ∀ h' t k, (∀ b o, s.heap.get? b = some o → h'.get? b = some o) → EP X pins σ Q (.str d.shown t) { s with heap := h', toks := k } := fun h' t tk k => ⟨V.str _, H, I.kept k, ⟨t, rfl⟩, q⟩
    cases rd with
    | none => exact PySem.P.repr_of_none (fin _ _)
    | bool b => exact PySem.P.repr_of_bool (fin _ _)
    | int i t => exact PySem.P.repr_of_int (by simpa [PyData.showable] using hs) (fin _ _)
    | str y t => exact PySem.P.repr_of_str (fin _ _) hlen
    | list h1 h2 h3 h4 => exact repr_of_reads' (h₀ := s.heap) (.list h1 h2 h3 h4) hs ns2 hq (by omega) (fun _ _ e => e) fin2 hlen
    | tuple h1 h2 h3 h4 => exact repr_of_reads' (h₀ := s.heap) (.tuple h1 h2 h3 h4) hs ns2 hq (by omega) (fun _ _ e => e) fin2 hlen
    | dict h1 h2 h3 h4 h5 => exact repr_of_reads' (h₀ := s.heap) (.dict h1 h2 h3 h4 h5) hs ns2 hq (by omega) (fun _ _ e => e) fin2 hlen
end EL

/- part T2 -/
/-! t[::-1] of a tuple -/
namespace EL
open PySem PySem.Spec PyProof.Rows L2
open PySem.W (Frag)
theorem rev_adjust (n : Nat) : Builtin.Slice.sliceAdjust none none (-1) (n : Int) = ((n : Int) - 1, -1) := by
  unfold Builtin.Slice.sliceAdjust
  rfl
theorem rev_places (n : Nat) : Builtin.Slice.slicePlaces ((n : Int) - 1) (-1) (-1) = n := by
  unfold Builtin.Slice.slicePlaces
  have h1 : ¬ ((-1 : Int) > 0) := by omega
  rw [if_neg h1]
  by_cases h : (n : Int) - 1 > -1
  · rw [if_pos h, show (- -1 : Int) = 1 by decide, Int.ediv_one]
    omega
  · rw [if_neg h]
    omega
theorem fm_congr {α β : Type} {f g : α → Option β} : ∀ (l : List α), (∀ x ∈ l, f x = g x) → l.filterMap f = l.filterMap g
  | [], _ => rfl
  | a :: l, h => by rw [List.filterMap_cons, List.filterMap_cons, h a (List.mem_cons_self ..), fm_congr l fun x hx => h x (List.mem_cons_of_mem _ hx)]
theorem rev_pick (xs : Array Value) : ((List.range xs.size).filterMap fun (k : Nat) => xs[((xs.size : Int) - 1 + (k : Int) * (-1)).toNat]?).toArray = xs.toList.reverse.toArray := by
  have e : (List.range xs.size).filterMap (fun (k : Nat) => xs[((xs.size : Int) - 1 + (k : Int) * (-1)).toNat]?) = ((List.range xs.size).map fun k => xs.size - 1 - k).filterMap (xs[·]?) := by
    rw [List.filterMap_map]
    apply fm_congr
    intro k hk
    have := List.mem_range.mp hk
    have q : ((xs.size : Int) - 1 + (k : Int) * (-1)).toNat = xs.size - 1 - k := by omega
    show xs[((xs.size : Int) - 1 + (k : Int) * (-1)).toNat]? = xs[xs.size - 1 - k]?
    rw [q]
  rw [e, PySem.W.krv_range, List.filterMap_reverse, PySem.W.krv_all]
section
variable {prog : Program} {w : World} {A : Around} {E : Value → Shared → Prop} {s : Shared}
open HT in
theorem getItem_tuple_rev {t sl : Addr} {items : Array Value} {vl vu vs : Value} {Q : Value → Shared → Prop} (ht : IsTup s.heap t items) (hs : s.heap.IsSliceOf sl vl vu vs) (pl : IsPart vl none) (pu : IsPart vu none) (ps : IsPart vs (some (-1)))
    (h : Q (.ref s.heap.objs.size) { s with heap := s.heap.push { cls := .type "tuple", data := .seq items.toList.reverse.toArray } }) (hsz : items.size ≤ sizeLine) : wpAny (model prog w) A (getItem (.ref t) (.ref sl)) Q E s := by
  have htake : sizeOk (.seq items.toList.reverse.toArray) := by
    show items.toList.reverse.toArray.size ≤ sizeLine
    rw [List.size_toArray, List.length_reverse, Array.length_toList]
    exact hsz
  obtain ⟨os, hos, hcs, hds⟩ := id hs
  have hTs : s.TypeIs (.ref sl) "slice" := ⟨os, hos, hcs⟩
  unfold getItem
  try with_reducible refine wpAny_holding ?_
  first | refine wpAny_bind (wpAny_pure ?_) | skip
  refine wpAny_bind (wpAny_sequenceKey ht.typeIs (by decide) ?_)
  refine wpAny_bind (wpAny_callSpecial?_slot (name := Str.ofString "__getitem__") ht.typeIs PyProof.Rows.slot_tuple_getitem
    (wpAny_call_entry PyProof.Rows.slot_tuple_getitem ht.typeIs entry_tuple_getitem ?_ (args_tuple_getitem _ _)))
  show wpAny _ _ (Builtin.Tuple.tupleItemsOf (.ref t) >>= _) _ _ s
  refine wpAny_bind (tupleItemsOf_ ht ?_)
  refine wpAny_bind (wpAny_typeOf hTs ?_)
  rw [if_pos (by decide)]
  have ap : ∀ {R : Int × Int × Nat → Shared → Prop}, R ((items.size : Int) - 1, -1, items.size) s → wpAny (model prog w) A.in1 (Builtin.Slice.sliceApplied (.ref sl) (pure (items.size : Int))) R E s := by
    intro R hR
    unfold Builtin.Slice.sliceApplied Builtin.Slice.sliceFields
    refine wpAny_bind (wpAny_bind (wpAny_field hos hds (x := vl) rfl (wpAny_bind (wpAny_field hos hds (x := vu) rfl (wpAny_bind (wpAny_field hos hds (x := vs) rfl (wpAny_pure ?_)))))))
    refine wpAny_bind (slicePart_ ps ?_)
    show wpAny _ _ (if ((-1 : Int) == 0) = true then _ else _) _ _ s
    rw [if_neg (by decide)]
    refine wpAny_bind (slicePart_ pl (wpAny_bind (slicePart_ pu (wpAny_bind (wpAny_pure ?_)))))
    show wpAny _ _ (match Builtin.Slice.sliceAdjust none none (-1) (items.size : Int) with | (lo, hi) => pure (lo, (-1 : Int), Builtin.Slice.slicePlaces lo hi (-1))) _ _ s
    rw [rev_adjust]
    show wpAny _ _ (pure ((items.size : Int) - 1, (-1 : Int), Builtin.Slice.slicePlaces ((items.size : Int) - 1) (-1) (-1))) _ _ s
    rw [rev_places]
    exact wpAny_pure hR
  refine wpAny_bind (ap ?_)
  have hno : ¬ ((((items.size : Int) - 1) == 0 && (-1 : Int) == 1 && items.size == items.size) = true) := by
    intro q
    rw [Bool.and_eq_true, Bool.and_eq_true] at q
    exact absurd q.1.2 (by decide)
  show wpAny _ _ (if (((items.size : Int) - 1) == 0 && (-1 : Int) == 1 && items.size == items.size) = true then _ else _) _ _ s
  rw [if_neg hno, rev_pick]
  first
    | exact wpAny_bind (m := Builtin.Tuple.tupleExact _) (wpAny_newObj_type (wpAny_pure ⟨_, rfl, wpAny_pure h⟩) htake)
    | exact wpAny_bind (m := Builtin.Tuple.tupleExact _) (wpAny_newObj_type (wpAny_bind (wpAny_pure (wpAny_pure ⟨_, rfl, wpAny_pure h⟩))) htake)
    | exact wpAny_bind (wpAny_bind (m := Builtin.Tuple.tupleExact _) (wpAny_newObj_type (wpAny_pure (wpAny_pure ⟨_, rfl, wpAny_pure h⟩)) htake))
    | exact wpAny_bind (wpAny_bind (m := Builtin.Tuple.tupleExact _) (wpAny_newObj_type (wpAny_pure ⟨_, rfl, wpAny_pure h⟩) htake))
end
section
variable {X : Cx}
def tRevT (K : Frag) (te : TE) : TE := fun σ H Q => te σ H fun x H1 => ∃ a xs, x = .ref a ∧ SqT K H1 a xs ∧ ∀ p, H1 p = none → Q (.ref p) (upd H1 p (.tup xs.reverse))
theorem pe_revT {e : Expr} {te : TE} {k : Nat} {p1 p2 p3 pos : Pos} (he : PE X e te) : PE X (.Subscript e (.Slice none none (some (.UnaryOp .USub (.Constant (.int 1) k p1) p2)) p3) pos) (tRevT X.K te) := by
  refine ⟨fun pins s σ H Q I h => ?_⟩
  refine Subscript_ (thn (he.run pins s σ H _ I h) fun v s1 ⟨x, H1, I1, r1, q1⟩ => ?_)
  obtain ⟨a, xs, ex, hx, q⟩ := q1
  subst ex
  cases r1
  have hst : PO X (some (.UnaryOp .USub (.Constant (.int 1) k p1) p2)) (tPart (tUn (rU fun i => .int (-i)) (tC (.int 1)))) := po_some (pe_un un_neg pe_int)
  refine wpAny_Slice (thn (po_none.run pins s1 σ H1 (fun o H2 => o = none ∧ H2 = H1) I1 ⟨rfl, rfl⟩) fun vl s2 ⟨l, H2, I2, pl, el, e2⟩ => ?_)
  subst el e2
  refine thn (po_none.run pins s2 σ H2 (fun o H3 => o = none ∧ H3 = H2) I2 ⟨rfl, rfl⟩) fun vu s3 ⟨u, H3, I3, pu, eu, e3⟩ => ?_
  subst eu e3
  refine thn (hst.run pins s3 σ H3 (fun o H4 => o = some (-1) ∧ H4 = H3) I3 ⟨1, rfl, -1, rfl, rfl, rfl⟩) fun vs s4 ⟨o, H4, I4, ps, eo, e4⟩ => ?_
  subst eo e4
  have I5 : Inv X pins σ H4 { s4 with heap := s4.heap.push { cls := .type "slice", data := .fields #[vl, vu, vs] } } := I4.kept (t' := s4.toks) fun b ob q => Heap.get?_push_of_some _ q
  obtain ⟨its, r, ht, hz⟩ := I5.tuple hx
  have hlen := r.length
  show wpAny (model X.prog X.w) X.A (subscriptTail e (.Slice none none (some (.UnaryOp .USub (.Constant (.int 1) k p1) p2)) p3) (.ref a) (.ref s4.heap.objs.size)) (EP X pins σ Q) X.xe { s4 with heap := s4.heap.push { cls := .type "slice", data := .fields #[vl, vu, vs] } }
  refine tail_any (ops := [.ref a, .ref s4.heap.objs.size]) ht.typeIs (PyProof.Rows.slot_tuple_getitem.lookup) ?_ (by with_unfolding_all rfl)
  refine getItem_tuple_rev ht (Heap.IsSliceOf.new _ vl vu vs) pl pu ps ?_ (by rw [List.size_toArray]; omega)
  refine ⟨.ref _, _, I5.laid (t' := s4.toks) (o := .tup xs.reverse) (fun b ob q => Heap.get?_push_of_some _ q) (Nat.le_refl _) ?_, rfl, q _ (I5.hok.fresh (Nat.le_refl _))⟩
  exact ⟨by rw [List.length_reverse]; exact hz, _, r.reverse, IsTup.new _ _⟩
end
end EL

/- part T3 -/
/-! data of a size; parts of tuples -/
namespace EL
open PySem PySem.Spec PyProof.Rows L2
open PySem.W (Frag)
/-- no dict, so big, so deep -/
structure Sz (n k : Nat) (d : PyData) : Prop where
  good : gd d = true
  bulk : d.bulk ≤ n
  depth : d.depth ≤ k
  nod : d.hasDict = false
theorem Sz.le {n k n' k' : Nat} {d : PyData} (h : Sz n k d) (a : n ≤ n') (b : k ≤ k') : Sz n' k' d := ⟨h.good, Nat.le_trans h.bulk a, Nat.le_trans h.depth b, h.nod⟩
theorem Sz.fine {n k : Nat} {d : PyData} (h : Sz n k d) (a : n ≤ 300000) (b : k ≤ 40) : Fine d := ⟨h.good, Nat.le_trans h.bulk a, Nat.le_trans h.depth b, fun z => by rw [h.nod] at z; cases z⟩
theorem sz_all {n k : Nat} : ∀ {ds : List PyData}, (∀ d ∈ ds, Sz n k d) → gdAll ds = true ∧ PyData.bulkAll ds ≤ ds.length * (n + 1) ∧ PyData.depthAll ds ≤ k ∧ PyData.hasDictAll ds = false
  | [], _ => ⟨rfl, Nat.zero_le _, Nat.zero_le _, rfl⟩
  | d :: ds, h => by
    have q := h d (List.mem_cons_self ..)
    obtain ⟨a, b, c, e⟩ := sz_all fun x hx => h x (List.mem_cons_of_mem _ hx)
    refine ⟨?_, ?_, ?_, ?_⟩
    · show (gd d && gdAll ds) = true
      rw [q.good, a]; rfl
    · show d.bulk + 1 + PyData.bulkAll ds ≤ (ds.length + 1) * (n + 1)
      have := q.bulk
      rw [Nat.add_mul, Nat.one_mul]
      omega
    · show max d.depth (PyData.depthAll ds) ≤ k
      exact Nat.max_le.mpr ⟨q.depth, c⟩
    · show (d.hasDict || PyData.hasDictAll ds) = false
      rw [q.nod, e]; rfl
theorem sz_tup {n k : Nat} {ds : List PyData} (h : ∀ d ∈ ds, Sz n k d) : Sz (ds.length * (n + 1)) (k + 1) (.tuple ds) := by
  obtain ⟨a, b, c, e⟩ := sz_all h
  exact ⟨a, b, Nat.succ_le_succ c, e⟩
theorem sz_lst {n k : Nat} {ds : List PyData} (h : ∀ d ∈ ds, Sz n k d) : Sz (ds.length * (n + 1)) (k + 1) (.list ds) := by
  obtain ⟨a, b, c, e⟩ := sz_all h
  exact ⟨a, b, Nat.succ_le_succ c, e⟩
theorem sz_non : Sz 0 0 .none := ⟨rfl, Nat.le_refl _, Nat.le_refl _, rfl⟩
theorem sz_bl {b : Bool} : Sz 0 0 (.bool b) := ⟨rfl, Nat.le_refl _, Nat.le_refl _, rfl⟩
theorem sz_int {i : Int} (h : i.natAbs < 10 ^ 40) : Sz 0 0 (.int i) := ⟨by show decide _ = true; exact decide_eq_true h, Nat.le_refl _, Nat.le_refl _, rfl⟩
theorem sz_str {s : Str} (h : gd (.str s) = true) : Sz s.cps.size 0 (.str s) := ⟨h, Nat.le_refl _, Nat.le_refl _, rfl⟩
/-- a value that is known apart from the bag, of a size -/
def NiS (n k : Nat) (b : Addr) (H : Hp) (v : V) : Prop := ∃ d, TkB b H v d ∧ Sz n k d
/-- a value that is known apart from the bag, and can be shown -/
def Nice (b : Addr) (H : Hp) (v : V) : Prop := ∃ d, TkB b H v d ∧ Fine d
section
variable {n k : Nat} {b : Addr} {H H' : Hp} {v : V}
theorem NiS.le {n' k' : Nat} (h : NiS n k b H v) (a : n ≤ n') (c : k ≤ k') : NiS n' k' b H v := by
  obtain ⟨d, t, z⟩ := h
  exact ⟨d, t, z.le a c⟩
theorem NiS.nice (h : NiS n k b H v) (a : n ≤ 300000) (c : k ≤ 40) : Nice b H v := by
  obtain ⟨d, t, z⟩ := h
  exact ⟨d, t, z.fine a c⟩
theorem NiS.kp (h : NiS n k b H v) (q : Kp b H H') : NiS n k b H' v := by
  obtain ⟨d, t, z⟩ := h
  exact ⟨d, t.kp q, z⟩
theorem Nice.kp (h : Nice b H v) (q : Kp b H H') : Nice b H' v := by
  obtain ⟨d, t, z⟩ := h
  exact ⟨d, t.kp q, z⟩
theorem NiS.same (h : NiS n k b H v) (q : Same H H') : NiS n k b H' v := h.kp (same_kp q)
theorem Nice.same (h : Nice b H v) (q : Same H H') : Nice b H' v := h.kp (same_kp q)
theorem ni_non : NiS 0 0 b H .non := ⟨_, .non, sz_non⟩
theorem ni_bl {x : Bool} : NiS 0 0 b H (.bl x) := ⟨_, .bl x, sz_bl⟩
theorem ni_int {i : Int} (h : i.natAbs < 10 ^ 40) : NiS 0 0 b H (.int i) := ⟨_, .int i, sz_int h⟩
theorem ni_str {s : Str} (h : gd (.str s) = true := by decide +kernel) : NiS s.cps.size 0 b H (.str s) := ⟨_, .str s, sz_str h⟩
theorem tk_pick {P : PyData → Prop} : ∀ {xs : List V}, (∀ v ∈ xs, ∃ d, TkB b H v d ∧ P d) → ∃ ds, TkAll (wo b H) xs ds ∧ ds.length = xs.length ∧ ∀ d ∈ ds, P d
  | [], _ => ⟨[], .nil, rfl, fun _ h => nomatch h⟩
  | x :: xs, h => by
    obtain ⟨ds, t, l, p⟩ := tk_pick fun v hv => h v (List.mem_cons_of_mem _ hv)
    obtain ⟨d, t1, p1⟩ := h x (List.mem_cons_self ..)
    exact ⟨d :: ds, .cons t1 t, by rw [List.length_cons, List.length_cons, l], fun y hy => (List.mem_cons.mp hy).elim (fun e => e ▸ p1) (p y)⟩
theorem ni_tup {p : Addr} {xs : List V} (hp : H p = some (.tup xs)) (nb : p ≠ b) (h : ∀ v ∈ xs, NiS n k b H v) : NiS (xs.length * (n + 1)) (k + 1) b H (.ref p) := by
  obtain ⟨ds, t, l, q⟩ := tk_pick (P := Sz n k) h
  exact ⟨.tuple ds, .tup (wo_ne nb hp) t, l ▸ sz_tup q⟩
theorem ni_lst {p : Addr} {xs : List V} (hp : H p = some (.lst xs)) (nb : p ≠ b) (h : ∀ v ∈ xs, NiS n k b H v) : NiS (xs.length * (n + 1)) (k + 1) b H (.ref p) := by
  obtain ⟨ds, t, l, q⟩ := tk_pick (P := Sz n k) h
  exact ⟨.list ds, .lst (wo_ne nb hp) t, l ▸ sz_lst q⟩
theorem nice_dct {p : Addr} (hp : H p = some (.dK [])) (nb : p ≠ b) : Nice b H (.ref p) := ⟨_, .dct (wo_ne nb hp), ⟨rfl, by decide, by decide, fun _ => rfl⟩⟩
/-- the items of a known tuple -/
theorem ni_at {p : Addr} {xs : List V} (h : NiS n (k + 1) b H (.ref p)) (hp : H p = some (.tup xs)) : ∀ v ∈ xs, NiS n k b H v := by
  obtain ⟨d, t, z⟩ := h
  cases t with
  | lst e _ => rw [wo_same _ _ e] at hp; cases hp
  | dct e => rw [wo_same _ _ e] at hp; cases hp
  | @tup _ ys ds e t =>
    rw [wo_same _ _ e] at hp
    cases hp
    intro v hv
    obtain ⟨d, hd, q⟩ := t.mem v hv
    refine ⟨d, q, ?_⟩
    have a : ∀ {ds : List PyData}, d ∈ ds → gdAll ds = true → PyData.bulkAll ds ≤ n → PyData.depthAll ds ≤ k → PyData.hasDictAll ds = false → Sz n k d := by
      intro ds
      induction ds with
      | nil => intro h; cases h
      | cons e r ih =>
        intro hm h1 h2 h3 h4
        have g1 : gd e = true ∧ gdAll r = true := by simpa [gdAll] using h1
        have g2 : e.bulk + 1 + PyData.bulkAll r ≤ n := h2
        have g3 : max e.depth (PyData.depthAll r) ≤ k := h3
        have g4 : e.hasDict = false ∧ PyData.hasDictAll r = false := by simpa [PyData.hasDictAll] using h4
        have g5 := Nat.max_le.mp g3
        rcases List.mem_cons.mp hm with rfl | hm
        · exact ⟨g1.1, by omega, g5.1, g4.1⟩
        · exact ih hm g1.2 (by omega) g5.2 g4.2
    have z3 : PyData.depthAll ds + 1 ≤ k + 1 := z.depth
    exact a hd z.good z.bulk (by omega) z.nod
end
/-! ### parts of tuples, joined tuples -/
section
variable {K : Frag} {H : Hp} {Q : VK}
theorem n_catT {a b : Addr} {xs ys : List V} (ha : H a = some (.tup xs)) (hb : H b = some (.tup ys)) (z : xs.length + ys.length ≤ sizeLine) (q : ∀ p H', Same H H' → H' p = some (.tup (xs ++ ys)) → Q (.ref p) H') : rAdd K (.ref a) (.ref b) H Q := by
  refine .inr (.inr ⟨a, b, xs, ys, rfl, rfl, SqT.of ha, SqT.of hb, z, fun e => ?_, fun e1 e2 => ?_, fun _ _ p hp => q p _ (L2.Same.nw (Same.refl _) hp) upd_same⟩)
  · subst e
    exact q b H (Same.refl _) hb
  · subst e2
    exact q a H (Same.refl _) (by rw [List.append_nil]; exact ha)
theorem n_slT {a : Addr} {xs : List V} {lo hi : Option Int} (ha : H a = some (.tup xs)) (q : ∀ p H', Same H H' → H' p = some (.tup (cutV xs lo hi)) → Q (.ref p) H') : rSlice K (.ref a) lo hi H Q := by
  refine .inr ⟨a, xs, rfl, SqT.of ha, fun e => ?_, fun _ p hp => q p _ (L2.Same.nw (Same.refl _) hp) upd_same⟩
  refine q a H (Same.refl _) ?_
  have w : cutV xs lo hi = xs := by
    unfold cutV
    rw [e.1, e.2, List.drop_zero, Nat.sub_zero, List.take_length]
  rw [w]
  exact ha
theorem a_spar3 {σ : L2.St} {D : Ends} {u : TS} {ta : TA} {i j l : Nat} (q : ta σ H fun vs H1 => ∃ x y z, vs = [x, y, z] ∧ u D (((σ.set i (some x)).set j (some y)).set l (some z)) H1) : tSeq (tPar3 i j l ta) u D σ H := q
theorem a_par3 {σ : L2.St} {D : Ends} {ta : TA} {i j l : Nat} (q : ta σ H fun vs H1 => ∃ x y z, vs = [x, y, z] ∧ D.nx (((σ.set i (some x)).set j (some y)).set l (some z)) H1) : tPar3 i j l ta D σ H := q
theorem a_three {R : V → V → V → Prop} {a b c : V} (q : R a b c) : ∃ x y z, [a, b, c] = [x, y, z] ∧ R x y z := ⟨a, b, c, rfl, q⟩
theorem a_revT {σ : L2.St} {te : TE} (q : te σ H fun x H1 => ∃ a xs, x = .ref a ∧ SqT K H1 a xs ∧ ∀ p, H1 p = none → Q (.ref p) (upd H1 p (.tup xs.reverse))) : tRevT K te σ H Q := q
end
theorem cut_mem {xs : List V} {lo hi : Option Int} {v : V} (h : v ∈ cutV xs lo hi) : v ∈ xs := by
  unfold cutV at h
  exact List.mem_of_mem_drop (List.mem_of_mem_take h)
theorem cut_le (xs : List V) (lo hi : Option Int) : (cutV xs lo hi).length ≤ xs.length := by
  unfold cutV
  rw [List.length_take, List.length_drop]
  omega
end EL

/- part A -/
namespace EL
open PySem PySem.Spec PyProof.Rows L2
open PySem.W (Frag)
def top (i : Nat) : Stmt := PySem.Challenge.pw_earlyorlate_k81_contraries_told.main.body.getD i (.Pass ⟨0, 0, 0, 0⟩)
abbrev s_take : Stmt := top 40
abbrev N_take : List Str := ["_law_bag_here", "_law_many", "_law_cell", "_law_mixed", "_law_drawn", "_law_early", "_law_second"]
theorem sc_take : FnScope N_take ["_law_bag_here", "_law_many"] (defScope s_take) := ⟨rfl, rfl, rfl, by decide +kernel, rfl, by decide +kernel, by decide +kernel⟩
structure Tb (mg : Str → Option Value) : Prop where
  b : Bi mg
local macro_rules | `(tactic| walk_at "el1") => `(tactic| with_reducible first
  | refine a_sasg ?_ | refine a_sdrop ?_ | refine a_saugS ?_ | refine a_spar ?_ | refine a_seq ?_ | refine a_asg ?_ | refine a_drop ?_ | refine a_ret ?_ | refine a_if ?_ | refine a_next ?_
  | refine a_op ?_ | refine a_cons ?_ | refine a_nil ?_ | refine a_cb ?_ | refine a_call ?_ | refine a_c ?_ | refine a_gn ?_ | refine a_nx ?_ | refine a_rt ?_ | refine a_un ?_
  | refine a_test ?_ | refine a_B ?_ | refine a_bl ?_ | refine a_and ?_ | refine a_or ?_ | refine a_not ?_ | refine a_andV ?_ | refine a_orV ?_ | refine a_notV ?_ | refine a_ifx ?_ | refine a_chain ?_
  | refine a_nT ?_ | refine a_nF ?_ | refine a_fld ?_ | refine a_getF ?_ | refine a_T ?_ | refine a_F ?_ | refine a_tup ?_ | refine a_lst ?_ | refine a_sub ?_ | refine a_augS ?_ | refine a_two ?_ | refine a_I0 ?_ | refine a_U ?_ | refine n_add ?_ | refine n_int ?_ | refine n_ib ?_ | refine a_ip ?_ | refine a_rng1 ?_ | refine a_rng2 ?_ | refine a_bm ?_ | refine a_abs ?_ | refine a_pairs ?_ | refine a_pairs0 ?_ | refine a_bk ?_ | refine a_prp ?_ | refine a_lc ?_ | refine a_yes ?_ | refine a_sl ?_ | refine a_nop ?_ | refine a_prt ?_ | refine a_ex1 ?_ | refine a_for ?_ | refine a_sfor ?_ | refine a_iE1 ?_ | refine a_iEs ?_ | refine a_iEz ?_ | refine a_iEnum ?_ | refine a_iTup ?_ | refine a_iList ?_ | refine a_gcons ?_ | refine a_gnil ?_ | refine a_revT ?_ | refine a_spar3 ?_ | refine a_par3 ?_ | refine a_three ?_)
local macro_rules | `(tactic| walk_at "el2") => `(tactic| first
  | (refine a_var (by rfl) ?_)
  | (refine n_ixL (SqL.of (by assumption)) (by rfl) ?_) | (refine n_ixT (SqT.of (by assumption)) (by rfl) ?_) | (refine n_eq (by rfl) ?_) | (refine n_ne (by rfl) ?_)
  | (refine n_isN ?_) | (refine n_notN ?_) | (refine n_isB ?_) | (refine n_notB ?_) | (refine n_isBI ?_) | (refine n_notBI ?_) | (refine n_len (.inl (SqL.of (by assumption))) ?_) | (refine n_len (.inr (SqT.of (by assumption))) ?_)
  | (refine a_getL (SqL.of (by assumption)) (by rfl) ?_)
  | (refine n_isInt (by assumption) ?_) | (refine n_isBool (by assumption) ?_) | (refine n_isStr (by assumption) ?_) | (refine n_isTup (by assumption) ?_) | (refine n_isLst (by assumption) ?_))
local macro_rules | `(tactic| walk_at "el") => `(tactic| repeat (first | walk_at "el1" | walk_at "el2"))

/-! ### the bag -/
def Bag (H : Hp) (b c : Addr) : Prop := ∃ (i j k : Int) (cs : List Int), H b = some (.lst [.int i, .int j, .int k, .ref c]) ∧ H c = some (.lst (cs.map V.int)) ∧ c ≠ b ∧ 0 ≤ i ∧ 0 ≤ j ∧ j < 2147483647 ∧ 0 ≤ k ∧ ∀ x ∈ cs, 0 ≤ x
/-- a draw: a number from 0 to many - 1, the bag changed -/
def spTake : Sp := fun vs H Q _ => ∃ (b c : Addr) (m : Int), vs = [.ref b, .int m] ∧ Bag H b c ∧ 0 < m ∧ m ≤ 1000000000 ∧ ∀ (r : Int) H', 0 ≤ r → r < m → Bag H' b c → Kp b H H' → Q (.int r) H'
theorem cell_at {cs : List Int} {k : Int} (h0 : 0 ≤ k) (h1 : k < (cs.map V.int).length) (hc : ∀ x ∈ cs, (0 : Int) ≤ x) : ∃ x, atI (cs.map V.int) k = some (V.int x) ∧ 0 ≤ x := by
  obtain ⟨n, rfl⟩ : ∃ n : Nat, k = n := ⟨k.toNat, by omega⟩
  have hn : n < cs.length := by rw [List.length_map] at h1; omega
  refine ⟨cs[n], atI_nat (by rw [List.getElem?_map, List.getElem?_eq_getElem hn]; rfl), hc _ (List.getElem_mem hn)⟩
section
variable {P : Program} {w : World} {K : Frag} {mg : Str → Option Value} {base : Heap} {f : Addr} {fd : FuncData}
theorem ok_take (F : Fun K "_law_take" "_law_take" s_take f fd) (T : Tb mg) : FnOk P w K mg base CX0 1 f fd ["_law_bag_here", "_law_many"] spTake := by
  refine F.ok sc_take (fun vs H Q E h => ?_) (fun cdv A outer s H vs Q E hr h => ?_)
  · obtain ⟨b, c, m, rfl, _⟩ := h
    rfl
  · obtain ⟨b, c, m, rfl, hB, hm0, hm1, k⟩ := h
    refine ⟨_, (Evl.pss_cut (ps_if (pt_cmpR (u_eq hr.units) (pe_ix ix_seq (pv 0) pe_int (fun _ _ => rfl)) pe_int (nomark _))
    (pss_cons (ps_set (i := 2) sc_take.nd rfl (Or.inl rfl) pe_int)
  (Evl.pss_cut (ps_if (pt_cmpR op_lt (pe_ix ix_seq (pv 0) pe_int (fun _ _ => rfl)) (pe_callB u_len rfl T.b.len_ boot_len (pa_cons (pe_ix ix_seq (pv 0) pe_int (fun _ _ => rfl)) pa_nil)) (nomark _))
    (pss_one (ps_set (i := 2) sc_take.nd rfl (Or.inl rfl) (pe_ix ix_seq (pe_ix ix_seq (pv 0) pe_int (fun _ _ => rfl)) (pe_ix ix_seq (pv 0) pe_int (fun _ _ => rfl)) (fun _ _ => rfl))))
    pss_nil)
  (pss_cons (ps_augS (pv 0) pe_int get_list pe_int ip_add set_list)
  (Evl.pss_cut (ps_if (pt_cmpR op_ge (pv 2) pe_int (nomark _))
    (pss_one (ps_asg (pv 2) (pg_sub (pv 0) pe_int set_list)))
    pss_nil)
  (pss_cons (ps_set (i := 3) sc_take.nd rfl (Or.inl rfl) (pe_op u_add (pe_op u_add (pe_op u_mul (pe_ix ix_seq (pv 0) pe_int (fun _ _ => rfl)) pe_int) (pe_op op_mod (pe_callTy u_int rfl T.b.int_ (by decide +kernel) (pa_cons (pv 2) pa_nil)) pe_int)) (pe_op u_mul pe_int (pe_ix ix_seq (pv 0) pe_int (fun _ _ => rfl)))))
  (pss_one (ps_asg (pe_op op_mod (pe_callTy u_int rfl T.b.int_ (by decide +kernel) (pa_cons (pv 3) pa_nil)) pe_int) (pg_sub (pv 0) pe_int set_list))))))))
    pss_nil)
  (pss_cons (ps_if (pt_cmpR op_gt (pe_ix ix_seq (pv 0) pe_int (fun _ _ => rfl)) pe_int (nomark _))
    (pss_cons (ps_set (i := 4) sc_take.nd rfl (Or.inl rfl) (pe_op op_mod (pe_callTy u_int rfl T.b.int_ (by decide +kernel) (pa_cons (pe_ix ix_seq (pv 0) pe_int (fun _ _ => rfl)) pa_nil)) (pv 1)))
  (pss_cons (ps_asg (pe_op op_fdiv (pe_callTy u_int rfl T.b.int_ (by decide +kernel) (pa_cons (pe_ix ix_seq (pv 0) pe_int (fun _ _ => rfl)) pa_nil)) (pv 1)) (pg_sub (pv 0) pe_int set_list))
  (pss_one (ps_ret (pv 4)))))
    pss_nil)
  (pss_cons (ps_set (i := 5) sc_take.nd rfl (Or.inl rfl) (pe_op op_mod (pe_callTy u_int rfl T.b.int_ (by decide +kernel) (pa_cons (pe_op u_mul (pe_op u_add (pe_ix ix_seq (pv 0) pe_int (fun _ _ => rfl)) pe_int) pe_int) pa_nil)) pe_int))
  (pss_cons (ps_set (i := 6) sc_take.nd rfl (Or.inl rfl) (pe_op op_mod (pe_callTy u_int rfl T.b.int_ (by decide +kernel) (pa_cons (pe_op u_mul (pe_op op_mod (pe_callTy u_int rfl T.b.int_ (by decide +kernel) (pa_cons (pe_op u_mul (pv 5) (pv 5)) pa_nil)) pe_int) pe_int) pa_nil)) pe_int))
  (pss_one (ps_ret (pe_op op_mod (pe_callTy u_int rfl T.b.int_ (by decide +kernel) (pa_cons (pe_op op_fdiv (pv 6) pe_int) pa_nil)) (pv 1)))))))), ?_⟩
    obtain ⟨i, j, n, cs, hb, hc, hcb, hi, hj, hj2, hn, hcs⟩ := hB
    -- the bag fed, or not
    refine a_cut (fun σ' H' => ∃ v2 v3, σ' = [some (.ref b), some (.int m), v2, v3, none, none, none] ∧ Bag H' b c ∧ Kp b H H') ?_ ?_
    · walk_at "el"
      walk_at "el"
      refine ite2 (fun h0 => ?_) (fun h0 => ?_)
      · walk_at "el"
        refine a_cut (fun σ' H' => ∃ x : Int, 0 ≤ x ∧ σ' = [some (.ref b), some (.int m), some (.int x), none, none, none, none] ∧ H' = H) ?_ ?_
        · walk_at "el"
          walk_at "el"
          refine ite2 (fun h1 => ?_) (fun h1 => ?_)
          · obtain ⟨x, hx, x0⟩ := cell_at hn (of_decide_eq_true h1) hcs
            walk_at "el"
            refine n_ixL (SqL.of hc) hx ?_
            walk_at "el"
            exact ⟨x, x0, rfl, rfl⟩
          · walk_at "el"
            exact ⟨0, by decide, rfl, rfl⟩
        · rintro σ' H' ⟨x, x0, rfl, rfl⟩
          walk_at "el"
          refine a_set hb rfl ?_
          refine a_cut (fun σ' H1 => ∃ i', 0 ≤ i' ∧ σ' = [some (.ref b), some (.int m), some (.int x), none, none, none, none] ∧ H1 b = some (.lst [.int i', .int j, .int (n + 1), .ref c]) ∧ ∀ a, a ≠ b → H1 a = H' a) ?_ ?_
          · walk_at "el"
            refine ite2 (fun h1 => ?_) (fun h1 => ?_)
            · walk_at "el"
              refine a_set upd_same rfl ?_
              walk_at "el"
              exact ⟨x, x0, rfl, upd_same, fun a h => by rw [upd_ne h, upd_ne h]⟩
            · walk_at "el"
              exact ⟨i, hi, rfl, upd_same, fun a h => upd_ne h⟩
          · rintro σ' H1 ⟨i', hi', rfl, hb', ho⟩
            have hc' : H1 c = some (.lst (cs.map V.int)) := (ho c hcb).trans hc
            walk_at "el"
            refine n_mul (.inr (by decide)) ?_
            walk_at "el"
            refine a_I (by show (0 : Int) < 2147483647; decide) ?_
            walk_at "el"
            refine n_mul (.inl (by decide)) ?_
            walk_at "el"
            refine a_I (by show (0 : Int) < 2147483647; decide) ?_
            walk_at "el"
            refine a_set hb' rfl ?_
            walk_at "el"
            refine ⟨_, _, rfl, ⟨i', _, n + 1, cs, upd_same, by rw [upd_ne hcb]; exact hc', hcb, hi', Int.emod_nonneg _ (by decide), Int.emod_lt_of_pos _ (by decide), by omega, hcs⟩, fun a o h e => ?_⟩
            rw [upd_ne h, ho a h]
            exact e
      · walk_at "el"
        exact ⟨_, _, rfl, ⟨i, j, n, cs, hb, hc, hcb, hi, hj, hj2, hn, hcs⟩, Kp.refl b H⟩
    · clear hb hc hcb hi hj hj2 hn hcs
      rintro σ' H1 ⟨v2, v3, rfl, ⟨i, j, n, cs, hb, hc, hcb, hi, hj, hj2, hn, hcs⟩, k1⟩
      walk_at "el"
      refine ite2 (fun h0 => ?_) (fun h0 => ?_)
      · walk_at "el"
        walk_at "el"
        refine a_I hm0 ?_
        walk_at "el"
        refine a_I ⟨hm0, by omega⟩ ?_
        walk_at "el"
        refine a_set hb rfl ?_
        walk_at "el"
        refine k _ _ (Int.emod_nonneg _ (by omega)) (Int.emod_lt_of_pos _ hm0) ?_ k1.bag
        exact ⟨_, j, n, cs, upd_same, by rw [upd_ne hcb]; exact hc, hcb, Int.ediv_nonneg hi (by omega), hj, hj2, hn, hcs⟩
      · walk_at "el"
        walk_at "el"
        refine n_mul (.inr (by decide)) ?_
        walk_at "el"
        refine a_I (by show (0 : Int) < 1000000007; decide) ?_
        have e0 := Int.emod_nonneg ((j + 1) * 39373) (show (1000000007 : Int) ≠ 0 by decide)
        have e1 := Int.emod_lt_of_pos ((j + 1) * 39373) (show (0 : Int) < 1000000007 by decide)
        walk_at "el"
        refine n_mul (.inl ⟨by omega, by omega⟩) ?_
        walk_at "el"
        refine a_I (by show (0 : Int) < 998244353; decide) ?_
        walk_at "el"
        refine n_mul (.inr (by decide)) ?_
        walk_at "el"
        refine a_I (by show (0 : Int) < 998244353; decide) ?_
        walk_at "el"
        refine a_I ⟨by decide, by decide⟩ ?_
        walk_at "el"
        refine a_I hm0 ?_
        walk_at "el"
        exact k _ _ (Int.emod_nonneg _ (by omega)) (Int.emod_lt_of_pos _ hm0) ⟨i, j, n, cs, hb, hc, hcb, hi, hj, hj2, hn, hcs⟩ k1
end
end EL

/- part B -/
namespace EL
open PySem PySem.Spec PyProof.Rows L2
open PySem.W (Frag)
abbrev s_is_integer : Stmt := top 8
abbrev N_is_integer : List Str := ["thing"]
theorem sc_is_integer : FnScope N_is_integer ["thing"] (defScope s_is_integer) := ⟨rfl, rfl, rfl, by decide +kernel, rfl, by decide +kernel, by decide +kernel⟩
abbrev s_is_number : Stmt := top 9
abbrev N_is_number : List Str := ["thing"]
theorem sc_is_number : FnScope N_is_number ["thing"] (defScope s_is_number) := ⟨rfl, rfl, rfl, by decide +kernel, rfl, by decide +kernel, by decide +kernel⟩
abbrev s_is_kind : Stmt := top 10
abbrev N_is_kind : List Str := ["thing"]
theorem sc_is_kind : FnScope N_is_kind ["thing"] (defScope s_is_kind) := ⟨rfl, rfl, rfl, by decide +kernel, rfl, by decide +kernel, by decide +kernel⟩
abbrev s_contrary : Stmt := top 11
abbrev N_contrary : List Str := ["kind"]
theorem sc_contrary : FnScope N_contrary ["kind"] (defScope s_contrary) := ⟨rfl, rfl, rfl, by decide +kernel, rfl, by decide +kernel, by decide +kernel⟩
abbrev s_is_tuple : Stmt := top 12
abbrev N_is_tuple : List Str := ["thing", "many"]
theorem sc_is_tuple : FnScope N_is_tuple ["thing", "many"] (defScope s_is_tuple) := ⟨rfl, rfl, rfl, by decide +kernel, rfl, by decide +kernel, by decide +kernel⟩
structure Wo (K : Frag) (mg : Str → Option Value) : Prop where
  b : Bi mg
  k_GREATEST_NUMBER : ∃ u, mg "GREATEST_NUMBER" = some u ∧ L2.RelV (.int 1000000000000000) u
local macro_rules | `(tactic| walk_at "el1") => `(tactic| with_reducible first
  | refine a_sasg ?_ | refine a_sdrop ?_ | refine a_saugS ?_ | refine a_spar ?_ | refine a_seq ?_ | refine a_asg ?_ | refine a_drop ?_ | refine a_ret ?_ | refine a_if ?_ | refine a_next ?_
  | refine a_op ?_ | refine a_cons ?_ | refine a_nil ?_ | refine a_cb ?_ | refine a_call ?_ | refine a_c ?_ | refine a_gn ?_ | refine a_nx ?_ | refine a_rt ?_ | refine a_un ?_
  | refine a_test ?_ | refine a_B ?_ | refine a_bl ?_ | refine a_and ?_ | refine a_or ?_ | refine a_not ?_ | refine a_andV ?_ | refine a_orV ?_ | refine a_notV ?_ | refine a_ifx ?_ | refine a_chain ?_
  | refine a_nT ?_ | refine a_nF ?_ | refine a_fld ?_ | refine a_getF ?_ | refine a_T ?_ | refine a_F ?_ | refine a_tup ?_ | refine a_lst ?_ | refine a_sub ?_ | refine a_augS ?_ | refine a_two ?_ | refine a_I0 ?_ | refine a_U ?_ | refine n_add ?_ | refine n_int ?_ | refine n_ib ?_ | refine a_ip ?_ | refine a_rng1 ?_ | refine a_rng2 ?_ | refine a_bm ?_ | refine a_abs ?_ | refine a_pairs ?_ | refine a_pairs0 ?_ | refine a_bk ?_ | refine a_prp ?_ | refine a_lc ?_ | refine a_yes ?_ | refine a_sl ?_ | refine a_nop ?_ | refine a_prt ?_ | refine a_ex1 ?_ | refine a_for ?_ | refine a_sfor ?_ | refine a_iE1 ?_ | refine a_iEs ?_ | refine a_iEz ?_ | refine a_iEnum ?_ | refine a_iTup ?_ | refine a_iList ?_ | refine a_gcons ?_ | refine a_gnil ?_ | refine a_revT ?_ | refine a_spar3 ?_ | refine a_par3 ?_ | refine a_three ?_)
local macro_rules | `(tactic| walk_at "el2") => `(tactic| first
  | (refine a_var (by rfl) ?_)
  | (refine n_ixL (SqL.of (by assumption)) (by rfl) ?_) | (refine n_ixT (SqT.of (by assumption)) (by rfl) ?_) | (refine n_eq (by rfl) ?_) | (refine n_ne (by rfl) ?_)
  | (refine n_isN ?_) | (refine n_notN ?_) | (refine n_isB ?_) | (refine n_notB ?_) | (refine n_isBI ?_) | (refine n_notBI ?_) | (refine n_len (.inl (SqL.of (by assumption))) ?_) | (refine n_len (.inr (SqT.of (by assumption))) ?_)
  | (refine a_getL (SqL.of (by assumption)) (by rfl) ?_)
  | (refine n_isInt (by assumption) ?_) | (refine n_isBool (by assumption) ?_) | (refine n_isStr (by assumption) ?_) | (refine n_isTup (by assumption) ?_) | (refine n_isLst (by assumption) ?_))
local macro_rules | `(tactic| walk_at "el") => `(tactic| repeat (first | walk_at "el1" | walk_at "el2"))

/-! ### what the words mean -/
def intB : V → Bool | .int _ => true | _ => false
def numB : V → Bool | .int i => decide (-1000000000000000 ≤ i) && decide (i ≤ 1000000000000000) | _ => false
def kindB : V → Bool | .str s => decide (s = "early") || decide (s = "late") | _ => false
def otherK (s : Str) : Str := if s = "early" then "late" else "early"
def spB (f : V → Bool) (K : Frag) : Sp := fun vs H Q _ => ∃ x, vs = [x] ∧ Th K H x ∧ ∀ H', Same H H' → Q (.bl (f x)) H'
theorem intB_eq (x : V) : (if isI x = true then !isB x else false) = intB x := by cases x <;> rfl
/-- a tuple of so many -/
def tupN (H : Hp) (x : V) (n : Int) : Prop := ∃ a xs, x = .ref a ∧ H a = some (.tup xs) ∧ (xs.length : Int) = n
def spTu (K : Frag) : Sp := fun vs H Q _ => ∃ (x : V) (n : Int), vs = [x, .int n] ∧ Th K H x ∧ ∀ b, (b = true ↔ tupN H x n) → Q (.bl b) H
theorem isT_tup {K : Frag} {H : Hp} {x : V} (th : Th K H x) (e : isT H x = true) : ∃ a xs, x = .ref a ∧ H a = some (.tup xs) := by
  cases th with
  | tup h => exact ⟨_, _, rfl, h⟩
  | @lst a xs h => (exfalso; have q : obT (H a) = true := e; rw [h] at q; cases q)
  | @dct a xs h => (exfalso; have q : obT (H a) = true := e; rw [h] at q; cases q)
  | @ins a C dx fs h c => (exfalso; have q : obT (H a) = true := e; rw [h] at q; cases q)
  | @dtt a kvs h => (exfalso; have q : obT (H a) = true := e; rw [h] at q; cases q)
  | _ => cases e
theorem isT_of {H : Hp} {a : Addr} {xs : List V} (h : H a = some (.tup xs)) : isT H (.ref a) = true := by show obT (H a) = true; rw [h]; rfl
section
variable {P : Program} {w : World} {K : Frag} {mg : Str → Option Value} {base : Heap} {f : Addr} {fd : FuncData}
theorem ok_is_tuple (F : Fun K "is_tuple" "is_tuple" s_is_tuple f fd) (T : Wo K mg) : FnOk P w K mg base CX0 1 f fd ["thing", "many"] (spTu K) := by
  refine F.ok sc_is_tuple (fun vs H Q E h => ?_) (fun cdv A outer s H vs Q E hr h => ?_)
  · obtain ⟨x, n, rfl, _⟩ := h
    rfl
  · obtain ⟨x, n, rfl, hx, k⟩ := h
    refine ⟨_, (pss_one (ps_ret (pe_and (pe_callB u_isi rfl T.b.isinstance_ boot_isinstance (pa_cons (pv 0) (pa_cons (pe_bltn (v := V.ty "tuple") rfl T.b.tuple_ (by decide +kernel) rfl) pa_nil))) (pe_one (pe_cmpR (u_eq hr.units) (pe_callB u_len rfl T.b.len_ boot_len (pa_cons (pv 0) pa_nil)) (pv 1) (nomark _)))))), ?_⟩
    obtain ⟨t, kt⟩ := hx.kit
    walk_at "el"
    refine ite2 (fun h0 => ?_) (fun h0 => ?_)
    · obtain ⟨a, xs, rfl, ha⟩ := isT_tup hx h0
      walk_at "el"
      refine k _ ⟨fun z => ⟨a, xs, rfl, ha, by simpa using z⟩, ?_⟩
      rintro ⟨a', xs', e, ha', hl⟩
      cases e
      rw [ha] at ha'
      cases ha'
      simpa using hl
    · walk_at "el"
      refine k _ ⟨(fun h => nomatch h), ?_⟩
      rintro ⟨a, xs, rfl, ha, _⟩
      rw [isT_of ha] at h0
      exact absurd rfl h0
/-- a tuple of this word and one value more -/
def spHd (K : Frag) : Sp := fun vs H Q _ => ∃ (x : V) (wd : Str), vs = [x, .str wd] ∧ Th K H x ∧ (∀ q xs, x = .ref q → H q = some (.tup xs) → ∀ y ∈ xs, Th K H y) ∧ ∀ b, (b = true ↔ ∃ a y, x = .ref a ∧ H a = some (.tup [.str wd, y])) → Q (.bl b) H
theorem ok_is_integer (F : Fun K "is_integer" "is_integer" s_is_integer f fd) (T : Wo K mg) : FnOk P w K mg base CX0 1 f fd ["thing"] (spB intB K) := by
  refine F.ok sc_is_integer (fun vs H Q E h => ?_) (fun cdv A outer s H vs Q E hr h => ?_)
  · obtain ⟨x, rfl, _⟩ := h
    rfl
  · obtain ⟨x, rfl, hx, k⟩ := h
    refine ⟨_, (pss_one (ps_ret (pe_and (pe_callB u_isi rfl T.b.isinstance_ boot_isinstance (pa_cons (pv 0) (pa_cons (pe_bltn (v := V.ty "int") rfl T.b.int_ (by decide +kernel) rfl) pa_nil))) (pe_one (pe_not (pe_callB u_isi rfl T.b.isinstance_ boot_isinstance (pa_cons (pv 0) (pa_cons (pe_bltn (v := V.ty "bool") rfl T.b.bool_ (by decide +kernel) rfl) pa_nil)))))))), ?_⟩
    obtain ⟨t, kt⟩ := hx.kit
    walk_at "el"
    refine ite2 (fun h0 => ?_) (fun h0 => ?_)
    · walk_at "el"
      rw [← intB_eq, if_pos h0] at k
      exact k _ (Same.refl _)
    · walk_at "el"
      rw [← intB_eq, if_neg h0] at k
      exact k _ (Same.refl _)
theorem ok_is_number (F : Fun K "is_number" "is_number" s_is_number f fd) (T : Wo K mg) (c_is_integer : Cal P w K mg base CX0 1 "is_integer" ["thing"] (spB intB K)) : FnOk P w K mg base CX0 2 f fd ["thing"] (spB numB K) := by
  refine F.ok sc_is_number (fun vs H Q E h => ?_) (fun cdv A outer s H vs Q E hr h => ?_)
  · obtain ⟨x, rfl, _⟩ := h
    rfl
  · obtain ⟨x, rfl, hx, k⟩ := h
    refine ⟨_, (pss_one (ps_ret (pe_and (pe_cal c_is_integer (hr.mono (by decide)) pass0 (pa_cons (pv 0) pa_nil)) (pe_one (pe_chain op_le op_le (pe_un un_neg (pe_gc (v := .int 1000000000000000) rfl T.k_GREATEST_NUMBER)) (pv 0) (pe_gc (v := .int 1000000000000000) rfl T.k_GREATEST_NUMBER)))))), ?_⟩
    walk_at "el"
    refine ⟨x, rfl, hx, fun H1 s1 => ?_⟩
    walk_at "el"
    refine ite2 (fun h0 => ?_) (fun h0 => ?_)
    · obtain ⟨i, rfl⟩ : ∃ i, x = .int i := by cases x <;> first | exact ⟨_, rfl⟩ | cases h0
      walk_at "el"
      refine ite2 (fun h1 => ?_) (fun h1 => ?_)
      · walk_at "el"
        have e : numB (.int i) = decide (i ≤ 1000000000000000) := by show (decide _ && decide _) = _; rw [h1]; rfl
        rw [e] at k
        exact k _ s1
      · walk_at "el"
        have e : numB (.int i) = false := by show (decide _ && decide _) = _; rw [Bool.not_eq_true _ |>.mp h1]; rfl
        rw [e] at k
        exact k _ s1
    · walk_at "el"
      have e : numB x = false := by cases x <;> first | rfl | exact absurd rfl h0
      rw [e] at k
      exact k _ s1
theorem ok_is_kind (F : Fun K "is_kind" "is_kind" s_is_kind f fd) (T : Wo K mg) : FnOk P w K mg base CX0 1 f fd ["thing"] (spB kindB K) := by
  refine F.ok sc_is_kind (fun vs H Q E h => ?_) (fun cdv A outer s H vs Q E hr h => ?_)
  · obtain ⟨x, rfl, _⟩ := h
    rfl
  · obtain ⟨x, rfl, hx, k⟩ := h
    refine ⟨_, (pss_one (ps_ret (pe_and (pe_callB u_isi rfl T.b.isinstance_ boot_isinstance (pa_cons (pv 0) (pa_cons (pe_bltn (v := V.ty "str") rfl T.b.str_ (by decide +kernel) rfl) pa_nil))) (pe_one (pe_cmpR u_in (pv 0) (pe_tup (pa_cons pe_str (pa_cons pe_str pa_nil))) rfl))))), ?_⟩
    obtain ⟨t, kt⟩ := hx.kit
    walk_at "el"
    refine ite2 (fun h0 => ?_) (fun h0 => ?_)
    · obtain ⟨i, rfl⟩ : ∃ i, x = .str i := by cases x <;> first | exact ⟨_, rfl⟩ | cases h0
      walk_at "el"
      refine ⟨by decide, fun p hp => n_inT upd_same rfl rfl ?_⟩
      walk_at "el"
      have e : kindB (.str i) = inV (.str i) [.str "early", .str "late"] := by
        show (decide _ || decide _) = (_ == _ || (_ == _ || false))
        rw [Bool.or_false]
        congr 1 <;> (rw [Bool.eq_iff_iff, decide_eq_true_iff, beq_iff_eq]; exact ⟨fun h => h.symm, fun h => h.symm⟩)
      rw [e] at k
      exact k _ (L2.Same.nw (Same.refl _) hp)
    · walk_at "el"
      have e : kindB x = false := by cases x <;> first | rfl | exact absurd rfl h0
      rw [e] at k
      exact k _ (Same.refl _)
theorem ok_contrary (F : Fun K "contrary" "contrary" s_contrary f fd) : FnOk P w K mg base CX0 1 f fd ["kind"] (fun vs H Q _ => ∃ s, vs = [.str s] ∧ Q (.str (otherK s)) H) := by
  refine F.ok sc_contrary (fun vs H Q E h => ?_) (fun cdv A outer s H vs Q E hr h => ?_)
  · obtain ⟨x, rfl, _⟩ := h
    rfl
  · obtain ⟨x, rfl, k⟩ := h
    refine ⟨_, (pss_cons (ps_if (pt_cmpR (u_eq hr.units) (pv 0) pe_str (nomark _))
    (pss_one (ps_ret pe_str))
    pss_nil)
  (pss_one (ps_ret pe_str))), ?_⟩
    walk_at "el"
    unfold otherK at k
    refine ite2 (fun h0 => ?_) (fun h0 => ?_)
    · walk_at "el"
      rw [if_pos (by simpa using h0)] at k
      exact k
    · walk_at "el"
      rw [if_neg (by simpa using h0)] at k
      exact k
def spTl : Sp := fun vs H Q _ => ∃ p x s, vs = [.ref p] ∧ H p = some (.tup [x, .str s]) ∧ ∀ r, H r = none → Q (.ref r) (upd H r (.tup [x, .str (otherK s)]))
end
end EL

/- part C -/
namespace EL
open PySem PySem.Spec PyProof.Rows L2
open PySem.W (Frag)
abbrev s_is_below : Stmt := top 16
abbrev N_is_below : List Str := ["thing", "many"]
theorem sc_is_below : FnScope N_is_below ["thing", "many"] (defScope s_is_below) := ⟨rfl, rfl, rfl, by decide +kernel, rfl, by decide +kernel, by decide +kernel⟩
abbrev s_is_side : Stmt := top 17
abbrev N_is_side : List Str := ["thing"]
theorem sc_is_side : FnScope N_is_side ["thing"] (defScope s_is_side) := ⟨rfl, rfl, rfl, by decide +kernel, rfl, by decide +kernel, by decide +kernel⟩
abbrev s_first_wrong : Stmt := top 18
abbrev N_first_wrong : List Str := ["part", "values", "events", "witnesses", "place", "word"]
theorem sc_first_wrong : FnScope N_first_wrong ["part", "values", "events", "witnesses"] (defScope s_first_wrong) := ⟨rfl, rfl, rfl, by decide +kernel, rfl, by decide +kernel, by decide +kernel⟩
abbrev s__can_stand : Stmt := top 19
abbrev N__can_stand : List Str := ["word", "values", "place", "events", "witnesses", "thing"]
theorem sc__can_stand : FnScope N__can_stand ["word", "values", "place", "events", "witnesses"] (defScope s__can_stand) := ⟨rfl, rfl, rfl, by decide +kernel, rfl, by decide +kernel, by decide +kernel⟩
abbrev s_is_item : Stmt := top 20
abbrev N_is_item : List Str := ["part", "thing", "events", "witnesses"]
theorem sc_is_item : FnScope N_is_item ["part", "thing", "events", "witnesses"] (defScope s_is_item) := ⟨rfl, rfl, rfl, by decide +kernel, rfl, by decide +kernel, by decide +kernel⟩
local macro_rules | `(tactic| walk_at "el1") => `(tactic| with_reducible first
  | refine a_sasg ?_ | refine a_sdrop ?_ | refine a_saugS ?_ | refine a_spar ?_ | refine a_seq ?_ | refine a_asg ?_ | refine a_drop ?_ | refine a_ret ?_ | refine a_if ?_ | refine a_next ?_
  | refine a_op ?_ | refine a_cons ?_ | refine a_nil ?_ | refine a_cb ?_ | refine a_call ?_ | refine a_c ?_ | refine a_gn ?_ | refine a_nx ?_ | refine a_rt ?_ | refine a_un ?_
  | refine a_test ?_ | refine a_B ?_ | refine a_bl ?_ | refine a_and ?_ | refine a_or ?_ | refine a_not ?_ | refine a_andV ?_ | refine a_orV ?_ | refine a_notV ?_ | refine a_ifx ?_ | refine a_chain ?_
  | refine a_nT ?_ | refine a_nF ?_ | refine a_fld ?_ | refine a_getF ?_ | refine a_T ?_ | refine a_F ?_ | refine a_tup ?_ | refine a_lst ?_ | refine a_sub ?_ | refine a_augS ?_ | refine a_two ?_ | refine a_I0 ?_ | refine a_U ?_ | refine n_add ?_ | refine n_int ?_ | refine n_ib ?_ | refine a_ip ?_ | refine a_rng1 ?_ | refine a_rng2 ?_ | refine a_bm ?_ | refine a_abs ?_ | refine a_pairs ?_ | refine a_pairs0 ?_ | refine a_bk ?_ | refine a_prp ?_ | refine a_lc ?_ | refine a_yes ?_ | refine a_sl ?_ | refine a_nop ?_ | refine a_prt ?_ | refine a_ex1 ?_ | refine a_for ?_ | refine a_sfor ?_ | refine a_iE1 ?_ | refine a_iEs ?_ | refine a_iEz ?_ | refine a_iEnum ?_ | refine a_iTup ?_ | refine a_iList ?_ | refine a_gcons ?_ | refine a_gnil ?_ | refine a_revT ?_ | refine a_spar3 ?_ | refine a_par3 ?_ | refine a_three ?_)
local macro_rules | `(tactic| walk_at "el2") => `(tactic| first
  | (refine a_var (by rfl) ?_)
  | (refine n_ixL (SqL.of (by assumption)) (by rfl) ?_) | (refine n_ixT (SqT.of (by assumption)) (by rfl) ?_) | (refine n_eq (by rfl) ?_) | (refine n_ne (by rfl) ?_)
  | (refine n_isN ?_) | (refine n_notN ?_) | (refine n_isB ?_) | (refine n_notB ?_) | (refine n_isBI ?_) | (refine n_notBI ?_) | (refine n_len (.inl (SqL.of (by assumption))) ?_) | (refine n_len (.inr (SqT.of (by assumption))) ?_)
  | (refine a_getL (SqL.of (by assumption)) (by rfl) ?_)
  | (refine n_isInt (by assumption) ?_) | (refine n_isBool (by assumption) ?_) | (refine n_isStr (by assumption) ?_) | (refine n_isTup (by assumption) ?_) | (refine n_isLst (by assumption) ?_))
local macro_rules | `(tactic| walk_at "el") => `(tactic| repeat (first | walk_at "el1" | walk_at "el2"))

/-! ### items -/
inductive Pt | tel | gap | sur | cla
  deriving DecidableEq
def Pt.name : Pt → Str | .tel => "tellings" | .gap => "gaps" | .sur => "sure" | .cla => "clauses"
def Pt.form : Pt → List Str
  | .tel => ["witness", "event", "number"]
  | .gap => ["event", "another event", "number"]
  | .sur => ["event", "side", "number"]
  | .cla => ["witness", "kind", "witness", "kind"]
def belowB (x : V) (n : Int) : Bool := match x with | .int i => decide (0 ≤ i) && decide (i < n) | _ => false
def sideB : V → Bool | .str s => decide (s = "least") || decide (s = "most") | _ => false
def turnS (s : Str) : Str := if s = "least" then "most" else "least"
structure It4 (K : Frag) (w : World) (mg : Str → Option Value) (aForms aParts : Addr) : Prop where
  b : Bi mg
  gForms : mg "FORMS" = some (.ref aForms)
  gParts : mg "PARTS" = some (.ref aParts)
  forms : ∀ p : Pt, ∃ a, KDct K w aForms p.name (.ref a) ∧ ∀ H, SqT K H a (p.form.map V.str)
  parts : ∀ H, SqT K H aParts [.str "tellings", .str "gaps", .str "sure", .str "clauses"]
def spBelow (K : Frag) : Sp := fun vs H Q _ => ∃ x n, vs = [x, .int n] ∧ Th K H x ∧ ∀ H', Same H H' → Q (.bl (belowB x n)) H'
section
variable {P : Program} {w : World} {K : Frag} {mg : Str → Option Value} {base : Heap} {f : Addr} {fd : FuncData} {aForms aParts : Addr}
theorem ok_is_below (F : Fun K "is_below" "is_below" s_is_below f fd) (c_is_integer : Cal P w K mg base CX0 1 "is_integer" ["thing"] (spB intB K)) : FnOk P w K mg base CX0 2 f fd ["thing", "many"] (spBelow K) := by
  refine F.ok sc_is_below (fun vs H Q E h => ?_) (fun cdv A outer s H vs Q E hr h => ?_)
  · obtain ⟨x, n, rfl, _⟩ := h
    rfl
  · obtain ⟨x, n, rfl, hx, k⟩ := h
    refine ⟨_, (pss_one (ps_ret (pe_and (pe_cal c_is_integer (hr.mono (by decide)) pass0 (pa_cons (pv 0) pa_nil)) (pe_one (pe_chain op_le op_lt pe_int (pv 0) (pv 1)))))), ?_⟩
    walk_at "el"
    refine ⟨x, rfl, hx, fun H1 s1 => ?_⟩
    walk_at "el"
    refine ite2 (fun h0 => ?_) (fun h0 => ?_)
    · obtain ⟨i, rfl⟩ : ∃ i, x = .int i := by cases x <;> first | exact ⟨_, rfl⟩ | cases h0
      walk_at "el"
      refine ite2 (fun h1 => ?_) (fun h1 => ?_)
      · walk_at "el"
        have e : belowB (.int i) n = decide (i < n) := by show (decide _ && decide _) = _; rw [h1]; rfl
        rw [e] at k
        exact k _ s1
      · walk_at "el"
        have e : belowB (.int i) n = false := by show (decide _ && decide _) = _; rw [Bool.not_eq_true _ |>.mp h1]; rfl
        rw [e] at k
        exact k _ s1
    · walk_at "el"
      have e : belowB x n = false := by cases x <;> first | rfl | exact absurd rfl h0
      rw [e] at k
      exact k _ s1
theorem ok_is_side (F : Fun K "is_side" "is_side" s_is_side f fd) (T : It4 K w mg aForms aParts) : FnOk P w K mg base CX0 1 f fd ["thing"] (spB sideB K) := by
  refine F.ok sc_is_side (fun vs H Q E h => ?_) (fun cdv A outer s H vs Q E hr h => ?_)
  · obtain ⟨x, rfl, _⟩ := h
    rfl
  · obtain ⟨x, rfl, hx, k⟩ := h
    refine ⟨_, (pss_one (ps_ret (pe_and (pe_callB u_isi rfl T.b.isinstance_ boot_isinstance (pa_cons (pv 0) (pa_cons (pe_bltn (v := V.ty "str") rfl T.b.str_ (by decide +kernel) rfl) pa_nil))) (pe_one (pe_cmpR u_in (pv 0) (pe_tup (pa_cons pe_str (pa_cons pe_str pa_nil))) rfl))))), ?_⟩
    obtain ⟨t, kt⟩ := hx.kit
    walk_at "el"
    refine ite2 (fun h0 => ?_) (fun h0 => ?_)
    · obtain ⟨i, rfl⟩ : ∃ i, x = .str i := by cases x <;> first | exact ⟨_, rfl⟩ | cases h0
      walk_at "el"
      refine ⟨by decide, fun p hp => n_inT upd_same rfl rfl ?_⟩
      walk_at "el"
      have e : sideB (.str i) = inV (.str i) [.str "least", .str "most"] := by
        show (decide _ || decide _) = (_ == _ || (_ == _ || false))
        rw [Bool.or_false]
        congr 1 <;> (rw [Bool.eq_iff_iff, decide_eq_true_iff, beq_iff_eq]; exact ⟨fun h => h.symm, fun h => h.symm⟩)
      rw [e] at k
      exact k _ (L2.Same.nw (Same.refl _) hp)
    · walk_at "el"
      have e : sideB x = false := by cases x <;> first | rfl | exact absurd rfl h0
      rw [e] at k
      exact k _ (Same.refl _)
/-- what may stand at a place -/
def standB (word : Str) (xs : List V) (i : Nat) (x : V) (ev wi : Int) : Bool :=
  if word = "witness" then belowB x wi else if word = "event" then belowB x ev else if word = "another event" then belowB x ev && !decide (some x = xs[i - 1]?)
  else if word = "side" then sideB x else if word = "kind" then kindB x else numB x
def spCan (K : Frag) : Sp := fun vs H Q _ => ∃ (word : Str) (a : Addr) (xs : List V) (i : Nat) (x : V) (ev wi : Int), vs = [.str word, .ref a, .int i, .int ev, .int wi] ∧ H a = some (.tup xs) ∧ xs[i]? = some x ∧ Th K H x ∧
  (word = "another event" → 1 ≤ i ∧ ∃ j, xs[i - 1]? = some (.int j)) ∧ ∀ H', Same H H' → Q (.bl (standB word xs i x ev wi)) H'
theorem ok_can_stand (F : Fun K "_can_stand" "_can_stand" s__can_stand f fd) (c_is_below : Cal P w K mg base CX0 2 "is_below" ["thing", "many"] (spBelow K)) (c_is_side : Cal P w K mg base CX0 1 "is_side" ["thing"] (spB sideB K))
    (c_is_kind : Cal P w K mg base CX0 1 "is_kind" ["thing"] (spB kindB K)) (c_is_number : Cal P w K mg base CX0 2 "is_number" ["thing"] (spB numB K)) :
    FnOk P w K mg base CX0 3 f fd ["word", "values", "place", "events", "witnesses"] (spCan K) := by
  refine F.ok sc__can_stand (fun vs H Q E h => ?_) (fun cdv A outer s H vs Q E hr h => ?_)
  · obtain ⟨_, _, _, _, _, _, _, rfl, _⟩ := h
    rfl
  · obtain ⟨word, a, xs, i, x, ev, wi, rfl, ha, hx, th, hp, k⟩ := h
    refine ⟨_, (pss_cons (ps_set (i := 5) sc__can_stand.nd rfl (Or.inl rfl) (pe_ix ix_seq (pv 1) (pv 2) (fun _ _ => rfl)))
  (pss_cons (ps_if (pt_cmpR (u_eq hr.units) (pv 0) pe_str (nomark _))
    (pss_one (ps_ret (pe_cal c_is_below (hr.mono (by decide)) pass0 (pa_cons (pv 5) (pa_cons (pv 4) pa_nil)))))
    pss_nil)
  (pss_cons (ps_if (pt_cmpR (u_eq hr.units) (pv 0) pe_str (nomark _))
    (pss_one (ps_ret (pe_cal c_is_below (hr.mono (by decide)) pass0 (pa_cons (pv 5) (pa_cons (pv 3) pa_nil)))))
    pss_nil)
  (pss_cons (ps_if (pt_cmpR (u_eq hr.units) (pv 0) pe_str (nomark _))
    (pss_one (ps_ret (pe_and (pe_cal c_is_below (hr.mono (by decide)) pass0 (pa_cons (pv 5) (pa_cons (pv 3) pa_nil))) (pe_one (pe_cmpR (u_ne hr.units) (pv 5) (pe_ix ix_seq (pv 1) (pe_op op_sub (pv 2) pe_int) (fun _ _ => rfl)) (nomark _))))))
    pss_nil)
  (pss_cons (ps_if (pt_cmpR (u_eq hr.units) (pv 0) pe_str (nomark _))
    (pss_one (ps_ret (pe_cal c_is_side (hr.mono (by decide)) pass0 (pa_cons (pv 5) pa_nil))))
    pss_nil)
  (pss_cons (ps_if (pt_cmpR (u_eq hr.units) (pv 0) pe_str (nomark _))
    (pss_one (ps_ret (pe_cal c_is_kind (hr.mono (by decide)) pass0 (pa_cons (pv 5) pa_nil))))
    pss_nil)
  (pss_one (ps_ret (pe_cal c_is_number (hr.mono (by decide)) pass0 (pa_cons (pv 5) pa_nil)))))))))), ?_⟩
    unfold standB at k
    walk_at "el"
    refine n_ixT (SqT.of ha) (atI_nat hx) ?_
    walk_at "el"
    refine ite2 (fun h0 => ?_) (fun h0 => ?_)
    · rw [if_pos (by simpa using h0)] at k
      walk_at "el"
      exact ⟨x, wi, rfl, th, fun H1 s1 => k _ s1⟩
    rw [if_neg (by simpa using h0)] at k
    walk_at "el"
    refine ite2 (fun h0 => ?_) (fun h0 => ?_)
    · rw [if_pos (by simpa using h0)] at k
      walk_at "el"
      exact ⟨x, ev, rfl, th, fun H1 s1 => k _ s1⟩
    rw [if_neg (by simpa using h0)] at k
    walk_at "el"
    refine ite2 (fun h0 => ?_) (fun h0 => ?_)
    · rw [if_pos (by simpa using h0)] at k
      obtain ⟨i1, j, hj⟩ := hp (by simpa using h0)
      walk_at "el"
      refine ⟨x, ev, rfl, th, fun H1 s1 => ?_⟩
      walk_at "el"
      refine ite2 (fun h1 => ?_) (fun h1 => ?_)
      · obtain ⟨z, rfl⟩ : ∃ z, x = .int z := by cases x <;> first | exact ⟨_, rfl⟩ | cases h1
        walk_at "el"
        have ei : (i : Int) - 1 = ((i - 1 : Nat) : Int) := by omega
        refine n_ixT (SqT.of (s1 _ _ ha)) (by rw [ei]; exact atI_nat hj) ?_
        walk_at "el"
        have e : (belowB (.int z) ev && !decide (some (.int z) = xs[i - 1]?)) = !decide (V.int z = V.int j) := by
          rw [h1, hj, Bool.true_and]
          congr 1
          rw [Bool.eq_iff_iff, decide_eq_true_iff, decide_eq_true_iff]
          exact ⟨fun h => Option.some.inj h, fun h => congrArg some h⟩
        rw [e] at k
        exact k _ s1
      · walk_at "el"
        rw [Bool.not_eq_true _ |>.mp h1, Bool.false_and] at k
        exact k _ s1
    rw [if_neg (by simpa using h0)] at k
    walk_at "el"
    refine ite2 (fun h0 => ?_) (fun h0 => ?_)
    · rw [if_pos (by simpa using h0)] at k
      walk_at "el"
      exact ⟨x, rfl, th, fun H1 s1 => k _ s1⟩
    rw [if_neg (by simpa using h0)] at k
    walk_at "el"
    refine ite2 (fun h0 => ?_) (fun h0 => ?_)
    · rw [if_pos (by simpa using h0)] at k
      walk_at "el"
      exact ⟨x, rfl, th, fun H1 s1 => k _ s1⟩
    rw [if_neg (by simpa using h0)] at k
    walk_at "el"
    exact ⟨x, rfl, th, fun H1 s1 => k _ s1⟩
/-- the values that may stand in an item -/
def StandsTo (p : Pt) (xs : List V) (ev wi : Int) (n : Nat) : Prop := ∀ j, j < n → ∀ wd x, p.form[j]? = some wd → xs[j]? = some x → standB wd xs j x ev wi = true
def spFw (K : Frag) : Sp := fun vs H Q _ => ∃ (p : Pt) (a : Addr) (xs : List V) (ev wi : Int), vs = [.str p.name, .ref a, .int ev, .int wi] ∧ H a = some (.tup xs) ∧ xs.length = p.form.length ∧ (∀ x ∈ xs, Th K H x) ∧
  (StandsTo p xs ev wi p.form.length → ∀ H', Same H H' → Q .non H') ∧
  (∀ i wd x, StandsTo p xs ev wi i → p.form[i]? = some wd → xs[i]? = some x → standB wd xs i x ev wi = false → ∀ H', Same H H' → Q (.int i) H')
theorem another_at {p : Pt} {i : Nat} (h : p.form[i]? = some ("another event" : Str)) : p = .gap ∧ i = 1 := by
  cases p <;> (rcases i with _ | _ | _ | _ | i) <;> first | exact ⟨rfl, rfl⟩ | (exfalso; revert h; decide) | cases h
theorem below_int {x : V} {n : Int} (h : belowB x n = true) : ∃ j, x = .int j ∧ 0 ≤ j ∧ j < n := by
  cases x with
  | int j =>
    have q : (decide (0 ≤ j) && decide (j < n)) = true := h
    rw [Bool.and_eq_true, decide_eq_true_iff, decide_eq_true_iff] at q
    exact ⟨j, rfl, q⟩
  | _ => cases h
theorem stands_prev {p : Pt} {xs : List V} {ev wi : Int} {i : Nat} (hl : xs.length = p.form.length) (h : StandsTo p xs ev wi i) (hw : p.form[i]? = some ("another event" : Str)) : 1 ≤ i ∧ ∃ j, xs[i - 1]? = some (.int j) := by
  obtain ⟨rfl, rfl⟩ := another_at hw
  have l0 : 0 < xs.length := by rw [hl]; decide
  have e0 : xs[0]? = some xs[0] := List.getElem?_eq_getElem l0
  have q := h 0 (by decide) "event" _ rfl e0
  obtain ⟨j, hj, _⟩ := below_int (x := xs[0]) (n := ev) (by
    unfold standB at q
    rw [if_neg (by decide), if_pos rfl] at q
    exact q)
  exact ⟨by decide, j, by rw [← hj]; exact e0⟩
theorem ok_first_wrong (F : Fun K "first_wrong" "first_wrong" s_first_wrong f fd) (T : It4 K w mg aForms aParts) (c__can_stand : Cal P w K mg base CX0 3 "_can_stand" ["word", "values", "place", "events", "witnesses"] (spCan K)) :
    FnOk P w K mg base CX0 4 f fd ["part", "values", "events", "witnesses"] (spFw K) := by
  refine F.ok sc_first_wrong (fun vs H Q E h => ?_) (fun cdv A outer s H vs Q E hr h => ?_)
  · obtain ⟨_, _, _, _, _, rfl, _⟩ := h
    rfl
  · obtain ⟨p, a, xs, ev, wi, rfl, ha, hl, th, kn, ki⟩ := h
    refine ⟨_, (pss_cons (ps_for PassesOwn.never rfl (pi_e1 rfl T.b.enumerate_ (pa_cons (pe_ix ix_kdict (pe_glob (v := .ref aForms) rfl T.gForms rfl) (pv 0) (fun _ _ => rfl)) pa_nil)) (pg_tup rfl (pgs_cons (pg_name (i := 4) sc_first_wrong.nd rfl (Or.inl rfl)) (pgs_cons (pg_name (i := 5) sc_first_wrong.nd rfl (Or.inl rfl)) pgs_nil)))
    (pss_one (ps_if (pt_not (pt_val (pe_cal c__can_stand (hr.mono (by decide)) pass0 (pa_cons (pv 5) (pa_cons (pv 1) (pa_cons (pv 4) (pa_cons (pv 2) (pa_cons (pv 3) pa_nil))))))))
    (pss_one (ps_ret (pv 4)))
    pss_nil)))
  (pss_one (ps_ret pe_non))), ?_⟩
    obtain ⟨aF, hF, sF⟩ := T.forms p
    walk_at "el"
    refine ⟨_, _, _, rfl, rfl, hF, ?_⟩
    walk_at "el"
    refine ⟨aF, _, rfl, sF _, ?_⟩
    refine lp_it (walk_es (xs := p.form.map V.str)) (fun i σ H1 => Same H H1 ∧ StandsTo p xs ev wi i ∧ ∃ v4 v5, σ = [some (.str p.name), some (.ref a), some (.int ev), some (.int wi), v4, v5]) ⟨Same.refl _, fun j h => absurd h (Nat.not_lt_zero j), _, _, rfl⟩ (fun i σ H1 hi h => sF _) ?_ ?_
    · rintro i x σ H1 H2 hi ⟨s1, hst, v4, v5, rfl⟩ ⟨t, _, rfl, ht, rfl, hwd⟩
      rw [List.length_map] at hi
      have hi2 : i < xs.length := by omega
      rw [List.getElem?_map, List.getElem?_eq_getElem hi] at hwd
      cases hwd
      have ew : p.form[i]? = some p.form[i] := List.getElem?_eq_getElem hi
      have ex : xs[i]? = some xs[i] := List.getElem?_eq_getElem hi2
      have s2 := L2.Same.nw (o := .tup [.int ((0 : Int) + i), .str p.form[i]]) s1 ht
      refine a_gtup (SqT.of upd_same) rfl ?_
      walk_at "el"
      refine ⟨p.form[i], a, xs, i, xs[i], ev, wi, by rw [Int.zero_add], s2 _ _ ha, ex, (th _ (List.getElem_mem hi2)).same s2, fun hn => stands_prev hl hst (by rw [ew, hn]), fun H3 s3 => ?_⟩
      walk_at "el"
      refine ite2 (fun h0 => ?_) (fun h0 => ?_)
      · walk_at "el"
        rw [Int.zero_add]
        exact ki i _ _ hst ew ex (by simpa using h0) _ (s2.trans s3)
      · walk_at "el"
        refine ⟨s2.trans s3, fun j hj wd x hw hx => ?_, _, _, rfl⟩
        by_cases e : j = i
        · subst e
          rw [ew] at hw; cases hw
          rw [ex] at hx; cases hx
          simpa using h0
        · exact hst j (by omega) wd x hw hx
    · rintro σ H1 ⟨s1, hst, v4, v5, rfl⟩
      rw [List.length_map] at hst
      walk_at "el"
      exact kn hst _ s1
/-- an item of a part -/
def ItemOk (p : Pt) (H : Hp) (x : V) (ev wi : Int) : Prop := ∃ a xs, x = .ref a ∧ H a = some (.tup xs) ∧ xs.length = p.form.length ∧ StandsTo p xs ev wi p.form.length
def spItem (K : Frag) : Sp := fun vs H Q _ => ∃ (p : Pt) (x : V) (ev wi : Int), vs = [.str p.name, x, .int ev, .int wi] ∧ Th K H x ∧ (∀ a xs, x = .ref a → H a = some (.tup xs) → ∀ y ∈ xs, Th K H y) ∧ ∀ H' b, Same H H' → (b = true ↔ ItemOk p H x ev wi) → Q (.bl b) H'
theorem ok_is_item (F : Fun K "is_item" "is_item" s_is_item f fd) (T : It4 K w mg aForms aParts) (c_is_tuple : Cal P w K mg base CX0 1 "is_tuple" ["thing", "many"] (spTu K)) (c_first_wrong : Cal P w K mg base CX0 4 "first_wrong" ["part", "values", "events", "witnesses"] (spFw K)) :
    FnOk P w K mg base CX0 5 f fd ["part", "thing", "events", "witnesses"] (spItem K) := by
  refine F.ok sc_is_item (fun vs H Q E h => ?_) (fun cdv A outer s H vs Q E hr h => ?_)
  · obtain ⟨_, _, _, _, rfl, _⟩ := h
    rfl
  · obtain ⟨p, x, ev, wi, rfl, th, te, k⟩ := h
    refine ⟨_, (pss_one (ps_ret (pe_and (pe_cal c_is_tuple (hr.mono (by decide)) pass0 (pa_cons (pv 1) (pa_cons (pe_callB u_len rfl T.b.len_ boot_len (pa_cons (pe_ix ix_kdict (pe_glob (v := .ref aForms) rfl T.gForms rfl) (pv 0) (fun _ _ => rfl)) pa_nil)) pa_nil))) (pe_one (pe_cmpR u_is (pe_cal c_first_wrong (hr.mono (by decide)) pass0 (pa_cons (pv 0) (pa_cons (pv 1) (pa_cons (pv 2) (pa_cons (pv 3) pa_nil))))) pe_non (nomark _)))))), ?_⟩
    obtain ⟨t, kt⟩ := th.kit
    obtain ⟨aF, hF, sF⟩ := T.forms p
    walk_at "el"
    refine ⟨_, _, _, rfl, rfl, hF, ?_⟩
    walk_at "el"
    refine n_len (.inr (sF _)) ?_
    walk_at "el"
    rw [List.length_map]
    refine ⟨x, _, rfl, th, fun b hb => ?_⟩
    rcases b with _ | _
    · walk_at "el"
      refine k _ false (Same.refl _) ⟨(fun h => nomatch h), ?_⟩
      rintro ⟨a, xs, rfl, ha, hl, _⟩
      exact absurd (hb.mpr ⟨a, xs, rfl, ha, by rw [hl]⟩) (by decide)
    · obtain ⟨a, xs, rfl, ha, hl'⟩ := hb.mp rfl
      have hl : xs.length = p.form.length := by omega
      walk_at "el"
      refine ⟨p, a, xs, ev, wi, rfl, ha, hl, te a xs rfl ha, fun hs H1 s1 => ?_, fun i wd x hs hw hx hb H1 s1 => ?_⟩
      · walk_at "el"
        exact k _ _ s1 ⟨fun _ => ⟨a, xs, rfl, ha, hl, hs⟩, fun _ => by decide⟩
      · walk_at "el"
        refine k _ _ s1 ⟨(fun h => by cases h), ?_⟩
        rintro ⟨a', xs', e, ha', hl', hs'⟩
        cases e
        rw [ha] at ha'
        cases ha'
        have hi : i < p.form.length := (List.getElem?_eq_some_iff.mp hw).1
        rw [hs' i hi wd x hw hx] at hb
        cases hb
end
end EL

/- part D -/
namespace EL
open PySem PySem.Spec PyProof.Rows L2
open PySem.W (Frag)
abbrev s__check_arguments : Stmt := top 25
abbrev N__check_arguments : List Str := ["events", "witnesses", "parts", "place", "items"]
theorem sc__check_arguments : FnScope N__check_arguments ["events", "witnesses", "parts"] (defScope s__check_arguments) := ⟨rfl, rfl, rfl, by decide +kernel, rfl, by decide +kernel, by decide +kernel⟩
abbrev s__check_items : Stmt := top 26
abbrev N__check_items : List Str := ["place", "part", "items", "events", "witnesses", "index", "item"]
theorem sc__check_items : FnScope N__check_items ["place", "part", "items", "events", "witnesses"] (defScope s__check_items) := ⟨rfl, rfl, rfl, by decide +kernel, rfl, by decide +kernel, by decide +kernel⟩
abbrev s_Book_init : Stmt := inClass (top 27) 0
abbrev N_Book_init : List Str := ["self", "events", "witnesses", "tellings", "gaps", "sure", "clauses", "parts", "place", "part", "items"]
theorem sc_Book_init : FnScope N_Book_init ["self", "events", "witnesses", "tellings", "gaps", "sure", "clauses"] (defScope s_Book_init) := ⟨rfl, rfl, rfl, by decide +kernel, rfl, by decide +kernel, by decide +kernel⟩
local macro_rules | `(tactic| walk_at "el1") => `(tactic| with_reducible first
  | refine a_sasg ?_ | refine a_sdrop ?_ | refine a_saugS ?_ | refine a_spar ?_ | refine a_seq ?_ | refine a_asg ?_ | refine a_drop ?_ | refine a_ret ?_ | refine a_if ?_ | refine a_next ?_
  | refine a_op ?_ | refine a_cons ?_ | refine a_nil ?_ | refine a_cb ?_ | refine a_call ?_ | refine a_c ?_ | refine a_gn ?_ | refine a_nx ?_ | refine a_rt ?_ | refine a_un ?_
  | refine a_test ?_ | refine a_B ?_ | refine a_bl ?_ | refine a_and ?_ | refine a_or ?_ | refine a_not ?_ | refine a_andV ?_ | refine a_orV ?_ | refine a_notV ?_ | refine a_ifx ?_ | refine a_chain ?_
  | refine a_nT ?_ | refine a_nF ?_ | refine a_fld ?_ | refine a_getF ?_ | refine a_T ?_ | refine a_F ?_ | refine a_tup ?_ | refine a_lst ?_ | refine a_sub ?_ | refine a_augS ?_ | refine a_two ?_ | refine a_I0 ?_ | refine a_U ?_ | refine n_add ?_ | refine n_int ?_ | refine n_ib ?_ | refine a_ip ?_ | refine a_rng1 ?_ | refine a_rng2 ?_ | refine a_bm ?_ | refine a_abs ?_ | refine a_pairs ?_ | refine a_pairs0 ?_ | refine a_bk ?_ | refine a_prp ?_ | refine a_lc ?_ | refine a_yes ?_ | refine a_sl ?_ | refine a_nop ?_ | refine a_prt ?_ | refine a_ex1 ?_ | refine a_for ?_ | refine a_sfor ?_ | refine a_iE1 ?_ | refine a_iEs ?_ | refine a_iEz ?_ | refine a_iEnum ?_ | refine a_iTup ?_ | refine a_iList ?_ | refine a_gcons ?_ | refine a_gnil ?_ | refine a_revT ?_ | refine a_spar3 ?_ | refine a_par3 ?_ | refine a_three ?_)
local macro_rules | `(tactic| walk_at "el2") => `(tactic| first
  | (refine a_var (by rfl) ?_)
  | (refine n_ixL (SqL.of (by assumption)) (by rfl) ?_) | (refine n_ixT (SqT.of (by assumption)) (by rfl) ?_) | (refine n_eq (by rfl) ?_) | (refine n_ne (by rfl) ?_)
  | (refine n_isN ?_) | (refine n_notN ?_) | (refine n_isB ?_) | (refine n_notB ?_) | (refine n_isBI ?_) | (refine n_notBI ?_) | (refine n_len (.inl (SqL.of (by assumption))) ?_) | (refine n_len (.inr (SqT.of (by assumption))) ?_)
  | (refine a_getL (SqL.of (by assumption)) (by rfl) ?_)
  | (refine n_isInt (by assumption) ?_) | (refine n_isBool (by assumption) ?_) | (refine n_isStr (by assumption) ?_) | (refine n_isTup (by assumption) ?_) | (refine n_isLst (by assumption) ?_))
local macro_rules | `(tactic| walk_at "el") => `(tactic| repeat (first | walk_at "el1" | walk_at "el2"))

/-! ### books -/
structure Bo (mg : Str → Option Value) : Prop where
  k_MOST_EVENTS : ∃ u, mg "MOST_EVENTS" = some u ∧ L2.RelV (.int 8) u
  k_MOST_WITNESSES : ∃ u, mg "MOST_WITNESSES" = some u ∧ L2.RelV (.int 8) u
  k_MOST_ITEMS : ∃ u, mg "MOST_ITEMS" = some u ∧ L2.RelV (.int 24) u
structure BoT (K : Frag) (w : World) (mg : Str → Option Value) (aForms aParts : Addr) : Prop extends It4 K w mg aForms aParts, Bo mg
theorem stand_th {K : Frag} {H : Hp} {wd : Str} {xs : List V} {j : Nat} {x : V} {ev wi : Int} (h : standB wd xs j x ev wi = true) : Th K H x := by
  cases x with
  | int i => exact .int i
  | str s => exact .str s
  | _ => (exfalso; simp [standB, belowB, sideB, kindB, numB] at h)
theorem ItemOk.th {K : Frag} {p : Pt} {H : Hp} {x : V} {ev wi : Int} (h : ItemOk p H x ev wi) : Th K H x ∧ ∀ a xs, x = .ref a → H a = some (.tup xs) → ∀ y ∈ xs, Th K H y := by
  obtain ⟨a, xs, rfl, ha, hl, hs⟩ := h
  refine ⟨.tup ha, fun a' xs' e ha' y hy => ?_⟩
  cases e
  rw [ha] at ha'
  cases ha'
  obtain ⟨j, hj, rfl⟩ := List.getElem_of_mem hy
  have h2 : j < p.form.length := by omega
  exact stand_th (hs j h2 _ _ (List.getElem?_eq_getElem h2) (List.getElem?_eq_getElem hj))
theorem ItemOk.same {p : Pt} {H H' : Hp} {x : V} {ev wi : Int} (h : ItemOk p H x ev wi) (s : Same H H') : ItemOk p H' x ev wi := by
  obtain ⟨a, xs, rfl, ha, hl, hs⟩ := h
  exact ⟨a, xs, rfl, s _ _ ha, hl, hs⟩
/-- a part that a book may have -/
structure PartOk (K : Frag) (p : Pt) (H : Hp) (a : Addr) (xs : List V) (ev wi : Int) : Prop where
  seq : SqA K H a xs
  len : xs.length ≤ 24
  items : ∀ x ∈ xs, ItemOk p H x ev wi
theorem PartOk.same {K : Frag} {p : Pt} {H H' : Hp} {a : Addr} {xs : List V} {ev wi : Int} (h : PartOk K p H a xs ev wi) (s : Same H H') : PartOk K p H' a xs ev wi := ⟨h.seq.same s, h.len, fun x hx => (h.items x hx).same s⟩
def spCa (K : Frag) : Sp := fun vs H Q _ => ∃ (ev wi : Int) (q t g s c : Addr) (ts gs ss cs : List V), vs = [.int ev, .int wi, .ref q] ∧ H q = some (.tup [.ref t, .ref g, .ref s, .ref c]) ∧ 0 ≤ ev ∧ ev ≤ 8 ∧ 0 ≤ wi ∧ wi ≤ 8 ∧ SqA K H t ts ∧ SqA K H g gs ∧ SqA K H s ss ∧ SqA K H c cs ∧ ∀ H', Same H H' → Q .non H'
def spCi (K : Frag) : Sp := fun vs H Q _ => ∃ (n : Int) (p : Pt) (a : Addr) (xs : List V) (ev wi : Int), vs = [.int n, .str p.name, .ref a, .int ev, .int wi] ∧ PartOk K p H a xs ev wi ∧ ∀ H', Same H H' → Q .non H'
section
variable {P : Program} {w : World} {K : Frag} {mg : Str → Option Value} {base : Heap} {f : Addr} {fd : FuncData} {aForms aParts : Addr}
theorem below_true {i n : Int} (h0 : 0 ≤ i) (h1 : i < n) : belowB (.int i) n = true := by show (decide _ && decide _) = true; rw [decide_eq_true h0, decide_eq_true h1]; rfl
theorem ok_check_arguments (F : Fun K "_check_arguments" "_check_arguments" s__check_arguments f fd) (T : BoT K w mg aForms aParts) (c_is_below : Cal P w K mg base CX0 2 "is_below" ["thing", "many"] (spBelow K)) :
    FnOk P w K mg base CX0 3 f fd ["events", "witnesses", "parts"] (spCa K) := by
  refine F.ok sc__check_arguments (fun vs H Q E h => ?_) (fun cdv A outer s H vs Q E hr h => ?_)
  · obtain ⟨_, _, _, _, _, _, _, _, _, _, _, rfl, _⟩ := h
    rfl
  · obtain ⟨ev, wi, q, t, g, s, c, ts, gs, ss, cs, rfl, hq, e0, e8, w0, w8, ht, hg, hs, hc, k⟩ := h
    refine ⟨_, (pss_cons (ps_if (pt_not (pt_val (pe_cal c_is_below (hr.mono (by decide)) pass0 (pa_cons (pv 0) (pa_cons (pe_op u_add (pe_gc (v := .int 8) rfl T.k_MOST_EVENTS) pe_int) pa_nil)))))
    (pss_one ps_never)
    pss_nil)
  (pss_cons (ps_if (pt_not (pt_val (pe_cal c_is_below (hr.mono (by decide)) pass0 (pa_cons (pv 1) (pa_cons (pe_op u_add (pe_gc (v := .int 8) rfl T.k_MOST_WITNESSES) pe_int) pa_nil)))))
    (pss_one ps_never)
    pss_nil)
  (pss_one (ps_for PassesOwn.never rfl (pi_es rfl T.b.enumerate_ (pa_cons (pv 2) pa_nil) (by decide) (by decide)) (pg_tup rfl (pgs_cons (pg_name (i := 3) sc__check_arguments.nd rfl (Or.inl rfl)) (pgs_cons (pg_name (i := 4) sc__check_arguments.nd rfl (Or.inl rfl)) pgs_nil)))
    (pss_one (ps_if (pt_not (pt_val (pe_callB u_isi rfl T.b.isinstance_ boot_isinstance (pa_cons (pv 4) (pa_cons (pe_tup (pa_cons (pe_bltn (v := V.ty "list") rfl T.b.list_ (by decide +kernel) rfl) (pa_cons (pe_bltn (v := V.ty "tuple") rfl T.b.tuple_ (by decide +kernel) rfl) pa_nil))) pa_nil)))))
    (pss_one ps_never)
    pss_nil)))))), ?_⟩
    walk_at "el"
    refine ⟨.int ev, 9, rfl, .int ev, fun H1 s1 => ?_⟩
    rw [below_true e0 (by omega)]
    walk_at "el"
    refine ⟨.int wi, 9, rfl, .int wi, fun H2 s2 => ?_⟩
    rw [below_true w0 (by omega)]
    walk_at "el"
    have s12 := s1.trans s2
    refine ⟨q, _, rfl, SqT.of (s12 _ _ hq), ?_⟩
    have all : ∀ (i : Nat) (x : V), [V.ref t, V.ref g, V.ref s, V.ref c][i]? = some x → ∃ a xs, x = .ref a ∧ SqA K H a xs := by
      intro i x hx
      rcases i with _ | _ | _ | _ | i <;> cases hx
      · exact ⟨_, _, rfl, ht⟩
      · exact ⟨_, _, rfl, hg⟩
      · exact ⟨_, _, rfl, hs⟩
      · exact ⟨_, _, rfl, hc⟩
    refine lp_it walk_es (fun i σ H3 => Same H H3 ∧ ∃ v3 v4, σ = [some (.int ev), some (.int wi), some (.ref q), v3, v4]) ⟨s12, _, _, rfl⟩ (fun i σ H3 hi h => SqT.of (h.1 _ _ hq)) ?_ ?_
    · rintro i x σ H3 H4 hi ⟨s3, v3, v4, rfl⟩ ⟨r, y, rfl, hr, rfl, hy⟩
      obtain ⟨a, xs, rfl, ha⟩ := all i y hy
      have s4 := L2.Same.nw (o := .tup [.int ((2 : Int) + i), .ref a]) s3 hr
      refine a_gtup (SqT.of upd_same) rfl ?_
      walk_at "el"
      refine ⟨by show 2 ≤ sizeLine; decide, fun r2 hr2 => ?_⟩
      have s5 := L2.Same.nw (o := .tup [.ty "list", .ty "tuple"]) s4 hr2
      walk_at "el"
      refine (ha.same s5).isLT upd_same ?_
      walk_at "el"
      exact ⟨s5, _, _, rfl⟩
    · rintro σ H3 ⟨s3, v3, v4, rfl⟩
      exact k _ s3
theorem ok_check_items (F : Fun K "_check_items" "_check_items" s__check_items f fd) (T : BoT K w mg aForms aParts) (c_is_item : Cal P w K mg base CX0 5 "is_item" ["part", "thing", "events", "witnesses"] (spItem K)) :
    FnOk P w K mg base CX0 6 f fd ["place", "part", "items", "events", "witnesses"] (spCi K) := by
  refine F.ok sc__check_items (fun vs H Q E h => ?_) (fun cdv A outer s H vs Q E hr h => ?_)
  · obtain ⟨_, _, _, _, _, _, rfl, _⟩ := h
    rfl
  · obtain ⟨n, p, a, xs, ev, wi, rfl, hp, k⟩ := h
    refine ⟨_, (pss_cons (ps_if (pt_cmpR op_gt (pe_callB u_len rfl T.b.len_ boot_len (pa_cons (pv 2) pa_nil)) (pe_gc (v := .int 24) rfl T.k_MOST_ITEMS) (nomark _))
    (pss_one ps_never)
    pss_nil)
  (pss_one (ps_for PassesOwn.never rfl (PI.alt (pi_enum rfl T.b.enumerate_ (pa_cons (pv 2) pa_nil)) (pi_e1 rfl T.b.enumerate_ (pa_cons (pv 2) pa_nil))) (pg_tup rfl (pgs_cons (pg_name (i := 5) sc__check_items.nd rfl (Or.inl rfl)) (pgs_cons (pg_name (i := 6) sc__check_items.nd rfl (Or.inl rfl)) pgs_nil)))
    (pss_one (ps_if (pt_not (pt_val (pe_cal c_is_item (hr.mono (by decide)) pass0 (pa_cons (pv 1) (pa_cons (pv 6) (pa_cons (pv 3) (pa_cons (pv 4) pa_nil)))))))
    (pss_one ps_never)
    pss_nil))))), ?_⟩
    walk_at "el"
    refine n_len hp.seq.len ?_
    walk_at "el"
    have hn : decide ((xs.length : Int) > 24) = false := decide_eq_false (by have q := hp.len; omega)
    rw [hn]
    walk_at "el"
    rcases hp.seq with ha | ha
    · refine Or.inl ?_
      walk_at "el"
      refine ⟨a, xs, rfl, SqL.of ha, ?_⟩
      refine lp_it walk_enum (fun i σ H3 => Same H H3 ∧ ∃ v3 v4, σ = [some (.int n), some (.str p.name), some (.ref a), some (.int ev), some (.int wi), v3, v4]) ⟨Same.refl _, _, _, rfl⟩ (fun i σ H3 hi h => SqL.of (h.1 _ _ ha)) ?_ ?_
      · rintro i x σ H3 H4 hi ⟨s3, v3, v4, rfl⟩ ⟨r, _, y, rfl, hr, rfl, ei, hy⟩
        cases ei
        have s4 := L2.Same.nw (o := .tup [.int i, y]) s3 hr
        have io := (hp.items y (List.mem_of_getElem? hy)).same s4
        refine a_gtup (SqT.of upd_same) rfl ?_
        walk_at "el"
        refine ⟨p, y, ev, wi, rfl, io.th.1, io.th.2, fun H5 b s5 hb => ?_⟩
        rw [hb.mpr io]
        walk_at "el"
        exact ⟨s4.trans s5, _, _, rfl⟩
      · rintro σ H3 ⟨s3, v3, v4, rfl⟩
        exact k _ s3
    · refine Or.inr ?_
      walk_at "el"
      refine ⟨a, xs, rfl, ha, ?_⟩
      refine lp_it walk_es (fun i σ H3 => Same H H3 ∧ ∃ v3 v4, σ = [some (.int n), some (.str p.name), some (.ref a), some (.int ev), some (.int wi), v3, v4]) ⟨Same.refl _, _, _, rfl⟩ (fun i σ H3 hi h => ha.same h.1) ?_ ?_
      · rintro i x σ H3 H4 hi ⟨s3, v3, v4, rfl⟩ ⟨r, y, rfl, hr, rfl, hy⟩
        have s4 := L2.Same.nw (o := .tup [.int ((0 : Int) + i), y]) s3 hr
        have io := (hp.items y (List.mem_of_getElem? hy)).same s4
        refine a_gtup (SqT.of upd_same) rfl ?_
        walk_at "el"
        refine ⟨p, y, ev, wi, rfl, io.th.1, io.th.2, fun H5 b s5 hb => ?_⟩
        rw [hb.mpr io]
        walk_at "el"
        exact ⟨s4.trans s5, _, _, rfl⟩
      · rintro σ H3 ⟨s3, v3, v4, rfl⟩
        exact k _ s3
/-- a book, its parts told by their addresses -/
def bookO (C dx : Addr) (ev wi : Int) (t g s c : Addr) : HO := .ins C dx [("_events", .int ev), ("_witnesses", .int wi), ("_tellings", .ref t), ("_gaps", .ref g), ("_sure", .ref s), ("_clauses", .ref c)]
structure BkC (K : Frag) (C : Addr) : Prop where
  own : OwnC K C
  n0 : NoAttr K C "_events"
  n1 : NoAttr K C "_witnesses"
  n2 : NoAttr K C "_tellings"
  n3 : NoAttr K C "_gaps"
  n4 : NoAttr K C "_sure"
  n5 : NoAttr K C "_clauses"
def spInit (K : Frag) (C : Addr) : Sp := fun vs H Q _ => ∃ (o dx : Addr) (ev wi : Int) (t g s c : Addr) (ts gs ss cs : List V), vs = [.ref o, .int ev, .int wi, .ref t, .ref g, .ref s, .ref c] ∧ H o = some (.ins C dx []) ∧ 0 ≤ ev ∧ ev ≤ 8 ∧ 0 ≤ wi ∧ wi ≤ 8 ∧
  PartOk K .tel H t ts ev wi ∧ PartOk K .gap H g gs ev wi ∧ PartOk K .sur H s ss ev wi ∧ PartOk K .cla H c cs ev wi ∧
  ∀ H' t' g' s' c', Kp o H H' → H' o = some (bookO C dx ev wi t' g' s' c') → SqT K H' t' ts → SqT K H' g' gs → SqT K H' s' ss → SqT K H' c' cs → Q .non H'
theorem ok_init {dvs : List V} {C : Addr} (F : FunD K "__init__" "Book.__init__" (defArgs s_Book_init) (defBody s_Book_init) (defScope s_Book_init) dvs [] f fd) (T : BoT K w mg aForms aParts) (B : BkC K C)
    (c__check_arguments : Cal P w K mg base CX0 3 "_check_arguments" ["events", "witnesses", "parts"] (spCa K)) (c__check_items : Cal P w K mg base CX0 6 "_check_items" ["place", "part", "items", "events", "witnesses"] (spCi K)) :
    FnOk P w K mg base CX0 7 f fd ["self", "events", "witnesses", "tellings", "gaps", "sure", "clauses"] (spInit K C) := by
  refine F.ok sc_Book_init (fun vs H Q E h => ?_) (fun cdv A outer s H vs Q E hr h => ?_)
  · obtain ⟨_, _, _, _, _, _, _, _, _, _, _, _, rfl, _⟩ := h
    rfl
  · obtain ⟨o, dx, ev, wi, t, g, s, c, ts, gs, ss, cs, rfl, ho, e0, e8, w0, w8, ht, hg, hs, hc, k⟩ := h
    refine ⟨_, PSs.nox (pss_cons (ps_set (i := 7) sc_Book_init.nd rfl (Or.inl rfl) (pe_tup (pa_cons (pv 3) (pa_cons (pv 4) (pa_cons (pv 5) (pa_cons (pv 6) pa_nil))))))
  (pss_cons (ps_expr (pe_cal c__check_arguments (hr.mono (by decide)) pass0 (pa_cons (pv 1) (pa_cons (pv 2) (pa_cons (pv 7) pa_nil)))))
  (pss_cons (ps_for PassesOwn.never rfl (pi_ez rfl T.b.enumerate_ rfl T.b.zip_ (pa_cons (pe_glob (v := .ref aParts) rfl T.gParts rfl) (pa_cons (pv 7) pa_nil)) (by decide) (by decide)) (pg_tup rfl (pgs_cons (pg_name (i := 8) sc_Book_init.nd rfl (Or.inl rfl)) (pgs_cons (pg_tup rfl (pgs_cons (pg_name (i := 9) sc_Book_init.nd rfl (Or.inl rfl)) (pgs_cons (pg_name (i := 10) sc_Book_init.nd rfl (Or.inl rfl)) pgs_nil))) pgs_nil)))
    (pss_one (ps_expr (pe_cal c__check_items (hr.mono (by decide)) pass0 (pa_cons (pv 8) (pa_cons (pv 9) (pa_cons (pv 10) (pa_cons (pv 1) (pa_cons (pv 2) pa_nil)))))))))
  (pss_cons (ps_fld (pv 0) (pv 1) rfl)
  (pss_cons (ps_fld (pv 0) (pv 2) rfl)
  (pss_cons (ps_fld (pv 0) (pe_callTy u_tuple rfl T.b.tuple_ (by decide +kernel) (pa_cons (pv 3) pa_nil)) rfl)
  (pss_cons (ps_fld (pv 0) (pe_callTy u_tuple rfl T.b.tuple_ (by decide +kernel) (pa_cons (pv 4) pa_nil)) rfl)
  (pss_cons (ps_fld (pv 0) (pe_callTy u_tuple rfl T.b.tuple_ (by decide +kernel) (pa_cons (pv 5) pa_nil)) rfl)
  (pss_one (ps_fld (pv 0) (pe_callTy u_tuple rfl T.b.tuple_ (by decide +kernel) (pa_cons (pv 6) pa_nil)) rfl)))))))))), ?_⟩
    walk_at "el"
    refine ⟨by show 4 ≤ sizeLine; decide, fun q hq => ?_⟩
    have s1 := L2.Same.nw (o := .tup [.ref t, .ref g, .ref s, .ref c]) (Same.refl H) hq
    walk_at "el"
    refine ⟨ev, wi, q, t, g, s, c, ts, gs, ss, cs, rfl, upd_same, e0, e8, w0, w8, ht.seq.same s1, hg.seq.same s1, hs.seq.same s1, hc.seq.same s1, fun H2 s2 => ?_⟩
    have hq2 : H2 q = some (.tup [.ref t, .ref g, .ref s, .ref c]) := s2 _ _ upd_same
    have s12 := s1.trans s2
    clear s1 s2
    walk_at "el"
    refine ⟨aParts, q, _, _, rfl, T.parts _, SqT.of hq2, ?_⟩
    have all : ∀ (i : Nat) (x y : V), [V.str "tellings", V.str "gaps", V.str "sure", V.str "clauses"][i]? = some x → [V.ref t, V.ref g, V.ref s, V.ref c][i]? = some y → ∃ p a xs, x = .str (Pt.name p) ∧ y = .ref a ∧ PartOk K p H a xs ev wi := by
      intro i x y hx hy
      rcases i with _ | _ | _ | _ | i <;> cases hx <;> cases hy
      · exact ⟨.tel, _, _, rfl, rfl, ht⟩
      · exact ⟨.gap, _, _, rfl, rfl, hg⟩
      · exact ⟨.sur, _, _, rfl, rfl, hs⟩
      · exact ⟨.cla, _, _, rfl, rfl, hc⟩
    refine lp_it (walk_ez (xs := [.str "tellings", .str "gaps", .str "sure", .str "clauses"]) (ys := [.ref t, .ref g, .ref s, .ref c]) rfl) (fun i σ H3 => Same H H3 ∧ H3 q = some (.tup [.ref t, .ref g, .ref s, .ref c]) ∧ ∃ v3 v4 v5, σ = [some (.ref o), some (.int ev), some (.int wi), some (.ref t), some (.ref g), some (.ref s), some (.ref c), some (.ref q), v3, v4, v5]) ⟨s12, hq2, _, _, _, rfl⟩ (fun i σ H3 hi h => ⟨T.parts _, SqT.of h.2.1⟩) ?_ ?_
    · rintro i x σ H3 H4 hi ⟨s3, hq3, v3, v4, v5, rfl⟩ ⟨r0, r1, x0, y0, rfl, hr0, hr1, ne, rfl, hx, hy⟩
      obtain ⟨p, a, xs, rfl, rfl, hp⟩ := all i _ _ hx hy
      have s4 := L2.Same.nw (o := .tup [.str p.name, .ref a]) (Same.refl H3) hr0
      have s5 := L2.Same.nw (H1 := upd H3 r0 (.tup [.str p.name, .ref a])) (o := .tup [.int ((2 : Int) + i), .ref r0]) s4 (by rw [upd_ne (Ne.symm ne)]; exact hr1)
      have s35 := s3.trans s5
      refine a_gtup (SqT.of upd_same) rfl ?_
      walk_at "el"
      refine a_gtup (SqT.of (by rw [upd_ne ne]; exact upd_same)) rfl ?_
      walk_at "el"
      refine ⟨_, p, a, xs, ev, wi, rfl, hp.same s35, fun H6 s6 => ?_⟩
      walk_at "el"
      exact ⟨s35.trans s6, s6 _ _ (s5 _ _ hq3), _, _, _, rfl⟩
    · rintro σ H3 ⟨s3, _, v3, v4, v5, rfl⟩
      have o3 := s3 _ _ ho
      have k0 : Kp o H H3 := same_kp s3
      clear all hq2 s12
      walk_at "el"
      refine ⟨o, C, dx, _, rfl, o3, B.own.cl, B.n0, by decide, ?_⟩
      walk_at "el"
      refine ⟨o, C, dx, _, rfl, upd_same, B.own.cl, B.n1, by show 1 < 1000; decide, ?_⟩
      walk_at "el"
      have k1 : Kp o H (upd (upd H3 o (.ins C dx (putF "_events" (.int ev) []))) o (.ins C dx (putF "_witnesses" (.int wi) (putF "_events" (.int ev) [])))) := k0.bag.bag
      refine n_tuple (ht.seq.kp ho k1) fun t' H4 s4 ht' => ?_
      have o4 := s4 _ _ upd_same
      have k2 := k1.trans (same_kp s4)
      clear k1 s4 o3 k0
      walk_at "el"
      refine ⟨o, C, dx, _, rfl, o4, B.own.cl, B.n2, by show 2 < 1000; decide, ?_⟩
      walk_at "el"
      have k3 := k2.bag (o := .ins C dx (putF "_tellings" (.ref t') (putF "_witnesses" (.int wi) (putF "_events" (.int ev) []))))
      have ht1 := SqT.kp ht' o4 (Kp.bag (Kp.refl o H4) (o := .ins C dx (putF "_tellings" (.ref t') (putF "_witnesses" (.int wi) (putF "_events" (.int ev) [])))))
      refine n_tuple (hg.seq.kp ho k3) fun g' H5 s5 hg' => ?_
      have o5 := s5 _ _ upd_same
      have k4 := k3.trans (same_kp s5)
      have ht2 := ht1.same s5
      clear k3 s5 o4 k2 ht1 ht'
      walk_at "el"
      refine ⟨o, C, dx, _, rfl, o5, B.own.cl, B.n3, by show 3 < 1000; decide, ?_⟩
      walk_at "el"
      generalize hfs : putF "_gaps" (.ref g') (putF "_tellings" (.ref t') (putF "_witnesses" (.int wi) (putF "_events" (.int ev) []))) = fs4
      have k5 := k4.bag (o := .ins C dx fs4)
      have kk := Kp.bag (Kp.refl o H5) (o := .ins C dx fs4)
      refine n_tuple (hs.seq.kp ho k5) fun s' H6 s6 hs' => ?_
      have o6 := s6 _ _ upd_same
      have k6 := k5.trans (same_kp s6)
      have ht3 := (SqT.kp ht2 o5 kk).same s6
      have hg3 := (SqT.kp hg' o5 kk).same s6
      clear k5 s6 o5 k4 ht2 hg' kk
      walk_at "el"
      refine ⟨o, C, dx, _, rfl, o6, B.own.cl, B.n4, by subst hfs; show 4 < 1000; decide, ?_⟩
      walk_at "el"
      generalize hfs5 : putF "_sure" (.ref s') fs4 = fs5
      have k7 := k6.bag (o := .ins C dx fs5)
      have kk := Kp.bag (Kp.refl o H6) (o := .ins C dx fs5)
      refine n_tuple (hc.seq.kp ho k7) fun c' H7 s7 hc' => ?_
      have o7 := s7 _ _ upd_same
      have k8 := k7.trans (same_kp s7)
      have ht4 := (SqT.kp ht3 o6 kk).same s7
      have hg4 := (SqT.kp hg3 o6 kk).same s7
      have hs4 := (SqT.kp hs' o6 kk).same s7
      clear k7 s7 o6 k6 ht3 hg3 hs' kk
      walk_at "el"
      refine ⟨o, C, dx, _, rfl, o7, B.own.cl, B.n5, by subst hfs5; subst hfs; show 5 < 1000; decide, ?_⟩
      walk_at "el"
      have kk := Kp.bag (Kp.refl o H7) (o := .ins C dx (putF "_clauses" (.ref c') fs5))
      refine k _ t' g' s' c' (k8.trans kk) ?_ (SqT.kp ht4 o7 kk) (SqT.kp hg4 o7 kk) (SqT.kp hs4 o7 kk) (SqT.kp hc' o7 kk)
      rw [upd_same]
      subst hfs5
      subst hfs
      rfl
end
end EL

/- part L -/
namespace EL
open PySem PySem.Spec PyProof.Rows L2
open PySem.W (Frag)
abbrev s_bag : Stmt := top 39
abbrev N_bag : List Str := ["_law_script", "_law_cell"]
theorem sc_bag : FnScope N_bag ["_law_script"] (defScope s_bag) := ⟨rfl, rfl, rfl, by decide +kernel, rfl, by decide +kernel, by decide +kernel⟩
abbrev s_one : Stmt := top 41
abbrev N_one : List Str := ["_law_bag_here", "_law_menu"]
theorem sc_one : FnScope N_one ["_law_bag_here", "_law_menu"] (defScope s_one) := ⟨rfl, rfl, rfl, by decide +kernel, rfl, by decide +kernel, by decide +kernel⟩
local macro_rules | `(tactic| walk_at "el1") => `(tactic| with_reducible first
  | refine a_sasg ?_ | refine a_sdrop ?_ | refine a_saugS ?_ | refine a_spar ?_ | refine a_seq ?_ | refine a_asg ?_ | refine a_drop ?_ | refine a_ret ?_ | refine a_if ?_ | refine a_next ?_
  | refine a_op ?_ | refine a_cons ?_ | refine a_nil ?_ | refine a_cb ?_ | refine a_call ?_ | refine a_c ?_ | refine a_gn ?_ | refine a_nx ?_ | refine a_rt ?_ | refine a_un ?_
  | refine a_test ?_ | refine a_B ?_ | refine a_bl ?_ | refine a_and ?_ | refine a_or ?_ | refine a_not ?_ | refine a_andV ?_ | refine a_orV ?_ | refine a_notV ?_ | refine a_ifx ?_ | refine a_chain ?_
  | refine a_nT ?_ | refine a_nF ?_ | refine a_fld ?_ | refine a_getF ?_ | refine a_T ?_ | refine a_F ?_ | refine a_tup ?_ | refine a_lst ?_ | refine a_sub ?_ | refine a_augS ?_ | refine a_two ?_ | refine a_I0 ?_ | refine a_U ?_ | refine n_add ?_ | refine n_int ?_ | refine n_ib ?_ | refine a_ip ?_ | refine a_rng1 ?_ | refine a_rng2 ?_ | refine a_bm ?_ | refine a_abs ?_ | refine a_pairs ?_ | refine a_pairs0 ?_ | refine a_bk ?_ | refine a_prp ?_ | refine a_lc ?_ | refine a_yes ?_ | refine a_sl ?_ | refine a_nop ?_ | refine a_prt ?_ | refine a_ex1 ?_ | refine a_for ?_ | refine a_sfor ?_ | refine a_iE1 ?_ | refine a_iEs ?_ | refine a_iEz ?_ | refine a_iEnum ?_ | refine a_iTup ?_ | refine a_iList ?_ | refine a_gcons ?_ | refine a_gnil ?_ | refine a_revT ?_ | refine a_spar3 ?_ | refine a_par3 ?_ | refine a_three ?_)
local macro_rules | `(tactic| walk_at "el2") => `(tactic| first
  | (refine a_var (by rfl) ?_)
  | (refine n_ixL (SqL.of (by assumption)) (by rfl) ?_) | (refine n_ixT (SqT.of (by assumption)) (by rfl) ?_) | (refine n_eq (by rfl) ?_) | (refine n_ne (by rfl) ?_)
  | (refine n_isN ?_) | (refine n_notN ?_) | (refine n_isB ?_) | (refine n_notB ?_) | (refine n_isBI ?_) | (refine n_notBI ?_) | (refine n_len (.inl (SqL.of (by assumption))) ?_) | (refine n_len (.inr (SqT.of (by assumption))) ?_)
  | (refine a_getL (SqL.of (by assumption)) (by rfl) ?_)
  | (refine n_isInt (by assumption) ?_) | (refine n_isBool (by assumption) ?_) | (refine n_isStr (by assumption) ?_) | (refine n_isTup (by assumption) ?_) | (refine n_isLst (by assumption) ?_))
local macro_rules | `(tactic| walk_at "el") => `(tactic| repeat (first | walk_at "el1" | walk_at "el2"))

/-! ### the bag is made; one of a menu -/
def spBag (K : Frag) : Sp := fun vs H Q _ => ∃ (a : Addr) (ns : List Int), vs = [.ref a] ∧ SqL K H a (ns.map V.int) ∧ ∀ b c H', H b = none → H c = none → Bag H' b c → Same H H' → Q (.ref b) H'
def spOne (K : Frag) : Sp := fun vs H Q _ => ∃ (b c m : Addr) (xs : List V), vs = [.ref b, .ref m] ∧ Bag H b c ∧ m ≠ b ∧ SqA K H m xs ∧ 0 < xs.length ∧ xs.length ≤ 1000000000 ∧ ∀ x H', x ∈ xs → Bag H' b c → Kp b H H' → Q x H'
theorem cut_map {α : Type} (f : α → V) (ns : List α) (lo hi : Option Int) : ∃ ms : List α, cutV (ns.map f) lo hi = ms.map f ∧ ms.length ≤ ns.length := by
  unfold cutV
  refine ⟨(ns.drop (HT.sIx (ns.map f).length 0 lo)).take (HT.sIx (ns.map f).length (ns.map f).length hi - HT.sIx (ns.map f).length 0 lo), by rw [List.map_take, List.map_drop], ?_⟩
  rw [List.length_take, List.length_drop]
  omega
theorem atI_mem {xs : List V} {k : Int} {x : V} (h : atI xs k = some x) : x ∈ xs := by
  obtain ⟨j, h1, h2, _⟩ := atI_get h
  exact List.mem_of_getElem? h2
theorem cut_len63 (xs : List V) : (cutV xs none (some 63)).length ≤ 63 := by
  unfold cutV
  rw [List.length_take]
  refine Nat.le_trans (Nat.min_le_left _ _) ?_
  show min (63 : Int).toNat xs.length - 0 ≤ 63
  have q : (63 : Int).toNat = 63 := rfl
  omega
section
variable {P : Program} {w : World} {K : Frag} {mg : Str → Option Value} {base : Heap} {f : Addr} {fd : FuncData}
theorem ok_bag (F : Fun K "_law_bag" "_law_bag" s_bag f fd) (T : Tb mg) : FnOk P w K mg base CX0 1 f fd ["_law_script"] (spBag K) := by
  refine F.ok sc_bag (fun vs H Q E h => ?_) (fun cdv A outer s H vs Q E hr h => ?_)
  · obtain ⟨_, _, rfl, _⟩ := h
    rfl
  · obtain ⟨a, ns, rfl, ha, k⟩ := h
    refine ⟨_, (pss_one (ps_ret (pe_lst (pa_cons pe_int (pa_cons pe_int (pa_cons pe_int (pa_cons (pe_lc (own := [("_law_cell", 1)]) rfl sc_bag.nd (u_iter (pe_slice u_slice (pv 0) po_none (po_some pe_int))) (blkOk_by (own := [("_law_cell", 1)]) (N := N_bag) (sc := defScope s_bag) (by decide +kernel)) (fun _ _ _ _ _ => (pg_name (i := 1) sc_bag.nd rfl (Or.inl rfl))) (fun _ _ _ _ _ => pts_nil) (fun _ _ _ _ _ => (pe_callB call_abs rfl T.b.abs_ (by decide +kernel) (pa_cons (pv 1) pa_nil)))) pa_nil))))))), ?_⟩
    walk_at "el"
    refine a_iSeq (.inl ?_)
    walk_at "el"
    refine .inl ⟨a, _, rfl, ha, fun p hp => ?_⟩
    obtain ⟨ms, em, lm⟩ := cut_map V.int ns none (some 63)
    have l63 := cut_len63 (ns.map V.int)
    rw [em] at l63 ⊢
    rw [List.length_map] at l63
    have s1 := L2.Same.nw (o := .lst (ms.map V.int)) (Same.refl H) hp
    refine ⟨p, rfl, ⟨_, SqL.of upd_same⟩, fun D hD => ?_⟩
    have hDp : D ≠ p := fun z => by subst z; rw [upd_same] at hD; cases hD
    have hD0 : H D = none := s1.free hD
    refine lc_of (walk_list (xs := ms.map V.int)) (fun i H3 => Same H H3 ∧ H3 p = some (.lst (ms.map V.int)) ∧ ∃ cs : List Int, H3 D = some (.lst (cs.map V.int)) ∧ cs.length = i ∧ ∀ x ∈ cs, 0 ≤ x) ⟨s1.nw hD, by rw [upd_ne hDp.symm]; exact upd_same, [], upd_same, rfl, fun _ h => nomatch h⟩ (fun i H3 hi h => SqL.of h.2.1) ?_ ?_
    · rintro i x H3 H4 hi ⟨s3, hp3, cs, hD3, hl, hc⟩ ⟨rfl, hx⟩
      rw [List.length_map] at hi
      rw [List.getElem?_map, List.getElem?_eq_getElem hi] at hx
      cases hx
      walk_at "el"
      refine ⟨rfl, ?_⟩
      walk_at "el"
      refine ⟨_, hD3, by rw [List.length_map, hl]; exact Nat.lt_of_lt_of_le (m := 63) (by omega) (by decide), ?_⟩
      refine ⟨s3.mu hD0, by rw [upd_ne hDp.symm]; exact hp3, cs ++ [if ms[i] < 0 then -ms[i] else ms[i]], by rw [upd_same, List.map_append]; rfl, by rw [List.length_append, hl]; rfl, ?_⟩
      intro x hx
      rcases List.mem_append.mp hx with h | h
      · exact hc x h
      · cases List.mem_singleton.mp h
        split <;> omega
    · rintro H3 ⟨s3, hp3, cs, hD3, hl, hc⟩
      walk_at "el"
      refine ⟨by show 4 ≤ sizeLine; decide, fun b hb => ?_⟩
      have hbD : D ≠ b := fun z => by subst z; rw [hD3] at hb; cases hb
      exact k b D _ (s3.free hb) hD0 ⟨0, 1234567891, 0, cs, upd_same, by rw [upd_ne hbD]; exact hD3, hbD, by decide, by decide, by decide, by decide, hc⟩ (s3.nw hb)
theorem ok_one (F : Fun K "_law_one" "_law_one" s_one f fd) (T : Tb mg) (c_take : Cal P w K mg base CX0 1 "_law_take" ["_law_bag_here", "_law_many"] spTake) : FnOk P w K mg base CX0 2 f fd ["_law_bag_here", "_law_menu"] (spOne K) := by
  refine F.ok sc_one (fun vs H Q E h => ?_) (fun cdv A outer s H vs Q E hr h => ?_)
  · obtain ⟨_, _, _, _, rfl, _⟩ := h
    rfl
  · obtain ⟨b, c, m, xs, rfl, hb, hm, hs, h0, h1, k⟩ := h
    refine ⟨_, (pss_one (ps_ret (pe_ix ix_seq (pv 1) (pe_cal c_take (hr.mono (by decide)) pass0 (pa_cons (pv 0) (pa_cons (pe_callB u_len rfl T.b.len_ boot_len (pa_cons (pv 1) pa_nil)) pa_nil))) (fun _ _ => rfl)))), ?_⟩
    walk_at "el"
    refine n_len hs.len ?_
    walk_at "el"
    refine ⟨b, c, xs.length, rfl, hb, by omega, by omega, fun r H1 r0 r1 hb1 k1 => ?_⟩
    obtain ⟨x, hx⟩ : ∃ x, atI xs r = some x := by
      obtain ⟨n, rfl⟩ : ∃ n : Nat, r = n := ⟨r.toNat, by omega⟩
      have hn : n < xs.length := by omega
      exact ⟨xs[n], atI_nat (List.getElem?_eq_getElem hn)⟩
    have hm1 : SqA K H1 m xs := by
      rcases hs with h | (h | ⟨o, h⟩) | h
      · exact .inl (k1 _ _ hm h)
      · exact .inr (.inl (.inl (k1 _ _ hm h)))
      · exact .inr (.inl (.inr ⟨o, k1 _ _ hm h⟩))
      · exact .inr (.inr h)
    walk_at "el"
    rcases hm1 with h | h
    · refine n_ixL (SqL.of h) hx ?_
      exact k x _ (atI_mem hx) hb1 k1
    · refine n_ixT h hx ?_
      exact k x _ (atI_mem hx) hb1 k1
end
end EL

/- part G -/
namespace EL
open PySem PySem.Spec PyProof.Rows L2
open PySem.W (Frag)
/-! ### Book(..) as a call -/
abbrev psBook : List Str := ["self", "events", "witnesses", "tellings", "gaps", "sure", "clauses"]
structure BookD where
  f : Addr
  fd : FuncData
  d1 : Addr
  d2 : Addr
  d3 : Addr
  d4 : Addr
  ds : List Value
  ds4 : List Value
  ds3 : List Value
structure BookG (P : Program) (w : World) (K : Frag) (mg : Str → Option Value) (base : Heap) (C : Addr) (D : BookD) : Prop where
  made : Mk K C D.f
  fn : FnOk P w K mg base CX0 7 D.f D.fd psBook (spInit K C)
  b6 : L2.Binds K D.fd psBook []
  v2 : Vals [.ref D.d1, .ref D.d2, .ref D.d3, .ref D.d4] D.ds
  b2 : L2.Binds K D.fd psBook D.ds
  v4 : Vals [.ref D.d3, .ref D.d4] D.ds4
  b4 : L2.Binds K D.fd psBook D.ds4
  v3 : Vals [.ref D.d2, .ref D.d3, .ref D.d4] D.ds3
  b3 : L2.Binds K D.fd psBook D.ds3
  dflt : ∀ H, SqT K H D.d1 [] ∧ SqT K H D.d2 [] ∧ SqT K H D.d3 [] ∧ SqT K H D.d4 []
  g : mg "Book" = some (.ref C)
  c : BkC K C
/-- a new book, its parts tuples -/
def NewBook (K : Frag) (C : Addr) (ev wi : Int) (ts gs ss cs : List V) (H1 : Hp) (Q : VK) : Prop :=
  ∀ o dx t g s c H', Same H1 H' → H1 o = none → H' o = some (bookO C dx ev wi t g s c) → SqT K H' t ts → SqT K H' g gs → SqT K H' s ss → SqT K H' c cs → Q (.ref o) H'
theorem made_same {H1 H' : Hp} {x dx C : Addr} (nx : H1 x = none) (nd : H1 dx = none) (k : Kp x (upd (upd H1 dx (.own x)) x (.ins C dx [])) H') : Same H1 H' := fun a o e =>
  k a o (ne_of_none e nx) (by rw [upd_ne (ne_of_none e nx), upd_ne (ne_of_none e nd)]; exact e)
/-- what a making asks -/
def MkB (K : Frag) (C : Addr) (dvs vs : List V) (H1 : Hp) (Q : VK) : Prop := ∀ x dx, H1 x = none → H1 dx = none → dx ≠ x → spInit K C (.ref x :: (vs ++ dvs)) (upd (upd H1 dx (.own x)) x (.ins C dx [])) (fun v H2 => v = .non ∧ Q (.ref x) H2) E0
def tBk (K : Frag) (C : Addr) (dvs : List V) (t : TA) : TE := fun σ H Q => t σ H fun vs H1 => MkB K C dvs vs H1 Q
section
variable {X : Cx} {C : Addr} {D : BookD} {pos p : Pos} {e : Expr} {es : List Expr} {t : TA}
theorem pe_bk2 (B : BookG X.prog X.w X.K X.mg X.base C D) (hr : Room 8 X.A) (hg : Gl X "Book") (ha : PA X (e :: es) t) (he : starEach (e :: es) X.env = (false, eval e X.env) :: starEach es X.env := by rfl) (hpl : (backTo pos (starEach es X.env)).any (·.1) = false := by rfl) :
    PE X (.Call (.Name "Book" p) (e :: es) [] pos) (tBk X.K C [.ref D.d1, .ref D.d2, .ref D.d3, .ref D.d4] t) := pe_make (p := p) (pos := pos) B.made B.fn hr hg B.g B.b2 B.v2 pass0 ha (by decide) he hpl
theorem pe_bk6 (B : BookG X.prog X.w X.K X.mg X.base C D) (hr : Room 8 X.A) (hg : Gl X "Book") (ha : PA X (e :: es) t) (he : starEach (e :: es) X.env = (false, eval e X.env) :: starEach es X.env := by rfl) (hpl : (backTo pos (starEach es X.env)).any (·.1) = false := by rfl) :
    PE X (.Call (.Name "Book" p) (e :: es) [] pos) (tBk X.K C [] t) := pe_make (p := p) (pos := pos) B.made B.fn hr hg B.g B.b6 .nil pass0 ha (by decide) he hpl
theorem pe_bk4 (B : BookG X.prog X.w X.K X.mg X.base C D) (hr : Room 8 X.A) (hg : Gl X "Book") (ha : PA X (e :: es) t) (he : starEach (e :: es) X.env = (false, eval e X.env) :: starEach es X.env := by rfl) (hpl : (backTo pos (starEach es X.env)).any (·.1) = false := by rfl) :
    PE X (.Call (.Name "Book" p) (e :: es) [] pos) (tBk X.K C [.ref D.d3, .ref D.d4] t) := pe_make (p := p) (pos := pos) B.made B.fn hr hg B.g B.b4 B.v4 pass0 ha (by decide) he hpl
theorem pe_bk3 (B : BookG X.prog X.w X.K X.mg X.base C D) (hr : Room 8 X.A) (hg : Gl X "Book") (ha : PA X (e :: es) t) (he : starEach (e :: es) X.env = (false, eval e X.env) :: starEach es X.env := by rfl) (hpl : (backTo pos (starEach es X.env)).any (·.1) = false := by rfl) :
    PE X (.Call (.Name "Book" p) (e :: es) [] pos) (tBk X.K C [.ref D.d2, .ref D.d3, .ref D.d4] t) := pe_make (p := p) (pos := pos) B.made B.fn hr hg B.g B.b3 B.v3 pass0 ha (by decide) he hpl
end
section
variable {K : Frag} {C : Addr} {σ : L2.St} {H : Hp} {Q : VK} {dvs : List V} {t : TA}
theorem a_bk (q : t σ H fun vs H1 => MkB K C dvs vs H1 Q) : tBk K C dvs t σ H Q := q
theorem PartOk.nil {p : Pt} {a : Addr} {ev wi : Int} (h : SqT K H a []) : PartOk K p H a [] ev wi := ⟨.inr h, by decide, fun _ h => nomatch h⟩
theorem new_same {x dx : Addr} (nx : H x = none) (nd : H dx = none) (ne : dx ≠ x) : Same H (upd (upd H dx (.own x)) x (.ins C dx [])) := L2.Same.nw (L2.Same.nw (Same.refl H) nd) (by rw [upd_ne ne.symm]; exact nx)
theorem n_bk6 {ev wi : Int} {t g s c : Addr} {ts gs ss cs : List V} (e0 : 0 ≤ ev) (e8 : ev ≤ 8) (w0 : 0 ≤ wi) (w8 : wi ≤ 8) (ht : PartOk K .tel H t ts ev wi) (hg : PartOk K .gap H g gs ev wi) (hs : PartOk K .sur H s ss ev wi) (hc : PartOk K .cla H c cs ev wi)
    (q : NewBook K C ev wi ts gs ss cs H Q) : MkB K C [] [.int ev, .int wi, .ref t, .ref g, .ref s, .ref c] H Q := fun x dx nx nd ne => by
  have s0 := new_same (C := C) nx nd ne
  exact ⟨x, dx, ev, wi, t, g, s, c, ts, gs, ss, cs, rfl, upd_same, e0, e8, w0, w8, ht.same s0, hg.same s0, hs.same s0, hc.same s0, fun H' t' g' s' c' k ho h1 h2 h3 h4 => ⟨rfl, q x dx t' g' s' c' H' (made_same nx nd k) nx ho h1 h2 h3 h4⟩⟩
theorem n_bk4 {D : BookD} {ev wi : Int} {t g : Addr} {ts gs : List V} (hd : ∀ H, SqT K H D.d1 [] ∧ SqT K H D.d2 [] ∧ SqT K H D.d3 [] ∧ SqT K H D.d4 []) (e0 : 0 ≤ ev) (e8 : ev ≤ 8) (w0 : 0 ≤ wi) (w8 : wi ≤ 8) (ht : PartOk K .tel H t ts ev wi) (hg : PartOk K .gap H g gs ev wi)
    (q : NewBook K C ev wi ts gs [] [] H Q) : MkB K C [.ref D.d3, .ref D.d4] [.int ev, .int wi, .ref t, .ref g] H Q := fun x dx nx nd ne => by
  have s0 := new_same (C := C) nx nd ne
  exact ⟨x, dx, ev, wi, t, g, D.d3, D.d4, ts, gs, [], [], rfl, upd_same, e0, e8, w0, w8, ht.same s0, hg.same s0, .nil (hd _).2.2.1, .nil (hd _).2.2.2,
    fun H' t' g' s' c' k ho h1 h2 h3 h4 => ⟨rfl, q x dx t' g' s' c' H' (made_same nx nd k) nx ho h1 h2 h3 h4⟩⟩
theorem n_bk3 {D : BookD} {ev wi : Int} {t : Addr} {ts : List V} (hd : ∀ H, SqT K H D.d1 [] ∧ SqT K H D.d2 [] ∧ SqT K H D.d3 [] ∧ SqT K H D.d4 []) (e0 : 0 ≤ ev) (e8 : ev ≤ 8) (w0 : 0 ≤ wi) (w8 : wi ≤ 8) (ht : PartOk K .tel H t ts ev wi)
    (q : NewBook K C ev wi ts [] [] [] H Q) : MkB K C [.ref D.d2, .ref D.d3, .ref D.d4] [.int ev, .int wi, .ref t] H Q := fun x dx nx nd ne => by
  have s0 := new_same (C := C) nx nd ne
  exact ⟨x, dx, ev, wi, t, D.d2, D.d3, D.d4, ts, [], [], [], rfl, upd_same, e0, e8, w0, w8, ht.same s0, .nil (hd _).2.1, .nil (hd _).2.2.1, .nil (hd _).2.2.2,
    fun H' t' g' s' c' k ho h1 h2 h3 h4 => ⟨rfl, q x dx t' g' s' c' H' (made_same nx nd k) nx ho h1 h2 h3 h4⟩⟩
theorem n_bk2 {D : BookD} {ev wi : Int} (hd : ∀ H, SqT K H D.d1 [] ∧ SqT K H D.d2 [] ∧ SqT K H D.d3 [] ∧ SqT K H D.d4 []) (e0 : 0 ≤ ev) (e8 : ev ≤ 8) (w0 : 0 ≤ wi) (w8 : wi ≤ 8)
    (q : NewBook K C ev wi [] [] [] [] H Q) : MkB K C [.ref D.d1, .ref D.d2, .ref D.d3, .ref D.d4] [.int ev, .int wi] H Q := fun x dx nx nd ne => by
  exact ⟨x, dx, ev, wi, D.d1, D.d2, D.d3, D.d4, [], [], [], [], rfl, upd_same, e0, e8, w0, w8, .nil (hd _).1, .nil (hd _).2.1, .nil (hd _).2.2.1, .nil (hd _).2.2.2,
    fun H' t' g' s' c' k ho h1 h2 h3 h4 => ⟨rfl, q x dx t' g' s' c' H' (made_same nx nd k) nx ho h1 h2 h3 h4⟩⟩
end
theorem Bag.same {H H' : Hp} {b c : Addr} (h : Bag H b c) (s : Same H H') : Bag H' b c := by
  obtain ⟨i, j, k, cs, h1, h2, r⟩ := h
  exact ⟨i, j, k, cs, s _ _ h1, s _ _ h2, r⟩
theorem Bag.ne {H : Hp} {b c p : Addr} (h : Bag H b c) (hp : H p = none) : p ≠ b := fun z => by
  obtain ⟨i, j, k, cs, h1, _⟩ := h
  subst z
  rw [h1] at hp
  cases hp
theorem Th.kp {K : Frag} {b c : Addr} {H H' : Hp} {x : V} (h : Th K H x) (hb : Bag H b c) (hb' : Bag H' b c) (k : Kp b H H') : Th K H' x := by
  obtain ⟨_, _, _, _, h1, _⟩ := hb
  obtain ⟨_, _, _, _, h2, _⟩ := hb'
  exact h.stay h1 h2 k
theorem all_nil {α : Type} {p : α → Prop} : ∀ x ∈ ([] : List α), p x := fun _ h => nomatch h
theorem all_cons {α : Type} {p : α → Prop} {a : α} {l : List α} (h : p a) (t : ∀ x ∈ l, p x) : ∀ x ∈ a :: l, p x := fun x hx => (List.mem_cons.mp hx).elim (fun e => e ▸ h) (t x)
theorem all_app {α : Type} {p : α → Prop} {l m : List α} (h : ∀ x ∈ l, p x) (t : ∀ x ∈ m, p x) : ∀ x ∈ l ++ m, p x := fun x hx => (List.mem_append.mp hx).elim (h x) (t x)
/-- what is new -/
def Nw (H : Hp) (p : Addr) : Prop := ∀ o, Same H (upd H p o)
theorem nw_of {H : Hp} {p : Addr} (h : H p = none) : Nw H p := fun o => L2.Same.nw (Same.refl H) h
theorem Nw.to {H : Hp} {p a : Addr} {o u : HO} (n : Nw H p) (h : H a = some u) : upd H p o a = some u := n o a u h
theorem Th.kpK {K : Frag} {b c : Addr} {H H' : Hp} {x : V} (k : Kp b H H') (hb' : Bag H' b c) (hb : Bag H b c) (h : Th K H x) : Th K H' x := h.kp hb hb' k
theorem Kp.into {b : Addr} {H H1 H2 : Hp} (q : Kp b H1 H2) (p : Same H H1) : Kp b H H2 := (same_kp p).trans q
theorem eqv_is (r : Int) (s : Str) : PyData.eqv (.tuple [.int r, .str s]) (.tuple [.int r, .str s]) = true := by simp [PyData.eqv, PyData.eqvAll]
theorem shp_is {r : Int} {s : Str} (h : PyData.strOk s = true) : SeqAt.shaped (.tuple [.int r, .str s]) = true := by
  simp [SeqAt.shaped, PyData.canLay0, PyData.canLayAll0, PyData.depth, PyData.depthAll]
  exact h
/-- what a law promises: True for each script -/
def spLaw (K : Frag) : Sp := fun vs H Q _ => ∃ (a : Addr) (ns : List Int), vs = [.ref a] ∧ SqL K H a (ns.map V.int) ∧ ∀ H', Q (.bl true) H'
theorem walk_all {l : PySem.W.OpenLaw} {k : Nat} {q : Program} {loose : List Str} {XP : (Str → Option Value) → Heap → Prop} {YP : World → Heap → Prop} {d : DefRec} {K : Params → Frag} (hn : l.most = some 63) (hdf : d.params.defaults = []) (hr : Room k PySem.callerA)
    (hY : ∀ (w : World) (h : Heap), YP w h → (K w.params).In h)
    (F : ∀ (w : World) (mg : Str → Option Value) (fa : Addr) (h : Heap), (K w.params).In h → h.Ns mainGlobals mg → mg d.name = some (.ref fa) →
      ∃ fd : FuncData, (∀ (s : Shared) (u : Value), BindsTo s fd ⟨[u], []⟩ [("_law_script", u)]) ∧ ∀ base : Heap, (K w.params).In base → base.Ns mainGlobals mg → FnG l.prog w (K w.params) mg base CX0 k fa fd ["_law_script"] (spLaw (K w.params))) :
    PySem.W.WalkO q loose XP YP l.row.toRowW d [] (fun f vs => PySem.call f vs) :=
  walk_law (n := 63) (x := "_law_script") (CX := fun _ => CX0) (sp := fun w => spLaw (K w.params)) hn (by decide) hdf hr hY F (fun _ _ a ns hl _ hS => ⟨a, ns, rfl, hS, fun _ => rfl⟩) fun _ _ _ _ _ z => z
theorem own_kit {K : PySem.W.Frag} {C : Addr} {T : String} (hm : PySem.W.kitMeta T = true) (h : PySem.W.mroIn K C (.type T) = some false) : PySem.W.kitOne K (.ref C) (.type T) = some false := by
  unfold PySem.W.kitOne
  rw [if_neg (by simp)]
  show (if PySem.W.kitMeta T = true then PySem.W.subIn K (.ref C) (.type T) else none) = _
  rw [if_pos hm]
  exact h
/-! ### the properties of a book -/
def spGet (C : Addr) (fld : Str) : Sp := fun vs H Q _ => ∃ (a dx : Addr) (fs : List (Str × V)) (v : V), vs = [.ref a] ∧ H a = some (.ins C dx fs) ∧ fs.lookup fld = some v ∧ Q v H
structure PrpG (P : Program) (w : World) (K : Frag) (mg : Str → Option Value) (base : Heap) (C : Addr) (f fld : Str) : Prop where
  ex : ∃ p g fd, PropOf K C f p g ∧ FnOk P w K mg base CX0 1 g fd ["self"] (spGet C fld) ∧ L2.Binds K fd ["self"] []
  cl : Cls K C
theorem pe_prp {X : Cx} {C : Addr} {f fld : Str} {e : Expr} {ta : TE} {pos : Pos} (G : PrpG X.prog X.w X.K X.mg X.base C f fld) (hr : Room 2 X.A) (ha : PE X e ta) (hab : attributeBase e f X.env (eval e X.env) = eval e X.env := by rfl) :
    PE X (.Attribute e f pos) (tProp C (spGet C fld) [] E0 ta) := by
  obtain ⟨p, g, fd, hp, F, hb⟩ := G.ex
  exact pe_prop ha G.cl hp F hr hb .nil pass0 hab
def PrpR (C : Addr) (fld : Str) (x : V) (H : Hp) (Q : VK) : Prop := ∃ a dx fs, x = V.ref a ∧ H a = some (.ins C dx fs) ∧ spGet C fld (V.ref a :: []) H Q E0
theorem a_prp {C : Addr} {fld : Str} {ta : TE} {σ : L2.St} {H : Hp} {Q : VK} (q : ta σ H fun x H1 => PrpR C fld x H1 Q) : tProp C (spGet C fld) [] E0 ta σ H Q := q
theorem n_prp {C a dx : Addr} {fld : Str} {fs : List (Str × V)} {v : V} {H : Hp} {Q : VK} (h : H a = some (.ins C dx fs)) (hv : fs.lookup fld = some v) (q : Q v H) : PrpR C fld (.ref a) H Q := ⟨a, dx, fs, rfl, h, a, dx, fs, v, rfl, h, hv, q⟩
theorem nn {H : Hp} {a q : Addr} {o : HO} (h : upd H a o q = none) : q ≠ a ∧ H q = none := by
  by_cases e : q = a
  · subst e
    rw [upd_same] at h
    cases h
  · rw [upd_ne e] at h
    exact ⟨e, h⟩
theorem isI_cases {x : V} (h : isI x = true) : (∃ z, x = .int z) ∨ ∃ z, x = .bl z := by
  cases x with
  | int z => exact .inl ⟨z, rfl⟩
  | bl z => exact .inr ⟨z, rfl⟩
  | _ => cases h
theorem shp_ints : ∀ (js : List Int), SeqAt.shaped (.list (js.map PyData.int)) = true := by
  intro js
  simp only [SeqAt.shaped, Bool.and_eq_true, decide_eq_true_iff]
  refine ⟨?_, ?_⟩
  · show PyData.canLayAll0 (js.map PyData.int) = true
    induction js with
    | nil => rfl
    | cons j r ih => simp only [List.map_cons, PyData.canLayAll0, PyData.canLay0, ih, Bool.and_true]
  · have q : PyData.depthAll (js.map PyData.int) ≤ 1 := by
      induction js with
      | nil => decide
      | cons j r ih => simp [PyData.depthAll, PyData.depth]; omega
    simp [PyData.depth]; omega
theorem eqv_nil (ds : List PyData) : PyData.eqv (.list ds) (.list []) = decide (ds = []) := by
  cases ds with
  | nil => simp [PyData.eqv, PyData.eqvAll]
  | cons d r => simp [PyData.eqv, PyData.eqvAll]
theorem dp_ints {K : Frag} {H : Hp} : ∀ (js : List Int), DpAll K H (js.map V.int) (js.map PyData.int)
  | [] => .nil
  | j :: r => .cons (.int j) (dp_ints r)
/-! ### data stays -/
mutual
theorem dp_same {K : Frag} {H H' : Hp} (s : Same H H') : ∀ (d : PyData) (v : V), Dp K H v d → Dp K H' v d
  | .none, _, h => by cases h; exact .non
  | .bool _, _, h => by cases h; exact .bl _
  | .int _, _, h => by cases h; exact .int _
  | .str _, _, h => by cases h; exact .str _
  | .list ds, _, h => by
    cases h with
    | lst a ha => exact .lst (Same.seq s a) (dp_sameAll s ds _ ha)
  | .tuple ds, _, h => by
    cases h with
    | tup a ha => exact .tup (a.same s) (dp_sameAll s ds _ ha)
  | .dict _, _, h => by cases h
theorem dp_sameAll {K : Frag} {H H' : Hp} (s : Same H H') : ∀ (ds : List PyData) (vs : List V), DpAll K H vs ds → DpAll K H' vs ds
  | [], _, h => by cases h; exact .nil
  | d :: ds, _, h => by
    cases h with
    | cons h1 h2 => exact .cons (dp_same s d _ h1) (dp_sameAll s ds _ h2)
end
end EL

/- part XC -/
/-! a caught error that keeps fields: isinstance of it, its fields; the class told by the reading -/
namespace EL
open PySem PySem.Spec PyProof.Rows L2
open PySem.W (Frag)
def rIsX (K : Frag) (a : Addr) (cls : Value) (d : Option Addr) : List V → Hp → VK → Prop := fun xs H Q => ∃ (D : Addr) (c : V) (cv : Value) (b : Bool) (dd : Addr) (fs : List (Str × V)), xs = [.ref a, c] ∧ cls = .ref D ∧ ExcC K D ∧ d = some dd ∧ H dd = some (.xd fs) ∧ (∀ u, RelV c u → u = cv) ∧ PySem.W.kitOne K (.ref D) cv = some b ∧ Q (.bl b) H
theorem call_isX {X : Cx} {a : Addr} {oe : Obj} {cls : Value} {d : Option Addr} {pn : List (Addr × Obj)} (hz : Zc cls d oe) (hf : ∃ vs, oe.data = .fields vs) : CallR (X.suite a ((a, oe) :: pn)) (.builtin "isinstance") (rIsX X.K a cls d) := by
  intro pins s σ H xs us Q I r h
  obtain ⟨D, c, cv, b, dd, fs, rfl, ecl, C, ed, ea, hcv, e, q⟩ := h
  cases r with
  | cons rx rr =>
    cases rr with
    | cons rt rr =>
      cases rr
      cases rx
      have ec := hcv _ rt
      subst ec
      subst ecl
      subst ed
      obtain ⟨hget, _⟩ := I.pin (a, oe) (List.mem_append.mpr (.inl List.mem_cons_self))
      obtain ⟨vs, hv⟩ := hf
      have hx : ObjOk X.prog X.w H s.heap dd (.xd fs) := I.hok dd _ ea
      obtain ⟨mA, hns, hr⟩ := hx
      obtain ⟨od, ho, hl⟩ := lookIn_ns hns
      have J : PySem.W.InstAt s.heap a oe D (some od) := ⟨hget, hz.1, by unfold PySem.W.notCls; rw [hv] <;> rfl, by rw [hz.2]; exact ho⟩
      have hcl : (PySem.W.clsIn X.K D).isSome = true := by
        obtain ⟨cd, hc, _⟩ := PySem.W.any_some C.hd
        rw [hc]; rfl
      exact PySem.W.kia_one (PySem.W.kitx_exc hcl C.hg C.hk C.hs C.ha C.hn C.ht C.hm) I.kIn J e (fun z => nomatch z) fun tk => ⟨.bl b, H, I.kept (t' := tk) fun _ _ z => z, rfl, q⟩
/-- the reading of e.f: a the caught error, cls its class, d its dict -/
def tXfR (K : Frag) (a : Addr) (cls : Value) (d : Option Addr) (f : Str) (te : TE) : TE := fun σ H Q => te σ H fun x H1 => x = .ref a ∧ ∃ (C dd : Addr) (fs : List (Str × V)) (v : V), cls = .ref C ∧ XfC K C ∧ PySem.W.findIn K (.ref C) f = some none ∧ d = some dd ∧ H1 dd = some (.xd fs) ∧ fs.lookup f = some v ∧ Q v H1
theorem pe_xfR {X : Cx} {a : Addr} {oe : Obj} {cls : Value} {d : Option Addr} {pn : List (Addr × Obj)} {e : Expr} {te : TE} {pos : Pos} {n : Str}
    (hz : Zc cls d oe) (hf : ∃ vs, oe.data = .fields vs) (he : PE (X.suite a ((a, oe) :: pn)) e te) (hb : attributeBase e n X.env (eval e X.env) = eval e X.env := by rfl) :
    PE (X.suite a ((a, oe) :: pn)) (.Attribute e n pos) (tXfR X.K a cls d n te) := by
  refine ⟨fun pins s σ H Q I h => ?_⟩
  refine attr_of hb (thn (he.run pins s σ H _ I h) fun u s1 hh => ?_)
  obtain ⟨x, H1, I1, rx, ex, C, dd, fs, v, ec, T, hno, ed, ea, l, q⟩ := hh
  subst ex
  obtain rfl : u = Value.ref a := rx
  subst ec
  subst ed
  obtain ⟨ha, _⟩ := I1.pin (a, oe) (List.mem_append_left _ List.mem_cons_self)
  obtain ⟨vs, hd⟩ := hf
  have hx : ObjOk X.prog X.w H1 s1.heap dd (.xd fs) := I1.hok dd _ ea
  obtain ⟨mA, hns, hr⟩ := hx
  obtain ⟨od, ho, hl⟩ := lookIn_ns hns
  obtain ⟨u, hu, ru⟩ := RelO.some_of (v := v) (o := mA n) (by rw [← l]; exact hr n)
  have J : PySem.W.InstAt s1.heap a oe C (some od) := ⟨ha, hz.1, by unfold PySem.W.notCls; rw [hd] <;> rfl, by rw [hz.2]; exact ho⟩
  exact HandSPX.exc_get I1.kIn J T.ga T.gg T.exC (PySem.W.findObj_own T.hdC hno rfl (by rw [hl, hu])) (handed_of ru) ⟨v, H1, I1.tok _, ru, q⟩
theorem a_xfR {K : Frag} {a : Addr} {cls : Value} {d : Option Addr} {f : Str} {te : TE} {σ : L2.St} {H : Hp} {Q : VK} (q : te σ H fun x H1 => x = .ref a ∧ ∃ (C dd : Addr) (fs : List (Str × V)) (v : V), cls = .ref C ∧ XfC K C ∧ PySem.W.findIn K (.ref C) f = some none ∧ d = some dd ∧ H1 dd = some (.xd fs) ∧ fs.lookup f = some v ∧ Q v H1) : tXfR K a cls d f te σ H Q := q
end EL

/- part STAR -/
/-! `first, *rest = a list` -/
namespace EL
open PySem PySem.Spec PyProof.Rows L2
open PySem.W (Frag)
section
variable {prog : Program} {w : World} {A : Around} {E : Value → Shared → Prop} {s : Shared}
/-- what the walk over a list hands out once its head is gone -/
theorem star_items {l : Addr} {u : Value} {us : List Value} {Q : List Value → Shared → Prop} (no : A.handled = none) (hl : s.heap.IsList l (u :: us).toArray) (sz : us.length + 1 ≤ sizeLine)
    (q : ∀ (h1 : Heap) (tk : Nat), (∀ b o, s.heap.get? b = some o → h1.get? b = some o) → Q [u, .ref h1.objs.size] { s with heap := h1.push { cls := .type "list", data := .seq us.toArray }, toks := tk }) : wpAny (model prog w) A (unpackItems (.ref l) 2 (some 1)) Q E s := by
  obtain ⟨hp, gg, dd, tt, oo⟩ := s
  have ll : l < hp.objs.size := by obtain ⟨o, z, _⟩ := hl; exact Heap.lt_size z
  have nl : l ≠ hp.objs.size := Nat.ne_of_lt ll
  have hz : (u :: us).toArray.size = us.length + 1 := by simp
  unfold unpackItems
  refine wpAny_bind ?_
  unfold notIterableAtAll
  refine wpAny_bind (wpAny_specialOf hl.typeIs slot_list_iter.lookup (wpAny_pure ?_))
  simp only [Bool.false_eq_true, if_false]
  refine wpAny_bind (wpAny_holding (wpAny_pyIter_list hl (wpAny_bind (wpAny_holding ?_))))
  refine PySem.W.kun_draw nl 1 0 _ _ ⟨_, Heap.get?_push_size _ rfl, rfl, rfl⟩ (hl.push _) (by rw [hz]; omega) fun g1 it1 k1 => ?_
  have l1 : g1.IsList l (u :: us).toArray := (hl.push _).extBut k1.extBut nl
  have one : ((u :: us).toArray.toList.drop 0).take 1 = [u] := by simp
  rw [one]
  have a1 : hp.objs.size < g1.objs.size := by obtain ⟨o, z, _⟩ := it1; exact Heap.lt_size z
  have a2 : l < g1.objs.size := by obtain ⟨o, z, _⟩ := l1; exact Heap.lt_size z
  refine wpAny_bind (wpAny_holding (PySem.W.kun_collect (s := ⟨g1, gg, dd, tt, oo⟩) (T := "list_iterator") (.inr (.inr (.inl rfl))) (Walks.list (A := A.in1) no hp.objs.size l nl (u :: us).toArray) (fun _ _ st => st.1.typeIs) (k := 1) (by rw [hz]; omega) ⟨it1, l1⟩ a1 a2 (fun g2 tk k2 => ?_) (by rw [hz]; exact sz)))
  have tl : (u :: us).toArray.toList.drop 1 = us := by simp
  rw [tl]
  show wpAny _ _ (if us.length < 0 then _ else _) _ _ _
  rw [if_neg (Nat.not_lt_zero _)]
  show wpAny _ _ (newList (us.take (us.length - 0)) >>= fun d => pure ([u] ++ [d] ++ us.drop (us.length - 0))) _ _ _
  rw [Nat.sub_zero, List.take_length, List.drop_length]
  refine wpAny_bind (wpAny_newList (wpAny_pure ?_) (by omega))
  refine q g2 tk fun b o z => k2 b o ?_ (k1.extBut b o ?_ (Heap.get?_push_of_some _ z)) <;> exact Nat.ne_of_lt (Heap.lt_size z)
end
/-- (a, *b) = a list that holds one thing at least -/
def gStar (K : Frag) (t : TGs) : TG := fun v σ H Q => ∃ a x xs, v = .ref a ∧ SqL K H a (x :: xs) ∧ ∀ D, H D = none → t [x, .ref D] σ (upd H D (.lst xs)) Q
theorem pg_star {X : Cx} {e1 e2 : Expr} {sp pos : Pos} {k : Nat} {t : TGs} (hc : X.calm = true) (h : PGs X [e1, e2] t)
    (hn : assignEach [e1, .Starred e2 sp] X.env = [(false, assign e1 X.env), (true, assign e2 X.env)] := by rfl) (hm : (assignEach [e1, e2] X.env).map (·.2) = [assign e1 X.env, assign e2 X.env] := by rfl) : PG X (.Tuple [e1, .Starred e2 sp] k pos) (gStar X.K t) := by
  refine ⟨fun pins s σ H v u Q I r hw => ?_⟩
  obtain ⟨a, x, xs, rfl, hq, hw⟩ := hw
  cases r
  obtain ⟨its, rv, pl, hz⟩ := I.list hq
  cases rv with
  | @cons _ ux _ us rx rv =>
    rw [assign_Tuple]
    refine wpAny_bind (wpAny_standAt ?_)
    unfold unpack
    rw [hn]
    refine wpAny_bind (wpAny_holding (star_items (I.ok.hd hc) pl.isList (by rw [← rv.length]; exact hz) fun h1 tk kp => ?_))
    have I1 : Inv X pins σ H { s with heap := h1, toks := tk } := I.kept (t' := tk) kp
    have nf : H h1.objs.size = none := I1.hok.fresh (Nat.le_refl _)
    have I2 : Inv X pins σ (upd H h1.objs.size (.lst xs)) { s with heap := h1.push { cls := .type "list", data := .seq us.toArray }, toks := tk } :=
      I1.laid (t' := tk) (fun b o z => Heap.get?_push_of_some _ z) (Nat.le_refl _) ⟨by have q : (x :: xs).length ≤ sizeLine := hz; simp at q; omega, us, 0, rv, Heap.get?_push_size _ rfl⟩
    have z := h.run pins _ σ _ [x, .ref h1.objs.size] [ux, .ref h1.objs.size] Q I2 (.cons rx (.cons rfl .nil)) (hw _ nf)
    rw [hm] at z
    exact z
end EL

/- part ENL -/
/-! enumerate(l, start=k) over a list -/
namespace EL
open PySem PySem.Spec PyProof.Rows L2
open PySem.W (Frag)
def ItesL (K : Frag) (a : Addr) (k : Int) : It :=
  ⟨fun i H => ∃ (xs : List V) (x : V), SqL K H a xs ∧ xs[i]? = some x, fun i H v H' => ∃ T x, v = .ref T ∧ H T = none ∧ H' = upd H T (.tup [.int (k + i), x]) ∧ ∀ xs, SqL K H a xs → xs[i]? = some x, fun i H => ∃ xs : List V, SqL K H a xs ∧ xs.length ≤ i⟩
def TurnEsL (e it t : Addr) (k : Int) (i : Nat) (h : Heap) : Prop := (∃ old, IsEnum h e it (k + i) old) ∧ h.IsListIter it t i
theorem turn_esL {P : Program} {w : World} {K : Frag} {elts : List Expr} {kk : Nat} {tpos : Pos} {e it t : Addr} {k : Int} (ne : e ≠ it) : Turn P w K (.Tuple elts kk tpos) (ItesL K t k) [e, it] e (TurnEsL e it t k) where
  mem := by simp
  obj := fun i h st b hb => by
    obtain ⟨⟨old, he⟩, ⟨o1, q1, _, d1⟩⟩ := st
    have q : b = e ∨ b = it := by simpa using hb
    rcases q with q | q <;> subst q
    · exact ⟨_, he, fun v q => nomatch q⟩
    · exact ⟨o1, q1, fun v q => by rw [d1] at q; cases q⟩
  keep := fun i h h' st kp => by
    obtain ⟨⟨old, he⟩, h1⟩ := st
    exact ⟨⟨old, kp e (by simp) _ he⟩, h1.at fun o q => kp it (by simp) o q⟩
  item := by
    intro X hP hw hK hc i pins s σ H E I hf st hg
    subst hP hw hK
    obtain ⟨⟨old, he⟩, h1⟩ := st
    obtain ⟨xs, x, hqx, hx⟩ := hg
    obtain ⟨its, rv, p, _⟩ := I.list hqx
    obtain ⟨u, hu, ru⟩ := rv.get hx
    have le : e < s.heap.objs.size := Heap.lt_size he
    have typ : s.TypeIs (.ref e) "enumerate" := ⟨_, he, rfl⟩
    unfold pyNext
    refine wpAny_bind (wpAny_attempt (wpAny_callSpecial?_slot (name := Str.ofString "__next__") typ F.slot_enumerate_next (wpAny_call_entry F.slot_enumerate_next typ F.entry_enumerate_next
      (wpAny_mono (enum_turn (R := fun v h' => v = u ∧ h'.IsListIter it t (i + 1) ∧ Heap.SameBut it s.heap h')
        (Q := fun v s' => wpAny (model X.prog X.w) X.A (letOwnedTupleGo (.Tuple elts kk tpos) (.ref e) v) (fun _ s2 => ∃ x H', Inv X pins σ H' s2 ∧ RelV x v ∧ (ItesL X.K t k).yld i H x H' ∧ TurnEsL e it t k (i + 1) s2.heap ∧ ∀ b ∈ [e, it], H' b = none) E s')
        he (fun Q' E' hq => wpAny_nextOf_list_item h1 p.isList (x := u) (by simpa using hu) fun h' st' k' => hq _ h' s.toks (ext_of k' _ _ ne he) ⟨rfl, st', k'⟩) ?_) ?_ (fun _ _ q => q)) (F.args_enumerate_next_1 _))))
    · rintro v g1 g2 tk ⟨rfl, st1, k1⟩ lt1 eo tp z2 k2
      refine wpAny_letOwnedTupleGo_enum (s := { s with heap := g2, toks := tk + 1 }) eo fun g3 e3 k3 => ?_
      replace k3 : Heap.SameBut e g2 g3 := k3
      have T1 : g3.get? g1.objs.size = some { cls := .type "tuple", data := .seq #[.int (k + i) tk, v] } := ext_of k3 _ _ (Nat.ne_of_gt lt1) tp
      have sz : s.heap.objs.size = g1.objs.size := k1.1.symm
      have I2 : Inv X pins σ (upd H g1.objs.size (.tup [.int (k + i), x])) { s with heap := g3, toks := tk + 1 } :=
        I.turnedNew (ch := [e, it]) (fun c o hc q => ext_of k3 _ _ (fun q' => hc (by simp [q'])) (k2 c o (fun q' => hc (by simp [q'])) (ext_of k1 _ _ (fun q' => hc (by simp [q'])) q)))
          hf (Nat.le_of_eq sz) ⟨by show 2 ≤ sizeLine; decide, [.int (k + i) tk, v], .cons ⟨_, rfl⟩ (.cons ru .nil), ⟨_, T1, rfl, _, rfl⟩⟩
      refine ⟨.ref g1.objs.size, _, I2, rfl, ⟨g1.objs.size, x, rfl, I.hok.fresh (Nat.le_of_eq sz), rfl, fun l hl => by rw [I.list_inj hl hqx]; exact hx⟩, ⟨⟨v, ?_⟩, ?_⟩, fun b hb => ?_⟩
      · have q : (k + ((i + 1 : Nat) : Int)) = k + i + 1 := by omega
        rw [q]
        exact e3
      · exact st1.at fun o q => ext_of k3 _ _ ne.symm (k2 _ _ ne.symm q)
      · have q : b < g1.objs.size := by
          have q : b = e ∨ b = it := by simpa using hb
          rcases q with q | q <;> subst q
          · exact lt1
          · exact let ⟨_, q, _⟩ := st1; Heap.lt_size q
        rw [upd_ne (Nat.ne_of_lt q)]
        exact (hf b hb).1
    · rintro fin s' ⟨v, rfl, q⟩
      exact ⟨v, rfl, wpAny_pure ⟨v, rfl, q⟩⟩
  done := by
    intro X hP hw hK hc i pins s σ H E I hf st hg
    subst hP hw hK
    obtain ⟨⟨old, he⟩, h1⟩ := st
    obtain ⟨xs, hqx, hx⟩ := hg
    obtain ⟨its, rv, p, _⟩ := I.list hqx
    have l1 := rv.length
    have typ : s.TypeIs (.ref e) "enumerate" := ⟨_, he, rfl⟩
    unfold pyNext
    refine wpAny_bind (wpAny_attempt (wpAny_callSpecial?_slot (name := Str.ofString "__next__") typ F.slot_enumerate_next (wpAny_call_entry F.slot_enumerate_next typ F.entry_enumerate_next ?_ (F.args_enumerate_next_1 _))))
    refine wpAny_bind (m := field (.ref e) 2) (wpAny_field he rfl (x := .ref it) rfl (wpAny_bind ?_))
    refine wpAny_nextOf_list_end (I.ok.hd hc) h1 p.isList (by simp; omega) fun h' x k' hx' => ?_
    obtain ⟨o, ho, hcls⟩ := hx'
    refine wpAny_bind (wpAny_isInstance (T := "StopIteration") (b := true) ⟨o, ho, hcls⟩ isSubtype_stop (wpAny_pure ⟨rfl, ?_⟩))
    exact I.turnedL (t' := s.toks) (ch := [it]) (fun c o hc q => k' c o (fun q' => hc (by simp [q'])) q) (fun b hb => hf b (by
      have q : b = it := by simpa using hb
      simp [q]))
  self := fun A i s Q E st h => let ⟨⟨_, he⟩, _⟩ := st; wpAny_pyIter_enum he h
def iEsL (K : Frag) (k : Int) (ta : TA) : TI := fun σ H R => ta σ H fun vs H1 => ∃ a xs, vs = [.ref a] ∧ SqL K H1 a xs ∧ R (ItesL K a k) H1
theorem pi_esL {X : Cx} {e : Expr} {ta : TA} {p pos tpos cp kp : Pos} {elts : List Expr} {kk j : Nat} {k : Int} (hg : Gl X "enumerate") (hm : X.mg "enumerate" = none) (ha : PA X [e] ta) (h0 : -(2 ^ 63) ≤ k) (h1 : k < 2 ^ 63)
    (hs : starEach [e] X.env = (false, eval e X.env) :: starEach [] X.env := by rfl) (hpl : (backTo pos (starEach [e] X.env)).any (·.1) = false := by rfl) :
    PI X (.Tuple elts kk tpos) (.Call (.Name "enumerate" p) [e] [⟨some "start", .Constant (.int k) j cp, kp⟩] pos) (iEsL X.K k ta) := by
  refine ⟨fun pins s σ H R I h => ?_⟩
  apply wpAny_Call_Name_kw
  refine ld_blt I hg hm boot_enumerate (callType_kw (thn (ha.run pos pins s σ H _ I h) ?_) hs hpl rfl rfl)
  rintro us s1 ⟨vs, H1, I1, r1, a, xs, rfl, hqx, q⟩
  cases r1 with
  | cons ra rn =>
    cases rn
    cases ra
    obtain ⟨its, rv, pa, _⟩ := I1.list hqx
    refine start_kw (enum_begins_start (begins_list a its.toArray) pa.isList h0 h1 fun h' he hit hsz hk => wpAny_pyIter_enum he ?_)
    refine ⟨s1.heap.objs.size + 1, [s1.heap.objs.size + 1, s1.heap.objs.size], _, _, H1, rfl, I1.kept (t' := s1.toks + 1) hk, turn_esL (Nat.succ_ne_self _), ⟨⟨.none, ?_⟩, ⟨_, hit, rfl, rfl⟩⟩, fun c hc => ?_, q⟩
    · have q : k + ((0 : Nat) : Int) = k := by omega
      rw [q]
      exact he
    · have q : c = s1.heap.objs.size + 1 ∨ c = s1.heap.objs.size := by simpa using hc
      have hle : s1.heap.objs.size ≤ c := by
        simp only [Addr] at *
        omega
      exact I1.fpOk hle (I1.hok.fresh hle)
/-- a turn of enumerate(l, start=k) -/
theorem walk_esL {K : Frag} {a : Addr} {k : Int} {xs : List V} : Walk (ItesL K a k) xs.length (fun H => SqL K H a xs) (YEs k xs) :=
  ⟨fun i H hi h => ⟨xs, xs[i], h, List.getElem?_eq_getElem hi⟩, fun H h => ⟨xs, h, Nat.le_refl _⟩, fun i H x H' hi h ⟨T, y, e, hT, hH, hy⟩ => ⟨T, y, e, hT, hH, hy xs h⟩⟩
end EL

/- part N -/
namespace EL
open PySem PySem.Spec PyProof.Rows L2
open PySem.W (Frag)
abbrev s_number : Stmt := top 42
abbrev N_number : List Str := ["_law_bag_here", "_law_mode", "_law_small"]
theorem sc_number : FnScope N_number ["_law_bag_here"] (defScope s_number) := ⟨rfl, rfl, rfl, by decide +kernel, rfl, by decide +kernel, by decide +kernel⟩
abbrev s_kind : Stmt := top 43
abbrev N_kind : List Str := ["_law_bag_here"]
theorem sc_kind : FnScope N_kind ["_law_bag_here"] (defScope s_kind) := ⟨rfl, rfl, rfl, by decide +kernel, rfl, by decide +kernel, by decide +kernel⟩
abbrev s_parts : Stmt := top 44
abbrev N_parts : List Str := ["_law_bag_here", "_law_events", "_law_witnesses", "_law_most", "_law_parts_here", "_law_k", "_law_a", "_law_pair"]
theorem sc_parts : FnScope N_parts ["_law_bag_here", "_law_events", "_law_witnesses", "_law_most"] (defScope s_parts) := ⟨rfl, rfl, rfl, by decide +kernel, rfl, by decide +kernel, by decide +kernel⟩
local macro_rules | `(tactic| walk_at "el1") => `(tactic| with_reducible first
  | refine a_sasg ?_ | refine a_sdrop ?_ | refine a_saugS ?_ | refine a_spar ?_ | refine a_seq ?_ | refine a_asg ?_ | refine a_drop ?_ | refine a_ret ?_ | refine a_if ?_ | refine a_next ?_
  | refine a_op ?_ | refine a_cons ?_ | refine a_nil ?_ | refine a_cb ?_ | refine a_call ?_ | refine a_c ?_ | refine a_gn ?_ | refine a_nx ?_ | refine a_rt ?_ | refine a_un ?_
  | refine a_test ?_ | refine a_B ?_ | refine a_bl ?_ | refine a_and ?_ | refine a_or ?_ | refine a_not ?_ | refine a_andV ?_ | refine a_orV ?_ | refine a_notV ?_ | refine a_ifx ?_ | refine a_chain ?_
  | refine a_nT ?_ | refine a_nF ?_ | refine a_fld ?_ | refine a_getF ?_ | refine a_T ?_ | refine a_F ?_ | refine a_tup ?_ | refine a_lst ?_ | refine a_sub ?_ | refine a_augS ?_ | refine a_two ?_ | refine a_I0 ?_ | refine a_U ?_ | refine n_add ?_ | refine n_int ?_ | refine n_ib ?_ | refine a_ip ?_ | refine a_rng1 ?_ | refine a_rng2 ?_ | refine a_bm ?_ | refine a_abs ?_ | refine a_pairs ?_ | refine a_pairs0 ?_ | refine a_bk ?_ | refine a_prp ?_ | refine a_lc ?_ | refine a_yes ?_ | refine a_sl ?_ | refine a_nop ?_ | refine a_prt ?_ | refine a_ex1 ?_ | refine a_for ?_ | refine a_sfor ?_ | refine a_iE1 ?_ | refine a_iEs ?_ | refine a_iEz ?_ | refine a_iEnum ?_ | refine a_iTup ?_ | refine a_iList ?_ | refine a_gcons ?_ | refine a_gnil ?_ | refine a_revT ?_ | refine a_spar3 ?_ | refine a_par3 ?_ | refine a_three ?_)
local macro_rules | `(tactic| walk_at "el2") => `(tactic| first
  | (refine a_var (by rfl) ?_)
  | (refine n_ixL (SqL.of (by assumption)) (by rfl) ?_) | (refine n_ixT (SqT.of (by assumption)) (by rfl) ?_) | (refine n_eq (by rfl) ?_) | (refine n_ne (by rfl) ?_)
  | (refine n_isN ?_) | (refine n_notN ?_) | (refine n_isB ?_) | (refine n_notB ?_) | (refine n_isBI ?_) | (refine n_notBI ?_) | (refine n_len (.inl (SqL.of (by assumption))) ?_) | (refine n_len (.inr (SqT.of (by assumption))) ?_)
  | (refine a_getL (SqL.of (by assumption)) (by rfl) ?_)
  | (refine n_isInt (by assumption) ?_) | (refine n_isBool (by assumption) ?_) | (refine n_isStr (by assumption) ?_) | (refine n_isTup (by assumption) ?_) | (refine n_isLst (by assumption) ?_))
local macro_rules | `(tactic| walk_at "el") => `(tactic| repeat (first | walk_at "el1" | walk_at "el2"))

/-! ### numbers, kinds, parts as a law draws them -/
def spNum : Sp := fun vs H Q _ => ∃ b c, vs = [.ref b] ∧ Bag H b c ∧ ∀ (r : Int) H', -1000000000000 ≤ r → r ≤ 1000000000000 → Bag H' b c → Kp b H H' → Q (.int r) H'
def spKnd : Sp := fun vs H Q _ => ∃ b c, vs = [.ref b] ∧ Bag H b c ∧ ∀ (s : Str) H', s = "early" ∨ s = "late" → Bag H' b c → Kp b H H' → Q (.str s) H'
/-- the lists of four parts, new since H0 -/
structure PSt (b c p : Addr) (l : Pt → Addr) (H0 : Hp) : Prop where
  inj : ∀ t u, t ≠ u → l t ≠ l u
  lb : ∀ t, l t ≠ b
  lc : ∀ t, l t ≠ c
  pl : ∀ t, p ≠ l t
  pb : p ≠ b
  fl : ∀ t, H0 (l t) = none
  fp : H0 p = none
/-- no number in an item is near the end of the numbers -/
def Below (H : Hp) (x : V) : Prop := ∀ (q : Addr) (ys : List V) (n : Int), x = .ref q → H q = some (.tup ys) → V.int n ∈ ys → -10000000000000 ≤ n ∧ n ≤ 10000000000000
/-- the number of a gap is small -/
def GapSm (H : Hp) (x : V) : Prop := ∀ (q : Addr) (a e : V) (n : Int), x = .ref q → H q = some (.tup [a, e, .int n]) → -4 ≤ n ∧ n ≤ 4
structure PIv (b c p : Addr) (l : Pt → Addr) (H0 H : Hp) (ev wi : Int) (xs : Pt → List V) : Prop where
  bag : Bag H b c
  kp : Kp b H0 H
  hp : H p = some (.lst [.ref (l .tel), .ref (l .gap), .ref (l .sur), .ref (l .cla)])
  hl : ∀ t, H (l t) = some (.lst (xs t))
  it : ∀ t, ∀ x ∈ xs t, ItemOk t H x ev wi
  nb : ∀ t, ∀ x ∈ xs t, Below H x
  ng : ∀ x ∈ xs .gap, GapSm H x
theorem GapSm.of {H H' : Hp} {x : V} (h : GapSm H x) (hi : ∃ a ys, x = .ref a ∧ H a = some (.tup ys) ∧ H' a = some (.tup ys)) : GapSm H' x := fun q a e n ex hq => by
  obtain ⟨a', zs, ex', h1, h2⟩ := hi
  cases (ex'.symm.trans ex)
  rw [h2] at hq
  cases hq
  exact h _ _ _ n ex h1
theorem gapsm3 {H : Hp} {q : Addr} {a e x : Int} (hx : -4 ≤ x ∧ x ≤ 4) : GapSm (upd H q (.tup [.int a, .int e, .int x])) (.ref q) := fun q' a' e' n e hq => by
  cases e
  rw [upd_same] at hq
  cases hq
  exact hx
theorem Below.of {H H' : Hp} {x : V} (h : Below H x) (hi : ∃ a ys, x = .ref a ∧ H a = some (.tup ys) ∧ H' a = some (.tup ys)) : Below H' x := fun q ys n e hq hn => by
  obtain ⟨a, zs, ex, h1, h2⟩ := hi
  cases (ex.symm.trans e)
  rw [h2] at hq
  cases hq
  exact h _ _ n e h1 hn
theorem below_tup {H : Hp} {q : Addr} {ys : List V} (hq : H q = some (.tup ys)) (h : ∀ n, V.int n ∈ ys → -10000000000000 ≤ n ∧ n ≤ 10000000000000) : Below H (.ref q) := fun q' zs n e hq' hn => by
  cases e
  rw [hq] at hq'
  cases hq'
  exact h n hn
theorem below3 {H : Hp} {q : Addr} {a e x : Int} (ha : 0 ≤ a ∧ a ≤ 8) (he : 0 ≤ e ∧ e ≤ 8) (hx : -10000000000000 ≤ x ∧ x ≤ 10000000000000) : Below (upd H q (.tup [.int a, .int e, .int x])) (.ref q) := below_tup upd_same fun n hn => by
  rcases List.mem_cons.mp hn with z | hn
  · cases z; omega
  rcases List.mem_cons.mp hn with z | hn
  · cases z; omega
  cases List.mem_singleton.mp hn
  exact hx
theorem belowS {H : Hp} {q : Addr} {a x : Int} {s : Str} (ha : 0 ≤ a ∧ a ≤ 8) (hx : -10000000000000 ≤ x ∧ x ≤ 10000000000000) : Below (upd H q (.tup [.int a, .str s, .int x])) (.ref q) := below_tup upd_same fun n hn => by
  rcases List.mem_cons.mp hn with z | hn
  · cases z; omega
  rcases List.mem_cons.mp hn with z | hn
  · cases z
  cases List.mem_singleton.mp hn
  exact hx
theorem belowC {H : Hp} {q : Addr} {a v : Int} {s r : Str} (ha : 0 ≤ a ∧ a ≤ 8) (hv : 0 ≤ v ∧ v ≤ 8) : Below (upd H q (.tup [.int a, .str s, .int v, .str r])) (.ref q) := below_tup upd_same fun n hn => by
  rcases List.mem_cons.mp hn with z | hn
  · cases z; omega
  rcases List.mem_cons.mp hn with z | hn
  · cases z
  rcases List.mem_cons.mp hn with z | hn
  · cases z; omega
  cases List.mem_singleton.mp hn
theorem ItemOk.kp {t : Pt} {b c : Addr} {H H' : Hp} {x : V} {ev wi : Int} (h : ItemOk t H x ev wi) (hb : Bag H b c) (k : Kp b H H') : ItemOk t H' x ev wi := by
  obtain ⟨a, xs, rfl, ha, hl, hs⟩ := h
  refine ⟨a, xs, rfl, k _ _ (fun z => ?_) ha, hl, hs⟩
  subst z
  obtain ⟨_, _, _, _, q, _⟩ := hb
  rw [q] at ha
  cases ha
theorem ItemOk.lst {t : Pt} {a : Addr} {ys zs : List V} {H : Hp} {x : V} {ev wi : Int} (h : ItemOk t H x ev wi) (hb : H a = some (.lst ys)) : ItemOk t (upd H a (.lst zs)) x ev wi := by
  obtain ⟨c, xs, rfl, ha, hl, hs⟩ := h
  refine ⟨c, xs, rfl, ?_, hl, hs⟩
  rw [upd_ne (fun z => by subst z; rw [hb] at ha; cases ha)]
  exact ha
theorem PIv.kp' {b c p : Addr} {l : Pt → Addr} {H0 H H' : Hp} {ev wi : Int} {xs : Pt → List V} (S : PSt b c p l H0) (h : PIv b c p l H0 H ev wi xs) (hb : Bag H' b c) (k : Kp b H H') : PIv b c p l H0 H' ev wi xs :=
  ⟨hb, h.kp.trans k, k _ _ S.pb h.hp, fun t => k _ _ (S.lb t) (h.hl t), fun t x hx => (h.it t x hx).kp h.bag k, fun t x hx => (h.nb t x hx).of (by
    obtain ⟨a, ys, e, ha, _, _⟩ := h.it t x hx
    refine ⟨a, ys, e, ha, k _ _ (fun z => ?_) ha⟩
    subst z
    obtain ⟨_, _, _, _, q, _⟩ := h.bag
    rw [q] at ha
    cases ha), fun x hx => (h.ng x hx).of (by
    obtain ⟨a, ys, e, ha, _, _⟩ := h.it .gap x hx
    refine ⟨a, ys, e, ha, k _ _ (fun z => ?_) ha⟩
    subst z
    obtain ⟨_, _, _, _, q, _⟩ := h.bag
    rw [q] at ha
    cases ha)⟩
theorem PIv.nw {b c p : Addr} {l : Pt → Addr} {H0 H H' : Hp} {ev wi : Int} {xs : Pt → List V} (S : PSt b c p l H0) (h : PIv b c p l H0 H ev wi xs) (s : Same H H') : PIv b c p l H0 H' ev wi xs := h.kp' S (h.bag.same s) (same_kp s)
def setP (xs : Pt → List V) (t : Pt) (ys : List V) : Pt → List V := fun u => if u = t then ys else xs u
theorem setP_at {xs : Pt → List V} {t : Pt} {ys : List V} : setP xs t ys t = ys := if_pos rfl
theorem setP_ne {xs : Pt → List V} {t u : Pt} {ys : List V} (h : u ≠ t) : setP xs t ys u = xs u := if_neg h
theorem PIv.app {b c p : Addr} {l : Pt → Addr} {H0 H : Hp} {ev wi : Int} {xs : Pt → List V} (S : PSt b c p l H0) (h : PIv b c p l H0 H ev wi xs) (t : Pt) {x : V} (hx : ItemOk t H x ev wi) (hn : Below H x) (hg : t = .gap → GapSm H x) : PIv b c p l H0 (upd H (l t) (.lst (xs t ++ [x]))) ev wi (setP xs t (xs t ++ [x])) := by
  refine ⟨?_, h.kp.mut (S.fl t), by rw [upd_ne (S.pl t)]; exact h.hp, fun u => ?_, fun u y hy => ?_, fun u y hy => ?_, fun y hy => ?_⟩
  · obtain ⟨i, j, n, cs, h1, h2, r⟩ := h.bag
    exact ⟨i, j, n, cs, by rw [upd_ne (S.lb t).symm]; exact h1, by rw [upd_ne (S.lc t).symm]; exact h2, r⟩
  · by_cases e : u = t
    · subst e
      rw [upd_same, setP_at]
    · rw [upd_ne (S.inj u t e), setP_ne e]
      exact h.hl u
  · by_cases e : u = t
    · subst e
      rw [setP_at] at hy
      rcases List.mem_append.mp hy with q | q
      · exact (h.it u y q).lst (h.hl u)
      · cases List.mem_singleton.mp q
        exact hx.lst (h.hl u)
    · rw [setP_ne e] at hy
      exact (h.it u y hy).lst (h.hl t)
  · have mv : ∀ {v : V} {w : Pt}, ItemOk w H v ev wi → Below H v → Below (upd H (l t) (.lst (xs t ++ [x]))) v := fun {v w} hi hb => hb.of (by
      obtain ⟨a, ys, e, ha, _, _⟩ := hi
      refine ⟨a, ys, e, ha, ?_⟩
      rw [upd_ne (fun z => by rw [z, h.hl t] at ha; cases ha)]
      exact ha)
    by_cases e : u = t
    · subst e
      rw [setP_at] at hy
      rcases List.mem_append.mp hy with q | q
      · exact mv (h.it u y q) (h.nb u y q)
      · cases List.mem_singleton.mp q
        exact mv hx hn
    · rw [setP_ne e] at hy
      exact mv (h.it u y hy) (h.nb u y hy)
  · have mv : ∀ {v : V} {w : Pt}, ItemOk w H v ev wi → GapSm H v → GapSm (upd H (l t) (.lst (xs t ++ [x]))) v := fun {v w} hi hb => hb.of (by
      obtain ⟨a, ys, e, ha, _, _⟩ := hi
      refine ⟨a, ys, e, ha, ?_⟩
      rw [upd_ne (fun z => by rw [z, h.hl t] at ha; cases ha)]
      exact ha)
    by_cases e : Pt.gap = t
    · subst e
      rw [setP_at] at hy
      rcases List.mem_append.mp hy with q | q
      · exact mv (h.it .gap y q) (h.ng y q)
      · cases List.mem_singleton.mp q
        exact mv hx (hg rfl)
    · rw [setP_ne e] at hy
      exact mv (h.it .gap y hy) (h.ng y hy)
def spParts : Sp := fun vs H Q _ => ∃ (ev wi most : Int) (b c : Addr), vs = [.ref b, .int ev, .int wi, .int most] ∧ Bag H b c ∧ 0 ≤ ev ∧ ev ≤ 8 ∧ 0 ≤ wi ∧ wi ≤ 8 ∧ 0 ≤ most ∧ most ≤ 1000 ∧
  ∀ p l H' xs, PSt b c p l H → PIv b c p l H H' ev wi xs → ((xs .tel).length : Int) ≤ most → ((xs .gap).length : Int) ≤ most / 2 + 1 → (xs .sur).length ≤ 3 → (xs .cla).length ≤ 3 → Q (.ref p) H'
def lOf (l0 l1 l2 l3 : Addr) : Pt → Addr | .tel => l0 | .gap => l1 | .sur => l2 | .cla => l3
theorem parts_start {b c l0 l1 l2 l3 p : Addr} {H : Hp} {ev wi : Int} (hb : Bag H b c) (h0 : H l0 = none) (h1 : upd H l0 (.lst []) l1 = none) (h2 : upd (upd H l0 (.lst [])) l1 (.lst []) l2 = none) (h3 : upd (upd (upd H l0 (.lst [])) l1 (.lst [])) l2 (.lst []) l3 = none)
    (hp : upd (upd (upd (upd H l0 (.lst [])) l1 (.lst [])) l2 (.lst [])) l3 (.lst []) p = none) :
    PSt b c p (lOf l0 l1 l2 l3) H ∧ PIv b c p (lOf l0 l1 l2 l3) H (upd (upd (upd (upd (upd H l0 (.lst [])) l1 (.lst [])) l2 (.lst [])) l3 (.lst [])) p (.lst [.ref l0, .ref l1, .ref l2, .ref l3])) ev wi (fun _ => []) := by
  obtain ⟨n10, h1⟩ := nn h1
  obtain ⟨n21, h2⟩ := nn h2
  obtain ⟨n20, h2⟩ := nn h2
  obtain ⟨n32, h3⟩ := nn h3
  obtain ⟨n31, h3⟩ := nn h3
  obtain ⟨n30, h3⟩ := nn h3
  obtain ⟨m3, hp⟩ := nn hp
  obtain ⟨m2, hp⟩ := nn hp
  obtain ⟨m1, hp⟩ := nn hp
  obtain ⟨m0, hp⟩ := nn hp
  have hc : ∀ q, H q = none → q ≠ c := fun q h z => by
    obtain ⟨_, _, _, _, _, w, _⟩ := hb
    subst z
    rw [w] at h
    cases h
  refine ⟨⟨?_, ?_, ?_, ?_, hb.ne hp, ?_, hp⟩, ⟨?_, ?_, upd_same, ?_, fun t x h => (nomatch h), fun t x h => (nomatch h), fun x h => (nomatch h)⟩⟩
  · intro t u h
    cases t <;> cases u <;> first | exact absurd rfl h | assumption | exact Ne.symm (by assumption)
  · intro t
    cases t
    · exact hb.ne h0
    · exact hb.ne h1
    · exact hb.ne h2
    · exact hb.ne h3
  · intro t
    cases t
    · exact hc _ h0
    · exact hc _ h1
    · exact hc _ h2
    · exact hc _ h3
  · intro t
    cases t <;> assumption
  · intro t
    cases t <;> assumption
  · obtain ⟨i, j, n, cs, w1, w2, r⟩ := hb
    have q : ∀ a o, H a = some o → upd (upd (upd (upd (upd H l0 (.lst [])) l1 (.lst [])) l2 (.lst [])) l3 (.lst [])) p (.lst [.ref l0, .ref l1, .ref l2, .ref l3]) a = some o := fun a o h => by
      rw [upd_ne (ne_of_none h hp), upd_ne (ne_of_none h h3), upd_ne (ne_of_none h h2), upd_ne (ne_of_none h h1), upd_ne (ne_of_none h h0)]
      exact h
    exact ⟨i, j, n, cs, q _ _ w1, q _ _ w2, r⟩
  · intro a o _ h
    rw [upd_ne (ne_of_none h hp), upd_ne (ne_of_none h h3), upd_ne (ne_of_none h h2), upd_ne (ne_of_none h h1), upd_ne (ne_of_none h h0)]
    exact h
  · intro t
    cases t
    · show upd _ _ _ l0 = _
      rw [upd_ne m0.symm, upd_ne n30.symm, upd_ne n20.symm, upd_ne n10.symm, upd_same]
    · show upd _ _ _ l1 = _
      rw [upd_ne m1.symm, upd_ne n31.symm, upd_ne n21.symm, upd_same]
    · show upd _ _ _ l2 = _
      rw [upd_ne m2.symm, upd_ne n32.symm, upd_same]
    · show upd _ _ _ l3 = _
      rw [upd_ne m3.symm, upd_same]
theorem stands3 {p : Pt} {x0 x1 x2 : V} {w0 w1 w2 : Str} {ev wi : Int} (hf : p.form = [w0, w1, w2]) (h0 : standB w0 [x0, x1, x2] 0 x0 ev wi = true) (h1 : standB w1 [x0, x1, x2] 1 x1 ev wi = true) (h2 : standB w2 [x0, x1, x2] 2 x2 ev wi = true) : StandsTo p [x0, x1, x2] ev wi p.form.length := by
  intro j hj wd x hw hx
  rw [hf] at hw hj
  rcases j with _ | _ | _ | j
  · cases hw; cases hx; exact h0
  · cases hw; cases hx; exact h1
  · cases hw; cases hx; exact h2
  · simp only [List.length_cons, List.length_nil] at hj; omega
theorem num_true {i : Int} (h0 : -1000000000000000 ≤ i) (h1 : i ≤ 1000000000000000) : numB (.int i) = true := by
  show (decide _ && decide _) = true
  rw [decide_eq_true h0, decide_eq_true h1]
  rfl
section
variable {xs : List V} {i : Nat} {x : V} {ev wi : Int}
theorem st_w : standB "witness" xs i x ev wi = belowB x wi := by unfold standB; rw [if_pos rfl]
theorem st_e : standB "event" xs i x ev wi = belowB x ev := by unfold standB; rw [if_neg (by decide), if_pos rfl]
theorem st_a : standB "another event" xs i x ev wi = (belowB x ev && !decide (some x = xs[i - 1]?)) := by unfold standB; rw [if_neg (by decide), if_neg (by decide), if_pos rfl]
theorem st_s : standB "side" xs i x ev wi = sideB x := by unfold standB; rw [if_neg (by decide), if_neg (by decide), if_neg (by decide), if_pos rfl]
theorem st_k : standB "kind" xs i x ev wi = kindB x := by unfold standB; rw [if_neg (by decide), if_neg (by decide), if_neg (by decide), if_neg (by decide), if_pos rfl]
theorem st_n : standB "number" xs i x ev wi = numB x := by unfold standB; rw [if_neg (by decide), if_neg (by decide), if_neg (by decide), if_neg (by decide), if_neg (by decide)]
end
theorem item_tel {H : Hp} {q : Addr} {ev wi a e x : Int} (h : H q = some (.tup [.int a, .int e, .int x])) (a0 : 0 ≤ a) (a1 : a < wi) (e0 : 0 ≤ e) (e1 : e < ev) (x0 : -1000000000000000 ≤ x) (x1 : x ≤ 1000000000000000) : ItemOk .tel H (.ref q) ev wi :=
  ⟨q, _, rfl, h, rfl, stands3 rfl (st_w.trans (below_true a0 a1)) (st_e.trans (below_true e0 e1)) (st_n.trans (num_true x0 x1))⟩
theorem item_gap {H : Hp} {q : Addr} {ev wi a e x : Int} (h : H q = some (.tup [.int a, .int e, .int x])) (a0 : 0 ≤ a) (a1 : a < ev) (e0 : 0 ≤ e) (e1 : e < ev) (ne : e ≠ a) (x0 : -1000000000000000 ≤ x) (x1 : x ≤ 1000000000000000) : ItemOk .gap H (.ref q) ev wi :=
  ⟨q, _, rfl, h, rfl, stands3 rfl (st_e.trans (below_true a0 a1)) (st_a.trans (by
    rw [below_true e0 e1, Bool.true_and, decide_eq_false]
    · rfl
    · intro z
      cases z
      exact ne rfl)) (st_n.trans (num_true x0 x1))⟩
theorem item_sur {H : Hp} {q : Addr} {ev wi a x : Int} {s : Str} (h : H q = some (.tup [.int a, .str s, .int x])) (a0 : 0 ≤ a) (a1 : a < ev) (hs : s = "least" ∨ s = "most") (x0 : -1000000000000000 ≤ x) (x1 : x ≤ 1000000000000000) : ItemOk .sur H (.ref q) ev wi :=
  ⟨q, _, rfl, h, rfl, stands3 rfl (st_e.trans (below_true a0 a1)) (st_s.trans (by rcases hs with rfl | rfl <;> decide)) (st_n.trans (num_true x0 x1))⟩
theorem item_cla {H : Hp} {q : Addr} {ev wi a v : Int} {s r : Str} (h : H q = some (.tup [.int a, .str s, .int v, .str r])) (a0 : 0 ≤ a) (a1 : a < wi) (hs : s = "early" ∨ s = "late") (v0 : 0 ≤ v) (v1 : v < wi) (hr : r = "early" ∨ r = "late") : ItemOk .cla H (.ref q) ev wi := by
  refine ⟨q, _, rfl, h, rfl, ?_⟩
  intro j hj wd x hw hx
  rcases j with _ | _ | _ | _ | j
  · cases hw; cases hx; exact st_w.trans (below_true a0 a1)
  · cases hw; cases hx; exact st_k.trans (by rcases hs with rfl | rfl <;> decide)
  · cases hw; cases hx; exact st_w.trans (below_true v0 v1)
  · cases hw; cases hx; exact st_k.trans (by rcases hr with rfl | rfl <;> decide)
  · exact absurd hj (by show ¬ (j + 1 + 1 + 1 + 1 < 4); omega)
theorem gap_ne {a t ev : Int} (a0 : 0 ≤ a) (a1 : a < ev) (t0 : 0 ≤ t) (t1 : t < ev - 1) (e8 : ev ≤ 8) : (a + 1 + t) % ev ≠ a := by
  have h : ev = 2 ∨ ev = 3 ∨ ev = 4 ∨ ev = 5 ∨ ev = 6 ∨ ev = 7 ∨ ev = 8 := by omega
  rcases h with rfl | rfl | rfl | rfl | rfl | rfl | rfl <;> omega
theorem pos2 {x y : Int} (x0 : 0 ≤ x) (y0 : 0 ≤ y) (h : 0 < x * y) : 0 < x ∧ 0 < y := by
  constructor
  · rcases Int.lt_or_eq_of_le x0 with q | q
    · exact q
    · rw [← q, Int.zero_mul] at h; omega
  · rcases Int.lt_or_eq_of_le y0 with q | q
    · exact q
    · rw [← q, Int.mul_zero] at h; omega
theorem size1k {n : Nat} (h : n ≤ 1001) : n < sizeLine := Nat.lt_of_le_of_lt h (by decide)
theorem mul8 {x y : Int} (x0 : 0 ≤ x) (x8 : x ≤ 8) (y0 : 0 ≤ y) (y8 : y ≤ 8) : CMul x y := .inl ⟨by omega, by omega⟩
theorem cnt01 {r : Int} {p : Prop} [Decidable p] (h0 : 0 ≤ r) : 0 ≤ r * (if decide p = true then 1 else 0) ∧ r * (if decide p = true then 1 else 0) ≤ r ∧ (0 < r * (if decide p = true then 1 else 0) → p) := by
  by_cases h : p
  · rw [if_pos (decide_eq_true h)]
    exact ⟨by omega, by omega, fun _ => h⟩
  · rw [if_neg (by rw [decide_eq_false h]; exact Bool.false_ne_true)]
    exact ⟨by omega, by omega, fun z => absurd z (by omega)⟩
section
variable {P : Program} {w : World} {K : Frag} {mg : Str → Option Value} {base : Heap} {f : Addr} {fd : FuncData}
theorem ok_number (F : Fun K "_law_number" "_law_number" s_number f fd) (T : Tb mg) (c_take : Cal P w K mg base CX0 1 "_law_take" ["_law_bag_here", "_law_many"] spTake) : FnOk P w K mg base CX0 2 f fd ["_law_bag_here"] spNum := by
  refine F.ok sc_number (fun vs H Q E h => ?_) (fun cdv A outer s H vs Q E hr h => ?_)
  · obtain ⟨_, _, rfl, _⟩ := h
    rfl
  · obtain ⟨b, c, rfl, hb, k⟩ := h
    refine ⟨_, (pss_cons (ps_par (i := 1) (j := 2) rfl sc_number.nd rfl rfl (by decide) rfl rfl (pa_cons (pe_cal c_take (hr.mono (by decide)) pass0 (pa_cons (pv 0) (pa_cons pe_int pa_nil))) (pa_cons (pe_op op_sub (pe_cal c_take (hr.mono (by decide)) pass0 (pa_cons (pv 0) (pa_cons pe_int pa_nil))) pe_int) pa_nil)) (by with_unfolding_all rfl))
  (pss_cons (ps_if (pt_cmpR op_lt (pv 1) pe_int (nomark _))
    (pss_one (ps_ret (pv 2)))
    pss_nil)
  (pss_one (ps_ret (pe_ifExp (pt_cmpR (u_eq hr.units) (pv 1) pe_int (nomark _)) (pe_op u_add pe_int (pv 2)) (pe_op op_sub (pv 2) pe_int)))))), ?_⟩
    walk_at "el"
    refine ⟨b, c, 10, rfl, hb, by decide, by decide, fun r1 H1 _ _ hb1 k1 => ?_⟩
    walk_at "el"
    refine ⟨b, c, 12, rfl, hb1, by decide, by decide, fun r2 H2 _ _ hb2 k2 => ?_⟩
    have k12 := k1.trans k2
    walk_at "el"
    refine ite2 (fun h0 => ?_) (fun h0 => ?_)
    · walk_at "el"
      exact k _ _ (by omega) (by omega) hb2 k12
    · walk_at "el"
      refine ite2 (fun h0 => ?_) (fun h0 => ?_)
      · walk_at "el"
        exact k _ _ (by omega) (by omega) hb2 k12
      · walk_at "el"
        exact k _ _ (by omega) (by omega) hb2 k12
theorem ok_kind (F : Fun K "_law_kind" "_law_kind" s_kind f fd) (T : Tb mg) (c_take : Cal P w K mg base CX0 1 "_law_take" ["_law_bag_here", "_law_many"] spTake) : FnOk P w K mg base CX0 2 f fd ["_law_bag_here"] spKnd := by
  refine F.ok sc_kind (fun vs H Q E h => ?_) (fun cdv A outer s H vs Q E hr h => ?_)
  · obtain ⟨_, _, rfl, _⟩ := h
    rfl
  · obtain ⟨b, c, rfl, hb, k⟩ := h
    refine ⟨_, (pss_one (ps_ret (pe_ix ix_seq (pe_lst (pa_cons pe_str (pa_cons pe_str pa_nil))) (pe_cal c_take (hr.mono (by decide)) pass0 (pa_cons (pv 0) (pa_cons pe_int pa_nil))) (fun _ _ => rfl)))), ?_⟩
    walk_at "el"
    refine ⟨by decide, fun p hp => ?_⟩
    have e1 := nw_of hp
    have n1 := hb.ne hp
    walk_at "el"
    refine ⟨b, c, 2, rfl, hb.same (e1 _), by decide, by decide, fun r1 H1 r0 r2 hb1 k1 => ?_⟩
    have hp1 := k1 _ _ n1 upd_same
    have r3 : r1 = 0 ∨ r1 = 1 := by omega
    have kF : Kp b H H1 := Kp.into k1 (e1 _)
    rcases r3 with rfl | rfl
    · walk_at "el"
      exact k _ _ (.inl rfl) hb1 kF
    · walk_at "el"
      exact k _ _ (.inr rfl) hb1 kF
theorem ok_parts (F : Fun K "_law_parts" "_law_parts" s_parts f fd) (T : Tb mg) (c_take : Cal P w K mg base CX0 1 "_law_take" ["_law_bag_here", "_law_many"] spTake) (c_number : Cal P w K mg base CX0 2 "_law_number" ["_law_bag_here"] spNum) (c_kind : Cal P w K mg base CX0 2 "_law_kind" ["_law_bag_here"] spKnd) : FnOk P w K mg base CX0 3 f fd ["_law_bag_here", "_law_events", "_law_witnesses", "_law_most"] spParts := by
  refine F.ok sc_parts (fun vs H Q E h => ?_) (fun cdv A outer s H vs Q E hr h => ?_)
  · obtain ⟨_, _, _, _, _, rfl, _⟩ := h
    rfl
  · obtain ⟨ev, wi, most, b, c, rfl, hb, ev0, ev8, wi0, wi8, m0, m1, k⟩ := h
    refine ⟨_, (pss_cons (ps_set (i := 4) sc_parts.nd rfl (Or.inl rfl) (pe_lst (pa_cons (pe_lst pa_nil) (pa_cons (pe_lst pa_nil) (pa_cons (pe_lst pa_nil) (pa_cons (pe_lst pa_nil) pa_nil))))))
  (pss_cons (ps_for PassesOwn.never rfl (pi_range1 rfl T.b.range_ (pa_cons (pe_op u_mul (pe_cal c_take (hr.mono (by decide)) pass0 (pa_cons (pv 0) (pa_cons (pe_op u_add (pv 3) pe_int) pa_nil))) (pe_callTy u_int rfl T.b.int_ (by decide +kernel) (pa_cons (pe_cmpR op_gt (pe_op u_mul (pv 1) (pv 2)) pe_int (nomark _)) pa_nil))) pa_nil)) (pg_name (i := 5) sc_parts.nd rfl (Or.inl rfl))
    (pss_one (ps_expr (pe_bm PySem.F.plainAttrs_list PySem.F.slot_list_append PySem.F.type_list_append mt_append (pe_ix ix_seq (pv 4) pe_int (fun _ _ => rfl)) (pa_cons (pe_tup (pa_cons (pe_cal c_take (hr.mono (by decide)) pass0 (pa_cons (pv 0) (pa_cons (pv 2) pa_nil))) (pa_cons (pe_cal c_take (hr.mono (by decide)) pass0 (pa_cons (pv 0) (pa_cons (pv 1) pa_nil))) (pa_cons (pe_cal c_number (hr.mono (by decide)) pass0 (pa_cons (pv 0) pa_nil)) pa_nil)))) pa_nil)))))
  (pss_cons (ps_for PassesOwn.never rfl (pi_range1 rfl T.b.range_ (pa_cons (pe_op u_mul (pe_cal c_take (hr.mono (by decide)) pass0 (pa_cons (pv 0) (pa_cons (pe_op u_add (pe_op op_fdiv (pv 3) pe_int) pe_int) pa_nil))) (pe_callTy u_int rfl T.b.int_ (by decide +kernel) (pa_cons (pe_cmpR op_gt (pv 1) pe_int (nomark _)) pa_nil))) pa_nil)) (pg_name (i := 5) sc_parts.nd rfl (Or.inl rfl))
    (pss_cons (ps_set (i := 6) sc_parts.nd rfl (Or.inl rfl) (pe_cal c_take (hr.mono (by decide)) pass0 (pa_cons (pv 0) (pa_cons (pv 1) pa_nil))))
  (pss_one (ps_expr (pe_bm PySem.F.plainAttrs_list PySem.F.slot_list_append PySem.F.type_list_append mt_append (pe_ix ix_seq (pv 4) pe_int (fun _ _ => rfl)) (pa_cons (pe_tup (pa_cons (pv 6) (pa_cons (pe_op op_mod (pe_callTy u_int rfl T.b.int_ (by decide +kernel) (pa_cons (pe_op u_add (pe_op u_add (pv 6) pe_int) (pe_cal c_take (hr.mono (by decide)) pass0 (pa_cons (pv 0) (pa_cons (pe_op op_sub (pv 1) pe_int) pa_nil)))) pa_nil)) (pv 1)) (pa_cons (pe_op op_sub (pe_cal c_take (hr.mono (by decide)) pass0 (pa_cons (pv 0) (pa_cons pe_int pa_nil))) pe_int) pa_nil)))) pa_nil))))))
  (pss_cons (ps_for PassesOwn.never rfl (pi_range1 rfl T.b.range_ (pa_cons (pe_op u_mul (pe_cal c_take (hr.mono (by decide)) pass0 (pa_cons (pv 0) (pa_cons pe_int pa_nil))) (pe_callTy u_int rfl T.b.int_ (by decide +kernel) (pa_cons (pe_cmpR op_gt (pv 1) pe_int (nomark _)) pa_nil))) pa_nil)) (pg_name (i := 5) sc_parts.nd rfl (Or.inl rfl))
    (pss_one (ps_expr (pe_bm PySem.F.plainAttrs_list PySem.F.slot_list_append PySem.F.type_list_append mt_append (pe_ix ix_seq (pv 4) pe_int (fun _ _ => rfl)) (pa_cons (pe_tup (pa_cons (pe_cal c_take (hr.mono (by decide)) pass0 (pa_cons (pv 0) (pa_cons (pv 1) pa_nil))) (pa_cons (pe_ix ix_seq (pe_lst (pa_cons pe_str (pa_cons pe_str pa_nil))) (pe_cal c_take (hr.mono (by decide)) pass0 (pa_cons (pv 0) (pa_cons pe_int pa_nil))) (fun _ _ => rfl)) (pa_cons (pe_cal c_number (hr.mono (by decide)) pass0 (pa_cons (pv 0) pa_nil)) pa_nil)))) pa_nil)))))
  (pss_cons (ps_for PassesOwn.never rfl (pi_range1 rfl T.b.range_ (pa_cons (pe_op u_mul (pe_cal c_take (hr.mono (by decide)) pass0 (pa_cons (pv 0) (pa_cons pe_int pa_nil))) (pe_callTy u_int rfl T.b.int_ (by decide +kernel) (pa_cons (pe_cmpR op_gt (pv 2) pe_int (nomark _)) pa_nil))) pa_nil)) (pg_name (i := 5) sc_parts.nd rfl (Or.inl rfl))
    (pss_cons (ps_set (i := 7) sc_parts.nd rfl (Or.inl rfl) (pe_tup (pa_cons (pe_cal c_take (hr.mono (by decide)) pass0 (pa_cons (pv 0) (pa_cons (pv 2) pa_nil))) (pa_cons (pe_cal c_kind (hr.mono (by decide)) pass0 (pa_cons (pv 0) pa_nil)) (pa_cons (pe_cal c_take (hr.mono (by decide)) pass0 (pa_cons (pv 0) (pa_cons (pv 2) pa_nil))) (pa_cons (pe_cal c_kind (hr.mono (by decide)) pass0 (pa_cons (pv 0) pa_nil)) pa_nil))))))
  (pss_one (ps_expr (pe_bm PySem.F.plainAttrs_list PySem.F.slot_list_append PySem.F.type_list_append mt_append (pe_ix ix_seq (pv 4) pe_int (fun _ _ => rfl)) (pa_cons (pv 7) pa_nil))))))
  (pss_one (ps_ret (pv 4)))))))), ?_⟩
    walk_at "el"
    refine ⟨by decide, fun l0 hl0 => ?_⟩
    have e0 := nw_of hl0
    walk_at "el"
    refine ⟨by decide, fun l1 hl1 => ?_⟩
    have e1 := nw_of hl1
    walk_at "el"
    refine ⟨by decide, fun l2 hl2 => ?_⟩
    have e2 := nw_of hl2
    walk_at "el"
    refine ⟨by decide, fun l3 hl3 => ?_⟩
    have e3 := nw_of hl3
    walk_at "el"
    refine ⟨by show 4 ≤ sizeLine; decide, fun p hp => ?_⟩
    have e4 := nw_of hp
    obtain ⟨S, I0⟩ := parts_start (ev := ev) (wi := wi) hb hl0 hl1 hl2 hl3 hp
    generalize upd (upd (upd (upd (upd H l0 (.lst [])) l1 (.lst [])) l2 (.lst [])) l3 (.lst [])) p (.lst [.ref l0, .ref l1, .ref l2, .ref l3]) = Hs at I0 ⊢
    generalize lOf l0 l1 l2 l3 = l at S I0
    clear e0 e1 e2 e3 hl0 hl1 hl2 hl3 hp
    walk_at "el"
    refine ⟨b, c, _, rfl, I0.bag, by omega, by omega, fun r H1 r0 r1 hb1 k1 => ?_⟩
    have I1 := I0.kp' S hb1 k1
    clear I0 hb1 k1 hb
    walk_at "el"
    refine n_mul (mul8 ev0 ev8 wi0 wi8) ?_
    walk_at "el"
    refine n_mul (.inl ⟨by omega, by omega⟩) ?_
    walk_at "el"
    have q := cnt01 (p := 0 < ev * wi) r0
    generalize r * (if decide (0 < ev * wi) = true then 1 else 0) = j at q ⊢
    refine ⟨by omega, by omega, ?_⟩
    refine lp_range (fun i σ H2 => ∃ xs, PIv b c p l H H2 ev wi xs ∧ (xs .tel).length = i ∧ xs .gap = [] ∧ xs .sur = [] ∧ xs .cla = [] ∧ ∃ v5 v6 v7, σ = [some (.ref b), some (.int ev), some (.int wi), some (.int most), some (.ref p), v5, v6, v7]) ⟨_, I1, rfl, rfl, rfl, rfl, _, _, _, rfl⟩ ?_ ?_
    · rintro i σ H2 hi ⟨xs, I2, hl, g1, g2, g3, v5, v6, v7, rfl⟩
      obtain ⟨ev1, wi1⟩ := pos2 ev0 wi0 (q.2.2 (by omega))
      have hp2 := I2.hp
      walk_at "el"
      refine ⟨.inl ⟨rfl, _, SqL.of (I2.hl .tel)⟩, ?_⟩
      walk_at "el"
      refine ⟨b, c, wi, rfl, I2.bag, wi1, by omega, fun a H3 a0 a1 hb3 k3 => ?_⟩
      have I3 := I2.kp' S hb3 k3
      walk_at "el"
      refine ⟨b, c, ev, rfl, I3.bag, ev1, by omega, fun e H4 e0 e1 hb4 k4 => ?_⟩
      have I4 := I3.kp' S hb4 k4
      walk_at "el"
      refine ⟨b, c, rfl, I4.bag, fun x H5 x0 x1 hb5 k5 => ?_⟩
      have I5 := I4.kp' S hb5 k5
      walk_at "el"
      refine ⟨by show 3 ≤ sizeLine; decide, fun u hu => ?_⟩
      have I6 := I5.nw S (nw_of hu (.tup [.int a, .int e, .int x]))
      walk_at "el"
      refine ⟨l .tel, xs .tel, .ref u, rfl, rfl, I6.hl .tel, size1k (by omega), ?_⟩
      walk_at "el"
      exact ⟨_, I6.app S .tel (item_tel upd_same a0 a1 e0 e1 (by omega) (by omega)) (below3 (by omega) (by omega) (by omega)) (fun z => nomatch z), by rw [setP_at, List.length_append, hl]; rfl, by rw [setP_ne (by decide)]; exact g1, by rw [setP_ne (by decide)]; exact g2, by rw [setP_ne (by decide)]; exact g3, _, _, _, rfl⟩
    · rintro σ H2 ⟨xs, I2, hl, g1, g2, g3, v5, v6, v7, rfl⟩
      have htel : ((xs .tel).length : Int) ≤ most := by omega
      clear hl q r0 r1 I1
      walk_at "el"
      refine a_I ⟨by decide, by decide⟩ ?_
      walk_at "el"
      refine ⟨b, c, _, rfl, I2.bag, by omega, by omega, fun r H1 r0 r1 hb1 k1 => ?_⟩
      have I1 := I2.kp' S hb1 k1
      clear I2 hb1 k1
      walk_at "el"
      refine n_mul (.inl ⟨by omega, by omega⟩) ?_
      walk_at "el"
      have q := cnt01 (p := 1 < ev) r0
      generalize r * (if decide (1 < ev) = true then 1 else 0) = j at q ⊢
      refine ⟨by omega, by omega, ?_⟩
      refine lp_range (fun i σ H2 => ∃ xs, PIv b c p l H H2 ev wi xs ∧ ((xs .tel).length : Int) ≤ most ∧ (xs .gap).length = i ∧ xs .sur = [] ∧ xs .cla = [] ∧ ∃ v5 v6 v7, σ = [some (.ref b), some (.int ev), some (.int wi), some (.int most), some (.ref p), v5, v6, v7]) ⟨_, I1, htel, by rw [g1]; rfl, g2, g3, _, _, _, rfl⟩ ?_ ?_
      · clear htel g1 g2 g3 I1
        rintro i σ H2 hi ⟨xs, I2, g1, hl, g2, g3, v5, v6, v7, rfl⟩
        have ev1 := q.2.2 (by omega)
        walk_at "el"
        refine ⟨b, c, ev, rfl, I2.bag, by omega, by omega, fun a H3 a0 a1 hb3 k3 => ?_⟩
        have I3 := I2.kp' S hb3 k3
        have hp3 := I3.hp
        walk_at "el"
        refine ⟨.inl ⟨rfl, _, SqL.of (I3.hl .gap)⟩, ?_⟩
        walk_at "el"
        refine ⟨b, c, ev - 1, rfl, I3.bag, by omega, by omega, fun t H4 t0 t1 hb4 k4 => ?_⟩
        have I4 := I3.kp' S hb4 k4
        walk_at "el"
        refine a_I (by omega) ?_
        walk_at "el"
        refine ⟨b, c, 9, rfl, I4.bag, by decide, by decide, fun x H5 x0 x1 hb5 k5 => ?_⟩
        have I5 := I4.kp' S hb5 k5
        walk_at "el"
        refine ⟨by show 3 ≤ sizeLine; decide, fun u hu => ?_⟩
        have I6 := I5.nw S (nw_of hu (.tup [.int a, .int ((a + 1 + t) % ev), .int (x - 4)]))
        walk_at "el"
        refine ⟨l .gap, xs .gap, .ref u, rfl, rfl, I6.hl .gap, size1k (by omega), ?_⟩
        walk_at "el"
        exact ⟨_, I6.app S .gap (item_gap upd_same a0 a1 (Int.emod_nonneg _ (by omega)) (Int.emod_lt_of_pos _ (by omega)) (gap_ne a0 a1 t0 t1 ev8) (by omega) (by omega)) (below3 (by omega) ⟨Int.emod_nonneg _ (by omega), Int.le_trans (Int.le_of_lt (Int.emod_lt_of_pos _ (by omega))) ev8⟩ (by omega)) (fun _ => gapsm3 (by omega)), by rw [setP_ne (by decide)]; exact g1, by rw [setP_at, List.length_append, hl]; rfl, by rw [setP_ne (by decide)]; exact g2, by rw [setP_ne (by decide)]; exact g3, _, _, _, rfl⟩
      · clear htel g1 g2 g3 I1
        rintro σ H2 ⟨xs, I2, htel, hl, g2, g3, v5, v6, v7, rfl⟩
        have hgap : ((xs .gap).length : Int) ≤ most / 2 + 1 := by omega
        clear hl q r0 r1
        walk_at "el"
        refine ⟨b, c, 4, rfl, I2.bag, by omega, by omega, fun r H1 r0 r1 hb1 k1 => ?_⟩
        have I1 := I2.kp' S hb1 k1
        clear I2 hb1 k1
        walk_at "el"
        refine n_mul (.inl ⟨by omega, by omega⟩) ?_
        walk_at "el"
        have q := cnt01 (p := 0 < ev) r0
        generalize r * (if decide (0 < ev) = true then 1 else 0) = j at q ⊢
        refine ⟨by omega, by omega, ?_⟩
        refine lp_range (fun i σ H2 => ∃ xs, PIv b c p l H H2 ev wi xs ∧ ((xs .tel).length : Int) ≤ most ∧ ((xs .gap).length : Int) ≤ most / 2 + 1 ∧ (xs .sur).length = i ∧ xs .cla = [] ∧ ∃ v5 v6 v7, σ = [some (.ref b), some (.int ev), some (.int wi), some (.int most), some (.ref p), v5, v6, v7]) ⟨_, I1, htel, hgap, by rw [g2]; rfl, g3, _, _, _, rfl⟩ ?_ ?_
        · clear htel hgap g2 g3 I1
          rintro i σ H2 hi ⟨xs, I2, g1, g2, hl, g3, v5, v6, v7, rfl⟩
          have ev1 := q.2.2 (by omega)
          have hp2 := I2.hp
          walk_at "el"
          refine ⟨.inl ⟨rfl, _, SqL.of (I2.hl .sur)⟩, ?_⟩
          walk_at "el"
          refine ⟨b, c, ev, rfl, I2.bag, by omega, by omega, fun a H3 a0 a1 hb3 k3 => ?_⟩
          have I3 := I2.kp' S hb3 k3
          walk_at "el"
          refine ⟨by decide, fun w1 hw1 => ?_⟩
          have I4 := I3.nw S (nw_of hw1 (.lst [.str "least", .str "most"]))
          have nw1 := I3.bag.ne hw1
          walk_at "el"
          refine ⟨b, c, 2, rfl, I4.bag, by omega, by omega, fun t H4 t0 t1 hb4 k4 => ?_⟩
          have I5 := I4.kp' S hb4 k4
          have hw2 := k4 _ _ nw1 upd_same
          obtain ⟨sd, hsd, hss⟩ : ∃ sd : Str, atI [V.str "least", V.str "most"] t = some (.str sd) ∧ (sd = "least" ∨ sd = "most") := by
            have z : t = 0 ∨ t = 1 := by omega
            rcases z with rfl | rfl
            · exact ⟨_, rfl, .inl rfl⟩
            · exact ⟨_, rfl, .inr rfl⟩
          walk_at "el"
          refine n_ixL (SqL.of hw2) hsd ?_
          walk_at "el"
          refine ⟨b, c, rfl, I5.bag, fun x H6 x0 x1 hb6 k6 => ?_⟩
          have I6 := I5.kp' S hb6 k6
          walk_at "el"
          refine ⟨by show 3 ≤ sizeLine; decide, fun u hu => ?_⟩
          have I7 := I6.nw S (nw_of hu (.tup [.int a, .str sd, .int x]))
          walk_at "el"
          refine ⟨l .sur, xs .sur, .ref u, rfl, rfl, I7.hl .sur, size1k (by omega), ?_⟩
          walk_at "el"
          exact ⟨_, I7.app S .sur (item_sur upd_same a0 a1 hss (by omega) (by omega)) (belowS (by omega) (by omega)) (fun z => nomatch z), by rw [setP_ne (by decide)]; exact g1, by rw [setP_ne (by decide)]; exact g2, by rw [setP_at, List.length_append, hl]; rfl, by rw [setP_ne (by decide)]; exact g3, _, _, _, rfl⟩
        · clear htel hgap g2 g3 I1
          rintro σ H2 ⟨xs, I2, htel, hgap, hl, g3, v5, v6, v7, rfl⟩
          have hsur : (xs .sur).length ≤ 3 := by omega
          clear hl q r0 r1
          walk_at "el"
          refine ⟨b, c, 4, rfl, I2.bag, by omega, by omega, fun r H1 r0 r1 hb1 k1 => ?_⟩
          have I1 := I2.kp' S hb1 k1
          clear I2 hb1 k1
          walk_at "el"
          refine n_mul (.inl ⟨by omega, by omega⟩) ?_
          walk_at "el"
          have q := cnt01 (p := 0 < wi) r0
          generalize r * (if decide (0 < wi) = true then 1 else 0) = j at q ⊢
          refine ⟨by omega, by omega, ?_⟩
          refine lp_range (fun i σ H2 => ∃ xs, PIv b c p l H H2 ev wi xs ∧ ((xs .tel).length : Int) ≤ most ∧ ((xs .gap).length : Int) ≤ most / 2 + 1 ∧ (xs .sur).length ≤ 3 ∧ (xs .cla).length = i ∧ ∃ v5 v6 v7, σ = [some (.ref b), some (.int ev), some (.int wi), some (.int most), some (.ref p), v5, v6, v7]) ⟨_, I1, htel, hgap, hsur, by rw [g3]; rfl, _, _, _, rfl⟩ ?_ ?_
          · clear htel hgap hsur g3 I1
            rintro i σ H2 hi ⟨xs, I2, g1, g2, g3, hl, v5, v6, v7, rfl⟩
            have wi1 := q.2.2 (by omega)
            walk_at "el"
            refine ⟨b, c, wi, rfl, I2.bag, by omega, by omega, fun a H3 a0 a1 hb3 k3 => ?_⟩
            have I3 := I2.kp' S hb3 k3
            walk_at "el"
            refine ⟨b, c, rfl, I3.bag, fun s1 H4 hs1 hb4 k4 => ?_⟩
            have I4 := I3.kp' S hb4 k4
            walk_at "el"
            refine ⟨b, c, wi, rfl, I4.bag, by omega, by omega, fun v H5 v0 v1 hb5 k5 => ?_⟩
            have I5 := I4.kp' S hb5 k5
            walk_at "el"
            refine ⟨b, c, rfl, I5.bag, fun s2 H6 hs2 hb6 k6 => ?_⟩
            have I6 := I5.kp' S hb6 k6
            walk_at "el"
            refine ⟨by show 4 ≤ sizeLine; decide, fun u hu => ?_⟩
            have I7 := I6.nw S (nw_of hu (.tup [.int a, .str s1, .int v, .str s2]))
            have hp7 := I7.hp
            walk_at "el"
            refine ⟨.inl ⟨rfl, _, SqL.of (I7.hl .cla)⟩, ?_⟩
            walk_at "el"
            refine ⟨l .cla, xs .cla, .ref u, rfl, rfl, I7.hl .cla, size1k (by omega), ?_⟩
            walk_at "el"
            exact ⟨_, I7.app S .cla (item_cla upd_same a0 a1 hs1 v0 v1 hs2) (belowC (by omega) (by omega)) (fun z => nomatch z), by rw [setP_ne (by decide)]; exact g1, by rw [setP_ne (by decide)]; exact g2, by rw [setP_ne (by decide)]; exact g3, by rw [setP_at, List.length_append, hl]; rfl, _, _, _, rfl⟩
          · clear htel hgap hsur g3 I1
            rintro σ H2 ⟨xs, I2, htel, hgap, hsur, hl, v5, v6, v7, rfl⟩
            walk_at "el"
            exact k p l H2 xs S I2 htel hgap hsur (by omega)
end
end EL

/- part X -/
namespace EL
open PySem PySem.Spec PyProof.Rows L2
open PySem.W (Frag)
abbrev s_Wrong_init : Stmt := inClass (top 3) 0
abbrev N_Wrong_init : List Str := ["self", "place"]
theorem sc_Wrong_init : FnScope N_Wrong_init ["self", "place"] (defScope s_Wrong_init) := ⟨rfl, rfl, rfl, by decide +kernel, rfl, by decide +kernel, by decide +kernel⟩
abbrev s_BadItem_init : Stmt := inClass (top 4) 0
abbrev N_BadItem_init : List Str := ["self", "place", "index"]
theorem sc_BadItem_init : FnScope N_BadItem_init ["self", "place", "index"] (defScope s_BadItem_init) := ⟨rfl, rfl, rfl, by decide +kernel, rfl, by decide +kernel, by decide +kernel⟩
abbrev s_TooMany_init : Stmt := inClass (top 5) 0
abbrev N_TooMany_init : List Str := ["self", "limit"]
theorem sc_TooMany_init : FnScope N_TooMany_init ["self", "limit"] (defScope s_TooMany_init) := ⟨rfl, rfl, rfl, by decide +kernel, rfl, by decide +kernel, by decide +kernel⟩
local macro_rules | `(tactic| walk_at "el1") => `(tactic| with_reducible first
  | refine a_sasg ?_ | refine a_sdrop ?_ | refine a_saugS ?_ | refine a_spar ?_ | refine a_seq ?_ | refine a_asg ?_ | refine a_drop ?_ | refine a_ret ?_ | refine a_if ?_ | refine a_next ?_
  | refine a_op ?_ | refine a_cons ?_ | refine a_nil ?_ | refine a_cb ?_ | refine a_call ?_ | refine a_c ?_ | refine a_gn ?_ | refine a_nx ?_ | refine a_rt ?_ | refine a_un ?_
  | refine a_test ?_ | refine a_B ?_ | refine a_bl ?_ | refine a_and ?_ | refine a_or ?_ | refine a_not ?_ | refine a_andV ?_ | refine a_orV ?_ | refine a_notV ?_ | refine a_ifx ?_ | refine a_chain ?_
  | refine a_nT ?_ | refine a_nF ?_ | refine a_fld ?_ | refine a_getF ?_ | refine a_T ?_ | refine a_F ?_ | refine a_tup ?_ | refine a_lst ?_ | refine a_sub ?_ | refine a_augS ?_ | refine a_two ?_ | refine a_I0 ?_ | refine a_U ?_ | refine n_add ?_ | refine n_int ?_ | refine n_ib ?_ | refine a_ip ?_ | refine a_rng1 ?_ | refine a_rng2 ?_ | refine a_bm ?_ | refine a_abs ?_ | refine a_pairs ?_ | refine a_pairs0 ?_ | refine a_bk ?_ | refine a_prp ?_ | refine a_lc ?_ | refine a_yes ?_ | refine a_sl ?_ | refine a_nop ?_ | refine a_prt ?_ | refine a_ex1 ?_ | refine a_for ?_ | refine a_sfor ?_ | refine a_iE1 ?_ | refine a_iEs ?_ | refine a_iEz ?_ | refine a_iEnum ?_ | refine a_iTup ?_ | refine a_iList ?_ | refine a_gcons ?_ | refine a_gnil ?_ | refine a_revT ?_ | refine a_spar3 ?_ | refine a_par3 ?_ | refine a_three ?_)
local macro_rules | `(tactic| walk_at "el2") => `(tactic| first
  | (refine a_var (by rfl) ?_)
  | (refine n_ixL (SqL.of (by assumption)) (by rfl) ?_) | (refine n_ixT (SqT.of (by assumption)) (by rfl) ?_) | (refine n_eq (by rfl) ?_) | (refine n_ne (by rfl) ?_)
  | (refine n_isN ?_) | (refine n_notN ?_) | (refine n_isB ?_) | (refine n_notB ?_) | (refine n_isBI ?_) | (refine n_notBI ?_) | (refine n_len (.inl (SqL.of (by assumption))) ?_) | (refine n_len (.inr (SqT.of (by assumption))) ?_)
  | (refine a_getL (SqL.of (by assumption)) (by rfl) ?_)
  | (refine n_isInt (by assumption) ?_) | (refine n_isBool (by assumption) ?_) | (refine n_isStr (by assumption) ?_) | (refine n_isTup (by assumption) ?_) | (refine n_isLst (by assumption) ?_))
local macro_rules | `(tactic| walk_at "el") => `(tactic| repeat (first | walk_at "el1" | walk_at "el2"))

/-! ### errors that keep what they were made of -/
def spErr1 (C : Addr) (fld : Str) : Sp := fun vs H Q _ => ∃ (a : Addr) (y : V), vs = [.ref a, y] ∧ H a = some (exo a C none) ∧ ∀ dx, H dx = none → dx ≠ a → Q .non (upd (upd H dx (exd dx [(fld, y)])) a (exo a C (some dx)))
def spErr2 (C : Addr) (f1 f2 : Str) : Sp := fun vs H Q _ => ∃ (a : Addr) (y z : V), vs = [.ref a, y, z] ∧ H a = some (exo a C none) ∧ ∀ dx, H dx = none → dx ≠ a → Q .non (upd (upd (upd H dx (exd dx [(f1, y)])) a (exo a C (some dx))) dx (exd dx [(f2, z), (f1, y)]))
theorem err_heap {H : Hp} {a d C : Addr} {e1 e2 : HO} (ha : H a = none) (hd : d ≠ a) (fs : List (Str × V)) : upd (del (upd (upd (upd H a e1) d e2) a (exo a C (some d))) a) d (.xd fs) = upd H d (.xd fs) := by
  funext b
  by_cases e : b = d
  · subst e
    rw [upd_same, upd_same]
  · rw [upd_ne e, upd_ne e]
    by_cases z : b = a
    · subst z
      show (if b = b then none else _) = _
      rw [if_pos rfl, ha]
    · show (if b = a then none else _) = _
      rw [if_neg z, upd_ne z, upd_ne e, upd_ne z]
/-- what the making of an error asks -/
def ErrR (C : Addr) (sp : Sp) (vs : List V) (H1 : Hp) (Q : XK) : Prop := vs.length ≤ 1000 ∧ ∀ a : Addr, H1 a = none → sp (.ref a :: (vs ++ [])) (upd H1 a (exo a C none)) (fun v H2 => v = .non ∧ ∃ (d : Addr) (fs : List (Str × V)), H2 a = some (exo a C (some d)) ∧ H2 d = some (exd d fs) ∧ H1 d = none ∧ Q (.ref C) (some d) (upd (del H2 a) d (.xd fs))) (fun _ _ _ => False)
def tRz (C : Addr) (sp : Sp) (ta : TA) (W : WX) : TS := fun _ σ H => ta σ H fun vs H1 => ErrR C sp vs H1 fun cls d H' => W cls d σ H'
theorem a_rz {C : Addr} {sp : Sp} {ta : TA} {W : WX} {D : Ends} {σ : L2.St} {H : Hp} (q : ta σ H fun vs H1 => ErrR C sp vs H1 fun cls d H' => W cls d σ H') : tRz C sp ta W D σ H := q
theorem n_err1 {C : Addr} {fld : Str} {y : V} {H : Hp} {Q : XK} (q : ∀ d, H d = none → Q (.ref C) (some d) (upd H d (.xd [(fld, y)]))) : ErrR C (spErr1 C fld) [y] H Q := by
  refine ⟨by show 1 ≤ 1000; decide, fun a ha => ⟨a, y, rfl, upd_same, fun d hd ne => ⟨rfl, d, [(fld, y)], upd_same, by rw [upd_ne ne]; exact upd_same, (nn hd).2, ?_⟩⟩⟩
  rw [err_heap ha ne]
  exact q d (nn hd).2
theorem err_heap2 {H : Hp} {a d C : Addr} {e1 e2 e3 : HO} (ha : H a = none) (hd : d ≠ a) (fs : List (Str × V)) : upd (del (upd (upd (upd (upd H a e1) d e2) a (exo a C (some d))) d e3) a) d (.xd fs) = upd H d (.xd fs) := by
  funext b
  by_cases e : b = d
  · subst e
    rw [upd_same, upd_same]
  · rw [upd_ne e, upd_ne e]
    by_cases z : b = a
    · subst z
      show (if b = b then none else _) = _
      rw [if_pos rfl, ha]
    · show (if b = a then none else _) = _
      rw [if_neg z, upd_ne e, upd_ne z, upd_ne e, upd_ne z]
theorem n_err2 {C : Addr} {f1 f2 : Str} {y z : V} {H : Hp} {Q : XK} (q : ∀ d, H d = none → Q (.ref C) (some d) (upd H d (.xd [(f2, z), (f1, y)]))) : ErrR C (spErr2 C f1 f2) [y, z] H Q := by
  refine ⟨by show 2 ≤ 1000; decide, fun a ha => ⟨a, y, z, rfl, upd_same, fun d hd ne => ⟨rfl, d, [(f2, z), (f1, y)], by rw [upd_ne ne.symm]; exact upd_same, upd_same, (nn hd).2, ?_⟩⟩⟩
  rw [err_heap2 ha ne]
  exact q d (nn hd).2
structure ErrG (P : Program) (w : World) (K : Frag) (mg : Str → Option Value) (base : Heap) (x : Str) (C : Addr) (ps : List Str) (sp : Sp) : Prop where
  ex : ∃ fI fd, PySem.W.findIn K (.ref C) "__init__" = some (some (.ref fI)) ∧ PySem.W.typeIn K (.ref fI) = some (.type "function") ∧ FnOk P w K mg base CX0 1 fI fd ps sp ∧ L2.Binds K fd ps []
  o : OexC K C
  g : mg x = some (.ref C)
theorem ps_rz {X : Cx} {W : WX} {x : Str} {C : Addr} {ps : List Str} {sp : Sp} {e : Expr} {es : List Expr} {ta : TA} {p pos pos' : Pos} (G : ErrG X.prog X.w X.K X.mg X.base x C ps sp) (hr : Room 2 X.A) (hc : X.calm = true) (tk : Takes X W) (ha : PA X (e :: es) ta)
    (hg : Gl X x := by rfl) (hb : (x == ("__debug__" : Str)) = false := by decide) (he : starEach (e :: es) X.env = (false, eval e X.env) :: starEach es X.env := by rfl) (hpl : (backTo pos (starEach es X.env)).any (·.1) = false := by rfl) :
    PS X (.Raise (some (.Call (.Name x p) (e :: es) [] pos)) none pos') (tRz C sp ta W) := by
  obtain ⟨fI, fd, i, t, F, b⟩ := G.ex
  exact ps_raise hc tk (pmk_oex (pos := pos) (p := p) G.o i t F hr b .nil pass0 hg G.g ha hb he hpl)
/-! ### errors on their way through a call -/
theorem passE {X : Cx} {E : XK} (tk : Takes X fun cls d _ H => E cls d H) : Passes (L2.CX X.prog X.w) X E := fun pins σ H s e s' I hz => passAt tk σ pins H s e s' I hz
theorem pe_calX {X : Cx} {W : WX} {k : Nat} {x : Str} {ps : List Str} {sp : Sp} {p pos : Pos} {e : Expr} {es : List Expr} {t : TA} (C : Cal X.prog X.w X.K X.mg X.base (L2.CX X.prog X.w) k x ps sp) (hr : Room k X.A) (tk : Takes X W) (ha : PA X (e :: es) t)
    (hg : Gl X x := by rfl) (hdb : (x == ("__debug__" : Str)) = false := by decide) (he : starEach (e :: es) X.env = (false, eval e X.env) :: starEach es X.env := by rfl) (hpl : (backTo pos (starEach es X.env)).any (·.1) = false := by rfl) :
    PE X (.Call (.Name x p) (e :: es) [] pos) (tCallS sp (WE W) t) := by
  obtain ⟨f, fd, h1, h2, h3, h4⟩ := C.ex
  exact pe_callS h4 hr hg h1 h2 h3 (fun σ => passAt tk σ) ha hdb he hpl
section
variable {P : Program} {w : World} {K : Frag} {mg : Str → Option Value} {base : Heap} {f C aForms aParts : Addr} {fd : FuncData}
theorem ok_Wrong (F : Fun K "__init__" "Wrong.__init__" s_Wrong_init f fd) (O : OexC K C) (n : PySem.W.findIn K (.ref C) "place" = some none) : FnOk P w K mg base CX0 1 f fd ["self", "place"] (spErr1 C "place") := by
  refine F.ok sc_Wrong_init (fun vs H Q E h => ?_) (fun cdv A outer s H vs Q E hr h => ?_)
  · obtain ⟨_, _, rfl, _⟩ := h
    rfl
  · obtain ⟨a, y, rfl, ha, k⟩ := h
    refine ⟨_, (pss_one (ps_ost (pv 0) (pv 1))), ?_⟩
    walk_at "el"
    refine ⟨a, C, rfl, O, n, .inl ⟨ha, fun dx hd ne => ?_⟩⟩
    walk_at "el"
    exact k dx hd ne
theorem ok_TooMany (F : Fun K "__init__" "TooMany.__init__" s_TooMany_init f fd) (O : OexC K C) (n : PySem.W.findIn K (.ref C) "limit" = some none) : FnOk P w K mg base CX0 1 f fd ["self", "limit"] (spErr1 C "limit") := by
  refine F.ok sc_TooMany_init (fun vs H Q E h => ?_) (fun cdv A outer s H vs Q E hr h => ?_)
  · obtain ⟨_, _, rfl, _⟩ := h
    rfl
  · obtain ⟨a, y, rfl, ha, k⟩ := h
    refine ⟨_, (pss_one (ps_ost (pv 0) (pv 1))), ?_⟩
    walk_at "el"
    refine ⟨a, C, rfl, O, n, .inl ⟨ha, fun dx hd ne => ?_⟩⟩
    walk_at "el"
    exact k dx hd ne
theorem ok_BadItem (F : Fun K "__init__" "BadItem.__init__" s_BadItem_init f fd) (O : OexC K C) (n : PySem.W.findIn K (.ref C) "place" = some none) (n2 : PySem.W.findIn K (.ref C) "index" = some none) : FnOk P w K mg base CX0 1 f fd ["self", "place", "index"] (spErr2 C "place" "index") := by
  refine F.ok sc_BadItem_init (fun vs H Q E h => ?_) (fun cdv A outer s H vs Q E hr h => ?_)
  · obtain ⟨_, _, _, rfl, _⟩ := h
    rfl
  · obtain ⟨a, y, z, rfl, ha, k⟩ := h
    refine ⟨_, (pss_cons (ps_ost (pv 0) (pv 1))
  (pss_one (ps_ost (pv 0) (pv 2)))), ?_⟩
    walk_at "el"
    refine ⟨a, C, rfl, O, n, .inl ⟨ha, fun dx hd ne => ?_⟩⟩
    walk_at "el"
    refine ⟨a, C, rfl, O, n2, .inr ⟨dx, [("place", y)], upd_same, by rw [upd_ne ne]; exact upd_same, by show 1 ≤ 900; decide, ?_⟩⟩
    walk_at "el"
    exact k dx hd ne
/-- items that are looked at: the error of the first that is none -/
def spCiX (K : Frag) (CT CB : Addr) : Sp := fun vs H Q E => ∃ (n : Int) (p : Pt) (a : Addr) (xs : List V) (ev wi : Int), vs = [.int n, .str p.name, .ref a, .int ev, .int wi] ∧ SqA K H a xs ∧ (∀ x ∈ xs, Th K H x ∧ ∀ (q : Addr) (ys : List V), x = .ref q → H q = some (.tup ys) → ∀ y ∈ ys, Th K H y) ∧
  (24 < xs.length → ∀ d, H d = none → E (.ref CT) (some d) (upd H d (.xd [("limit", .int 24)]))) ∧
  (xs.length ≤ 24 → (∀ x ∈ xs, ItemOk p H x ev wi) → ∀ H', Same H H' → Q .non H') ∧
  (xs.length ≤ 24 → ∀ i x, xs[i]? = some x → (∀ (j : Nat) y, j < i → xs[j]? = some y → ItemOk p H y ev wi) → ¬ ItemOk p H x ev wi → ∀ H' d, Same H H' → H' d = none → E (.ref CB) (some d) (upd H' d (.xd [("index", .int i), ("place", .int n)])))
theorem ItemOk.back {K : Frag} {p : Pt} {H H' : Hp} {x : V} {ev wi : Int} (h : ItemOk p H' x ev wi) (th : Th K H x) (s : Same H H') : ItemOk p H x ev wi := by
  obtain ⟨a, xs, rfl, ha, hl, hs⟩ := h
  refine ⟨a, xs, rfl, ?_, hl, hs⟩
  have go : ∀ u, H a = some u → H a = some (.tup xs) := fun u hu => by
    have q := s _ _ hu
    rw [ha] at q
    rw [hu, ← q]
  cases th with
  | lst h => exact go _ h
  | tup h => exact go _ h
  | dct h => exact go _ h
  | ins h c => exact go _ h
  | dtt h => exact go _ h
theorem th_at {K : Frag} {H H' : Hp} {xs : List V} {x : V} (th : ∀ x ∈ xs, Th K H x ∧ ∀ (q : Addr) (ys : List V), x = .ref q → H q = some (.tup ys) → ∀ y ∈ ys, Th K H y) (s : Same H H') (hx : x ∈ xs) {q : Addr} {ys : List V} (e : x = .ref q) (hq : H' q = some (.tup ys)) : ∀ y ∈ ys, Th K H' y := by
  obtain ⟨t1, t2⟩ := th x hx
  have go : ∀ u, H q = some u → H q = some (.tup ys) := fun u hu => by
    have w := s _ _ hu
    rw [hq] at w
    rw [hu, ← w]
  intro y hy
  subst e
  have h0 : H q = some (.tup ys) := by
    cases t1 with
    | lst h => exact go _ h
    | tup h => exact go _ h
    | dct h => exact go _ h
    | ins h c => exact go _ h
    | dtt h => exact go _ h
  exact (t2 q ys rfl h0 y hy).same s
theorem ok_check_itemsX {CT CB : Addr} (F : Fun K "_check_items" "_check_items" s__check_items f fd) (T : BoT K w mg aForms aParts) (c_is_item : Cal P w K mg base CX0 5 "is_item" ["part", "thing", "events", "witnesses"] (spItem K))
    (c_TooMany : ErrG P w K mg base "TooMany" CT ["self", "limit"] (spErr1 CT "limit")) (c_BadItem : ErrG P w K mg base "BadItem" CB ["self", "place", "index"] (spErr2 CB "place" "index")) :
    FnOk P w K mg base (L2.CX P w) 6 f fd ["place", "part", "items", "events", "witnesses"] (spCiX K CT CB) := by
  refine F.okX sc__check_items (fun vs H Q E h => ?_) (fun cdv A outer s H vs Q E hr h => ?_)
  · obtain ⟨_, _, _, _, _, _, rfl, _⟩ := h
    rfl
  · obtain ⟨n, p, a, xs, ev, wi, rfl, ha, th, k0, k1, k2⟩ := h
    refine ⟨_, (pss_cons (ps_if (pt_cmpR op_gt (pe_callB u_len rfl T.b.len_ boot_len (pa_cons (pv 2) pa_nil)) (pe_gc (v := .int 24) rfl T.k_MOST_ITEMS) (nomark _))
    (pss_one (ps_rz c_TooMany (hr.mono (by decide)) rfl (takes_of rfl rfl rfl rfl) (pa_cons (pe_gc (v := .int 24) rfl T.k_MOST_ITEMS) pa_nil)))
    pss_nil)
  (pss_one (ps_for (passes_of rfl) rfl (PI.alt (pi_enum rfl T.b.enumerate_ (pa_cons (pv 2) pa_nil)) (pi_e1 rfl T.b.enumerate_ (pa_cons (pv 2) pa_nil))) (pg_tup rfl (pgs_cons (pg_name (i := 5) sc__check_items.nd rfl (Or.inl rfl)) (pgs_cons (pg_name (i := 6) sc__check_items.nd rfl (Or.inl rfl)) pgs_nil)))
    (pss_one (ps_if (pt_not (pt_val (pe_cal c_is_item (hr.mono (by decide)) pass0 (pa_cons (pv 1) (pa_cons (pv 6) (pa_cons (pv 3) (pa_cons (pv 4) pa_nil)))))))
    (pss_one (ps_rz c_BadItem (hr.mono (by decide)) rfl (takes_of rfl rfl rfl rfl) (pa_cons (pv 0) (pa_cons (pv 5) pa_nil))))
    pss_nil))))), ?_⟩
    walk_at "el"
    refine n_len ha.len ?_
    walk_at "el"
    refine ite2 (fun h0 => ?_) (fun h0 => ?_)
    · walk_at "el"
      refine a_rz ?_
      walk_at "el"
      refine n_err1 fun d hd => ?_
      have q : (xs.length : Int) > 24 := by simpa using h0
      exact k0 (by omega) d hd
    · have hl : xs.length ≤ 24 := by
        have q : ¬ (xs.length : Int) > 24 := by simpa using h0
        omega
      walk_at "el"
      rcases ha with ha | ha
      · refine Or.inl ?_
        walk_at "el"
        refine ⟨a, xs, rfl, SqL.of ha, ?_⟩
        refine lp_it walk_enum (fun i σ H3 => Same H H3 ∧ (∀ (j : Nat) y, j < i → xs[j]? = some y → ItemOk p H y ev wi) ∧ ∃ v3 v4, σ = [some (.int n), some (.str p.name), some (.ref a), some (.int ev), some (.int wi), v3, v4]) ⟨Same.refl _, fun j y h => absurd h (Nat.not_lt_zero j), _, _, rfl⟩ (fun i σ H3 hi h => SqL.of (h.1 _ _ ha)) ?_ ?_
        · rintro i x σ H3 H4 hi ⟨s3, hok, v3, v4, rfl⟩ ⟨r, _, y, rfl, hr, rfl, ei, hy⟩
          cases ei
          have hy : xs[i]? = some y := hy
          have s4 := L2.Same.nw (o := .tup [.int i, y]) s3 hr
          obtain ⟨t1, t2⟩ := th y (List.mem_of_getElem? hy)
          refine a_gtup (SqT.of upd_same) rfl ?_
          walk_at "el"
          refine ⟨p, y, ev, wi, rfl, t1.same s4, ?_, fun H5 b s5 hb => ?_⟩
          · exact fun q ys e hq z hz => th_at th s4 (List.mem_of_getElem? hy) e hq z hz
          · cases b with
            | true =>
              walk_at "el"
              refine ⟨s4.trans s5, fun j z hj hz => ?_, _, _, rfl⟩
              by_cases e : j = i
              · subst e
                rw [hy] at hz
                cases hz
                exact (hb.mp rfl).back t1 s4
              · exact hok j z (by omega) hz
            | false =>
              walk_at "el"
              refine a_rz ?_
              walk_at "el"
              refine n_err2 fun d hd => ?_
              exact k2 hl i y hy hok (fun z => by have q := hb.mpr (z.same s4); cases q) H5 d (s4.trans s5) hd
        · rintro σ H3 ⟨s3, hok, v3, v4, rfl⟩
          walk_at "el"
          exact k1 hl (fun x hx => by
            obtain ⟨j, hj, rfl⟩ := List.getElem_of_mem hx
            exact hok j _ hj (List.getElem?_eq_getElem hj)) _ s3
      · refine Or.inr ?_
        walk_at "el"
        refine ⟨a, xs, rfl, ha, ?_⟩
        refine lp_it walk_es (fun i σ H3 => Same H H3 ∧ (∀ (j : Nat) y, j < i → xs[j]? = some y → ItemOk p H y ev wi) ∧ ∃ v3 v4, σ = [some (.int n), some (.str p.name), some (.ref a), some (.int ev), some (.int wi), v3, v4]) ⟨Same.refl _, fun j y h => absurd h (Nat.not_lt_zero j), _, _, rfl⟩ (fun i σ H3 hi h => ha.same h.1) ?_ ?_
        · rintro i x σ H3 H4 hi ⟨s3, hok, v3, v4, rfl⟩ ⟨r, y, rfl, hr, rfl, hy⟩
          have s4 := L2.Same.nw (o := .tup [.int ((0 : Int) + i), y]) s3 hr
          obtain ⟨t1, t2⟩ := th y (List.mem_of_getElem? hy)
          refine a_gtup (SqT.of upd_same) rfl ?_
          walk_at "el"
          refine ⟨p, y, ev, wi, rfl, t1.same s4, ?_, fun H5 b s5 hb => ?_⟩
          · exact fun q ys e hq z hz => th_at th s4 (List.mem_of_getElem? hy) e hq z hz
          · cases b with
            | true =>
              walk_at "el"
              refine ⟨s4.trans s5, fun j z hj hz => ?_, _, _, rfl⟩
              by_cases e : j = i
              · subst e
                rw [hy] at hz
                cases hz
                exact (hb.mp rfl).back t1 s4
              · exact hok j z (by omega) hz
            | false =>
              walk_at "el"
              refine a_rz ?_
              walk_at "el"
              refine n_err2 fun d hd => ?_
              rw [Int.zero_add]
              exact k2 hl i y hy hok (fun z => by have q := hb.mpr (z.same s4); cases q) H5 d (s4.trans s5) hd
        · rintro σ H3 ⟨s3, hok, v3, v4, rfl⟩
          walk_at "el"
          exact k1 hl (fun x hx => by
            obtain ⟨j, hj, rfl⟩ := List.getElem_of_mem hx
            exact hok j _ hj (List.getElem?_eq_getElem hj)) _ s3
end
end EL

/- part R -/
namespace EL
open PySem PySem.Spec PyProof.Rows L2
open PySem.W (Frag)
abbrev s_Book_events : Stmt := inClass (top 27) 1
abbrev N_Book_events : List Str := ["self"]
theorem sc_Book_events : FnScope N_Book_events ["self"] (defScope s_Book_events) := ⟨rfl, rfl, rfl, by decide +kernel, rfl, by decide +kernel, by decide +kernel⟩
abbrev s_Book_witnesses : Stmt := inClass (top 27) 2
abbrev N_Book_witnesses : List Str := ["self"]
theorem sc_Book_witnesses : FnScope N_Book_witnesses ["self"] (defScope s_Book_witnesses) := ⟨rfl, rfl, rfl, by decide +kernel, rfl, by decide +kernel, by decide +kernel⟩
abbrev s_Book_tellings : Stmt := inClass (top 27) 3
abbrev N_Book_tellings : List Str := ["self"]
theorem sc_Book_tellings : FnScope N_Book_tellings ["self"] (defScope s_Book_tellings) := ⟨rfl, rfl, rfl, by decide +kernel, rfl, by decide +kernel, by decide +kernel⟩
abbrev s_Book_gaps : Stmt := inClass (top 27) 4
abbrev N_Book_gaps : List Str := ["self"]
theorem sc_Book_gaps : FnScope N_Book_gaps ["self"] (defScope s_Book_gaps) := ⟨rfl, rfl, rfl, by decide +kernel, rfl, by decide +kernel, by decide +kernel⟩
abbrev s_Book_sure : Stmt := inClass (top 27) 5
abbrev N_Book_sure : List Str := ["self"]
theorem sc_Book_sure : FnScope N_Book_sure ["self"] (defScope s_Book_sure) := ⟨rfl, rfl, rfl, by decide +kernel, rfl, by decide +kernel, by decide +kernel⟩
abbrev s_Book_clauses : Stmt := inClass (top 27) 6
abbrev N_Book_clauses : List Str := ["self"]
theorem sc_Book_clauses : FnScope N_Book_clauses ["self"] (defScope s_Book_clauses) := ⟨rfl, rfl, rfl, by decide +kernel, rfl, by decide +kernel, by decide +kernel⟩
local macro_rules | `(tactic| walk_at "el1") => `(tactic| with_reducible first
  | refine a_sasg ?_ | refine a_sdrop ?_ | refine a_saugS ?_ | refine a_spar ?_ | refine a_seq ?_ | refine a_asg ?_ | refine a_drop ?_ | refine a_ret ?_ | refine a_if ?_ | refine a_next ?_
  | refine a_op ?_ | refine a_cons ?_ | refine a_nil ?_ | refine a_cb ?_ | refine a_call ?_ | refine a_c ?_ | refine a_gn ?_ | refine a_nx ?_ | refine a_rt ?_ | refine a_un ?_
  | refine a_test ?_ | refine a_B ?_ | refine a_bl ?_ | refine a_and ?_ | refine a_or ?_ | refine a_not ?_ | refine a_andV ?_ | refine a_orV ?_ | refine a_notV ?_ | refine a_ifx ?_ | refine a_chain ?_
  | refine a_nT ?_ | refine a_nF ?_ | refine a_fld ?_ | refine a_getF ?_ | refine a_T ?_ | refine a_F ?_ | refine a_tup ?_ | refine a_lst ?_ | refine a_sub ?_ | refine a_augS ?_ | refine a_two ?_ | refine a_I0 ?_ | refine a_U ?_ | refine n_add ?_ | refine n_int ?_ | refine n_ib ?_ | refine a_ip ?_ | refine a_rng1 ?_ | refine a_rng2 ?_ | refine a_bm ?_ | refine a_abs ?_ | refine a_pairs ?_ | refine a_pairs0 ?_ | refine a_bk ?_ | refine a_prp ?_ | refine a_lc ?_ | refine a_yes ?_ | refine a_sl ?_ | refine a_nop ?_ | refine a_prt ?_ | refine a_ex1 ?_ | refine a_for ?_ | refine a_sfor ?_ | refine a_iE1 ?_ | refine a_iEs ?_ | refine a_iEz ?_ | refine a_iEnum ?_ | refine a_iTup ?_ | refine a_iList ?_ | refine a_gcons ?_ | refine a_gnil ?_ | refine a_revT ?_ | refine a_spar3 ?_ | refine a_par3 ?_ | refine a_three ?_)
local macro_rules | `(tactic| walk_at "el2") => `(tactic| first
  | (refine a_var (by rfl) ?_)
  | (refine n_ixL (SqL.of (by assumption)) (by rfl) ?_) | (refine n_ixT (SqT.of (by assumption)) (by rfl) ?_) | (refine n_eq (by rfl) ?_) | (refine n_ne (by rfl) ?_)
  | (refine n_isN ?_) | (refine n_notN ?_) | (refine n_isB ?_) | (refine n_notB ?_) | (refine n_isBI ?_) | (refine n_notBI ?_) | (refine n_len (.inl (SqL.of (by assumption))) ?_) | (refine n_len (.inr (SqT.of (by assumption))) ?_)
  | (refine a_getL (SqL.of (by assumption)) (by rfl) ?_)
  | (refine n_isInt (by assumption) ?_) | (refine n_isBool (by assumption) ?_) | (refine n_isStr (by assumption) ?_) | (refine n_isTup (by assumption) ?_) | (refine n_isLst (by assumption) ?_))
local macro_rules | `(tactic| walk_at "el") => `(tactic| repeat (first | walk_at "el1" | walk_at "el2"))

/-! ### ways -/
/-- the gaps of a book, as numbers -/
structure GapsAre (K : Frag) (H : Hp) (g : Addr) (gs : List V) (G : List (Int × Int × Int)) : Prop where
  seq : SqA K H g gs
  len : gs.length = G.length
  at_ : ∀ (i : Nat) (v : V), gs[i]? = some v → ∃ (q : Addr) (x : Int × Int × Int), v = .ref q ∧ G[i]? = some x ∧ H q = some (.tup [.int x.1, .int x.2.1, .int x.2.2])
theorem GapsAre.same {K : Frag} {H H' : Hp} {g : Addr} {gs : List V} {G : List (Int × Int × Int)} (h : GapsAre K H g gs G) (s : Same H H') : GapsAre K H' g gs G :=
  ⟨h.seq.same s, h.len, fun i v hv => by
    obtain ⟨q, x, e, hx, hq⟩ := h.at_ i v hv
    exact ⟨q, x, e, hx, s _ _ hq⟩⟩
theorem num_int {x : V} (h : numB x = true) : ∃ n, x = .int n := by
  cases x with
  | int n => exact ⟨n, rfl⟩
  | _ => cases h
theorem item_gap_inv {H : Hp} {x : V} {ev wi : Int} (h : ItemOk .gap H x ev wi) : ∃ (q : Addr) (a e n : Int), x = .ref q ∧ H q = some (.tup [.int a, .int e, .int n]) ∧ 0 ≤ a ∧ a < ev ∧ 0 ≤ e ∧ e < ev ∧ e ≠ a := by
  obtain ⟨q, xs, rfl, hq, hl, hs⟩ := h
  match xs, hl with
  | [x0, x1, x2], _ =>
    have h0 : belowB x0 ev = true := by
      have z := hs 0 (by decide) "event" x0 rfl rfl
      unfold standB at z
      rw [if_neg (by decide), if_pos rfl] at z
      exact z
    have h1 : (belowB x1 ev && !decide (some x1 = [x0, x1, x2][1 - 1]?)) = true := by
      have z := hs 1 (by decide) "another event" x1 rfl rfl
      unfold standB at z
      rw [if_neg (by decide), if_neg (by decide), if_pos rfl] at z
      exact z
    have h2 : numB x2 = true := by
      have z := hs 2 (by decide) "number" x2 rfl rfl
      unfold standB at z
      rw [if_neg (by decide), if_neg (by decide), if_neg (by decide), if_neg (by decide), if_neg (by decide)] at z
      exact z
    rw [Bool.and_eq_true] at h1
    obtain ⟨a, rfl, a0, a1⟩ := below_int h0
    obtain ⟨e, rfl, e0, e1⟩ := below_int h1.1
    obtain ⟨n, rfl⟩ := num_int h2
    refine ⟨q, a, e, n, rfl, hq, a0, a1, e0, e1, fun z => ?_⟩
    have w := h1.2
    rw [z] at w
    simp at w
theorem gaps_of {H : Hp} {ev wi : Int} : ∀ (gs : List V), (∀ x ∈ gs, ItemOk .gap H x ev wi) → ∃ G : List (Int × Int × Int), gs.length = G.length ∧ (∀ x ∈ G, 0 ≤ x.1 ∧ x.1 < ev ∧ 0 ≤ x.2.1 ∧ x.2.1 < ev) ∧
    ∀ (i : Nat) (v : V), gs[i]? = some v → ∃ (q : Addr) (x : Int × Int × Int), v = .ref q ∧ G[i]? = some x ∧ H q = some (.tup [.int x.1, .int x.2.1, .int x.2.2])
  | [], _ => ⟨[], rfl, (fun _ h => nomatch h), fun i v h => by cases h⟩
  | y :: r, h => by
    obtain ⟨G, hl, hb, hG⟩ := gaps_of r fun x hx => h x (List.mem_cons_of_mem _ hx)
    obtain ⟨q, a, e, n, rfl, hq, a0, a1, e0, e1, _⟩ := item_gap_inv (h y (List.mem_cons_self ..))
    refine ⟨(a, e, n) :: G, by rw [List.length_cons, List.length_cons, hl], ?_, fun i v hv => ?_⟩
    · intro x hx
      rcases List.mem_cons.mp hx with rfl | hx
      · exact ⟨a0, a1, e0, e1⟩
      · exact hb x hx
    · cases i with
      | zero =>
        cases hv
        exact ⟨q, (a, e, n), rfl, rfl, hq⟩
      | succ i => exact hG i v hv
/-- one step further -/
def stepW (G : List (Int × Int × Int)) (here : Int) (v : V) : Option Int :=
  match v with
  | .int i => if 0 ≤ i ∧ i < G.length then (G[i.toNat]?).bind fun x => if x.1 = here then some x.2.1 else none else none
  | _ => none
def wayTo (G : List (Int × Int × Int)) (a : Int) (xs : List V) : Option Int := xs.foldl (fun o v => o.bind fun h => stepW G h v) (some a)
theorem way_snoc {G : List (Int × Int × Int)} {a : Int} {xs : List V} {v : V} : wayTo G a (xs ++ [v]) = (wayTo G a xs).bind fun h => stepW G h v := by
  unfold wayTo
  rw [List.foldl_append]
  rfl
theorem way_lost {G : List (Int × Int × Int)} : ∀ (xs : List V), xs.foldl (fun o v => o.bind fun h => stepW G h v) none = none
  | [] => rfl
  | _ :: r => way_lost r
theorem way_off {G : List (Int × Int × Int)} {a : Int} {xs ys : List V} (h : wayTo G a xs = none) : wayTo G a (xs ++ ys) = none := by
  unfold wayTo at h ⊢
  rw [List.foldl_append, h]
  exact way_lost ys
theorem step_off {G : List (Int × Int × Int)} {h : Int} {v : V} (q : belowB v G.length = false) : stepW G h v = none := by
  cases v with
  | int i =>
    have e : (decide (0 ≤ i) && decide (i < (G.length : Int))) = false := q
    show (if 0 ≤ i ∧ i < (G.length : Int) then _ else none) = none
    rw [if_neg]
    rintro ⟨a, b⟩
    rw [decide_eq_true a, decide_eq_true b] at e
    cases e
  | _ => rfl
theorem step_at {G : List (Int × Int × Int)} {h : Int} {j : Nat} {x : Int × Int × Int} (q : G[j]? = some x) : stepW G h (.int j) = if x.1 = h then some x.2.1 else none := by
  have l := (List.getElem?_eq_some_iff.mp q).1
  show (if 0 ≤ (j : Int) ∧ (j : Int) < (G.length : Int) then _ else none) = _
  rw [if_pos ⟨by omega, by omega⟩, Int.toNat_natCast, q]
  rfl
/-- a way between two events -/
def isWay (H : Hp) (G : List (Int × Int × Int)) (a b : Int) (x : V) : Prop := ∃ (q : Addr) (xs : List V), x = .ref q ∧ H q = some (.tup xs) ∧ wayTo G a xs = some b
def spWay (K : Frag) (C : Addr) : Sp := fun vs H Q _ => ∃ (bk dx : Addr) (ev wi : Int) (t g s c : Addr) (gs : List V) (G : List (Int × Int × Int)) (a b : Int) (x : V), vs = [.ref bk, .int a, .int b, x] ∧ H bk = some (bookO C dx ev wi t g s c) ∧ GapsAre K H g gs G ∧
  Th K H x ∧ (∀ q xs, x = .ref q → H q = some (.tup xs) → ∀ y ∈ xs, Th K H y) ∧ ∀ H' r, Same H H' → (r = true ↔ isWay H G a b x) → Q (.bl r) H'
section
variable {P : Program} {w : World} {K : Frag} {mg : Str → Option Value} {base : Heap} {f : Addr} {fd : FuncData} {C : Addr}
theorem ok_get_events (F : Fun K "events" "Book.events" s_Book_events f fd) (B : BkC K C) : FnOk P w K mg base CX0 1 f fd ["self"] (spGet C "_events") := by
  refine F.ok sc_Book_events (fun vs H Q E h => ?_) (fun cdv A outer s H vs Q E hr h => ?_)
  · obtain ⟨_, _, _, _, rfl, _⟩ := h
    rfl
  · obtain ⟨a, dx, fs, v, rfl, ha, hv, k⟩ := h
    refine ⟨_, (pss_one (ps_ret (pe_fld (pv 0) rfl))), ?_⟩
    walk_at "el"
    refine ⟨a, C, dx, fs, v, rfl, ha, B.own.cl, B.n0, hv, ?_⟩
    exact k
theorem ok_get_witnesses (F : Fun K "witnesses" "Book.witnesses" s_Book_witnesses f fd) (B : BkC K C) : FnOk P w K mg base CX0 1 f fd ["self"] (spGet C "_witnesses") := by
  refine F.ok sc_Book_witnesses (fun vs H Q E h => ?_) (fun cdv A outer s H vs Q E hr h => ?_)
  · obtain ⟨_, _, _, _, rfl, _⟩ := h
    rfl
  · obtain ⟨a, dx, fs, v, rfl, ha, hv, k⟩ := h
    refine ⟨_, (pss_one (ps_ret (pe_fld (pv 0) rfl))), ?_⟩
    walk_at "el"
    refine ⟨a, C, dx, fs, v, rfl, ha, B.own.cl, B.n1, hv, ?_⟩
    exact k
theorem ok_get_tellings (F : Fun K "tellings" "Book.tellings" s_Book_tellings f fd) (B : BkC K C) : FnOk P w K mg base CX0 1 f fd ["self"] (spGet C "_tellings") := by
  refine F.ok sc_Book_tellings (fun vs H Q E h => ?_) (fun cdv A outer s H vs Q E hr h => ?_)
  · obtain ⟨_, _, _, _, rfl, _⟩ := h
    rfl
  · obtain ⟨a, dx, fs, v, rfl, ha, hv, k⟩ := h
    refine ⟨_, (pss_one (ps_ret (pe_fld (pv 0) rfl))), ?_⟩
    walk_at "el"
    refine ⟨a, C, dx, fs, v, rfl, ha, B.own.cl, B.n2, hv, ?_⟩
    exact k
theorem ok_get_gaps (F : Fun K "gaps" "Book.gaps" s_Book_gaps f fd) (B : BkC K C) : FnOk P w K mg base CX0 1 f fd ["self"] (spGet C "_gaps") := by
  refine F.ok sc_Book_gaps (fun vs H Q E h => ?_) (fun cdv A outer s H vs Q E hr h => ?_)
  · obtain ⟨_, _, _, _, rfl, _⟩ := h
    rfl
  · obtain ⟨a, dx, fs, v, rfl, ha, hv, k⟩ := h
    refine ⟨_, (pss_one (ps_ret (pe_fld (pv 0) rfl))), ?_⟩
    walk_at "el"
    refine ⟨a, C, dx, fs, v, rfl, ha, B.own.cl, B.n3, hv, ?_⟩
    exact k
theorem ok_get_sure (F : Fun K "sure" "Book.sure" s_Book_sure f fd) (B : BkC K C) : FnOk P w K mg base CX0 1 f fd ["self"] (spGet C "_sure") := by
  refine F.ok sc_Book_sure (fun vs H Q E h => ?_) (fun cdv A outer s H vs Q E hr h => ?_)
  · obtain ⟨_, _, _, _, rfl, _⟩ := h
    rfl
  · obtain ⟨a, dx, fs, v, rfl, ha, hv, k⟩ := h
    refine ⟨_, (pss_one (ps_ret (pe_fld (pv 0) rfl))), ?_⟩
    walk_at "el"
    refine ⟨a, C, dx, fs, v, rfl, ha, B.own.cl, B.n4, hv, ?_⟩
    exact k
theorem ok_get_clauses (F : Fun K "clauses" "Book.clauses" s_Book_clauses f fd) (B : BkC K C) : FnOk P w K mg base CX0 1 f fd ["self"] (spGet C "_clauses") := by
  refine F.ok sc_Book_clauses (fun vs H Q E h => ?_) (fun cdv A outer s H vs Q E hr h => ?_)
  · obtain ⟨_, _, _, _, rfl, _⟩ := h
    rfl
  · obtain ⟨a, dx, fs, v, rfl, ha, hv, k⟩ := h
    refine ⟨_, (pss_one (ps_ret (pe_fld (pv 0) rfl))), ?_⟩
    walk_at "el"
    refine ⟨a, C, dx, fs, v, rfl, ha, B.own.cl, B.n5, hv, ?_⟩
    exact k
end
end EL

/- part S -/
namespace EL
open PySem PySem.Spec PyProof.Rows L2
open PySem.W (Frag)

local macro_rules | `(tactic| walk_at "el1") => `(tactic| with_reducible first
  | refine a_sasg ?_ | refine a_sdrop ?_ | refine a_saugS ?_ | refine a_spar ?_ | refine a_seq ?_ | refine a_asg ?_ | refine a_drop ?_ | refine a_ret ?_ | refine a_if ?_ | refine a_next ?_
  | refine a_op ?_ | refine a_cons ?_ | refine a_nil ?_ | refine a_cb ?_ | refine a_call ?_ | refine a_c ?_ | refine a_gn ?_ | refine a_nx ?_ | refine a_rt ?_ | refine a_un ?_
  | refine a_test ?_ | refine a_B ?_ | refine a_bl ?_ | refine a_and ?_ | refine a_or ?_ | refine a_not ?_ | refine a_andV ?_ | refine a_orV ?_ | refine a_notV ?_ | refine a_ifx ?_ | refine a_chain ?_
  | refine a_nT ?_ | refine a_nF ?_ | refine a_fld ?_ | refine a_getF ?_ | refine a_T ?_ | refine a_F ?_ | refine a_tup ?_ | refine a_lst ?_ | refine a_sub ?_ | refine a_augS ?_ | refine a_two ?_ | refine a_I0 ?_ | refine a_U ?_ | refine n_add ?_ | refine n_int ?_ | refine n_ib ?_ | refine a_ip ?_ | refine a_rng1 ?_ | refine a_rng2 ?_ | refine a_bm ?_ | refine a_abs ?_ | refine a_pairs ?_ | refine a_pairs0 ?_ | refine a_bk ?_ | refine a_prp ?_ | refine a_lc ?_ | refine a_yes ?_ | refine a_sl ?_ | refine a_nop ?_ | refine a_prt ?_ | refine a_ex1 ?_ | refine a_for ?_ | refine a_sfor ?_ | refine a_iE1 ?_ | refine a_iEs ?_ | refine a_iEz ?_ | refine a_iEnum ?_ | refine a_iTup ?_ | refine a_iList ?_ | refine a_gcons ?_ | refine a_gnil ?_ | refine a_revT ?_ | refine a_spar3 ?_ | refine a_par3 ?_ | refine a_three ?_)
local macro_rules | `(tactic| walk_at "el2") => `(tactic| first
  | (refine a_var (by rfl) ?_)
  | (refine n_ixL (SqL.of (by assumption)) (by rfl) ?_) | (refine n_ixT (SqT.of (by assumption)) (by rfl) ?_) | (refine n_eq (by rfl) ?_) | (refine n_ne (by rfl) ?_)
  | (refine n_isN ?_) | (refine n_notN ?_) | (refine n_isB ?_) | (refine n_notB ?_) | (refine n_isBI ?_) | (refine n_notBI ?_) | (refine n_len (.inl (SqL.of (by assumption))) ?_) | (refine n_len (.inr (SqT.of (by assumption))) ?_)
  | (refine a_getL (SqL.of (by assumption)) (by rfl) ?_)
  | (refine n_isInt (by assumption) ?_) | (refine n_isBool (by assumption) ?_) | (refine n_isStr (by assumption) ?_) | (refine n_isTup (by assumption) ?_) | (refine n_isLst (by assumption) ?_))
local macro_rules | `(tactic| walk_at "el") => `(tactic| repeat (first | walk_at "el1" | walk_at "el2"))

/-! ### a law's own look at ways -/
def spYes : Sp := fun vs H Q _ => ∃ x y : Bool, vs = [.bl x, .bl y] ∧ Q (.bl (decide (x = y))) H
def spWayL (K : Frag) : Sp := fun vs H Q _ => ∃ (g : Addr) (gs : List V) (G : List (Int × Int × Int)) (a b : Int) (x : V), vs = [.ref g, .int a, .int b, x] ∧ GapsAre K H g gs G ∧
  Th K H x ∧ (∀ (q : Addr) (xs : List V), x = .ref q → H q = some (.tup xs) → ∀ y ∈ xs, Th K H y) ∧ ∀ r, (r = true ↔ isWay H G a b x) → Q (.bl r) H
def spWalk (K : Frag) : Sp := fun vs H Q _ => ∃ (b c g : Addr) (gs : List V) (G : List (Int × Int × Int)) (a many : Int), vs = [.ref b, .ref g, .int a, .int many] ∧ Bag H b c ∧ g ≠ b ∧ H g = some (.lst gs) ∧ GapsAre K H g gs G ∧ gs.length ≤ 1000 ∧ 0 ≤ many ∧ many ≤ 1000 ∧
  ∀ H' r q (is : List Int) h, Bag H' b c → Kp b H H' → H' r = some (.tup [.ref q, .int h]) → H' q = some (.tup (is.map V.int)) → wayTo G a (is.map V.int) = some h → (is.length : Int) ≤ many → (∀ z ∈ is, 0 ≤ z ∧ z < G.length) → Q (.ref r) H'
section
variable {P : Program} {w : World} {K : Frag} {mg : Str → Option Value} {base : Heap} {f : Addr} {fd : FuncData} {C : Addr}
end
end EL

/- part Y -/
namespace EL
open PySem PySem.Spec PyProof.Rows L2
open PySem.W (Frag)

local macro_rules | `(tactic| walk_at "el1") => `(tactic| with_reducible first
  | refine a_sasg ?_ | refine a_sdrop ?_ | refine a_saugS ?_ | refine a_spar ?_ | refine a_seq ?_ | refine a_asg ?_ | refine a_drop ?_ | refine a_ret ?_ | refine a_if ?_ | refine a_next ?_
  | refine a_op ?_ | refine a_cons ?_ | refine a_nil ?_ | refine a_cb ?_ | refine a_call ?_ | refine a_c ?_ | refine a_gn ?_ | refine a_nx ?_ | refine a_rt ?_ | refine a_un ?_
  | refine a_test ?_ | refine a_B ?_ | refine a_bl ?_ | refine a_and ?_ | refine a_or ?_ | refine a_not ?_ | refine a_andV ?_ | refine a_orV ?_ | refine a_notV ?_ | refine a_ifx ?_ | refine a_chain ?_
  | refine a_nT ?_ | refine a_nF ?_ | refine a_fld ?_ | refine a_getF ?_ | refine a_T ?_ | refine a_F ?_ | refine a_tup ?_ | refine a_lst ?_ | refine a_sub ?_ | refine a_augS ?_ | refine a_two ?_ | refine a_I0 ?_ | refine a_U ?_ | refine n_add ?_ | refine n_int ?_ | refine n_ib ?_ | refine a_ip ?_ | refine a_rng1 ?_ | refine a_rng2 ?_ | refine a_bm ?_ | refine a_abs ?_ | refine a_pairs ?_ | refine a_pairs0 ?_ | refine a_bk ?_ | refine a_prp ?_ | refine a_lc ?_ | refine a_yes ?_ | refine a_sl ?_ | refine a_nop ?_ | refine a_prt ?_ | refine a_ex1 ?_ | refine a_for ?_ | refine a_sfor ?_ | refine a_iE1 ?_ | refine a_iEs ?_ | refine a_iEz ?_ | refine a_iEnum ?_ | refine a_iTup ?_ | refine a_iList ?_ | refine a_gcons ?_ | refine a_gnil ?_ | refine a_revT ?_ | refine a_spar3 ?_ | refine a_par3 ?_ | refine a_three ?_)
local macro_rules | `(tactic| walk_at "el2") => `(tactic| first
  | (refine a_var (by rfl) ?_)
  | (refine n_ixL (SqL.of (by assumption)) (by rfl) ?_) | (refine n_ixT (SqT.of (by assumption)) (by rfl) ?_) | (refine n_eq (by rfl) ?_) | (refine n_ne (by rfl) ?_)
  | (refine n_isN ?_) | (refine n_notN ?_) | (refine n_isB ?_) | (refine n_notB ?_) | (refine n_isBI ?_) | (refine n_notBI ?_) | (refine n_len (.inl (SqL.of (by assumption))) ?_) | (refine n_len (.inr (SqT.of (by assumption))) ?_)
  | (refine a_getL (SqL.of (by assumption)) (by rfl) ?_)
  | (refine n_isInt (by assumption) ?_) | (refine n_isBool (by assumption) ?_) | (refine n_isStr (by assumption) ?_) | (refine n_isTup (by assumption) ?_) | (refine n_isLst (by assumption) ?_))
local macro_rules | `(tactic| walk_at "el") => `(tactic| repeat (first | walk_at "el1" | walk_at "el2"))

/-! ### a book and a law's four lists, as numbers and words -/
theorem upd_at {H : Hp} {p : Addr} (_ : H p = none) (o : HO) : upd H p o p = some o := upd_same
theorem Bag.neT {H : Hp} {b c p : Addr} {xs : List V} (h : Bag H b c) (hp : H p = some (.tup xs)) : p ≠ b := fun z => by
  obtain ⟨i, j, k, cs, h1, _⟩ := h
  subst z
  rw [h1] at hp
  cases hp
theorem Bag.neL {H : Hp} {b c : Addr} {xs : List V} (h : Bag H b c) (hp : H b = some (.lst xs)) : xs.length ≠ 4 → False := fun z => by
  obtain ⟨i, j, k, cs, h1, _⟩ := h
  rw [h1] at hp
  cases hp
  exact z rfl
theorem SqT.kpB {K : Frag} {H H' : Hp} {a b c : Addr} {xs : List V} (h : SqT K H a xs) (hb : Bag H b c) (k : Kp b H H') : SqT K H' a xs := by
  obtain ⟨_, _, _, _, q, _⟩ := hb
  rcases h with (h | ⟨o, h⟩) | h
  · exact .inl (.inl (k _ _ (fun z => by subst z; rw [q] at h; cases h) h))
  · exact .inl (.inr ⟨_, k _ _ (fun z => by subst z; rw [q] at h; cases h) h⟩)
  · exact .inr h
structure RowsAre {α : Type} (enc : α → List V) (H : Hp) (xs : List V) (D : List α) : Prop where
  len : xs.length = D.length
  at_ : ∀ (i : Nat) (v : V), xs[i]? = some v → ∃ (q : Addr) (x : α), v = .ref q ∧ D[i]? = some x ∧ H q = some (.tup (enc x))
section
variable {α : Type} {enc : α → List V} {H H' : Hp} {xs : List V} {D : List α} {b c : Addr}
theorem RowsAre.same (h : RowsAre enc H xs D) (s : Same H H') : RowsAre enc H' xs D := ⟨h.len, fun i v hv => by
  obtain ⟨q, x, e, hx, hq⟩ := h.at_ i v hv
  exact ⟨q, x, e, hx, s _ _ hq⟩⟩
theorem RowsAre.kp (h : RowsAre enc H xs D) (hb : Bag H b c) (k : Kp b H H') : RowsAre enc H' xs D := ⟨h.len, fun i v hv => by
  obtain ⟨q, x, e, hx, hq⟩ := h.at_ i v hv
  exact ⟨q, x, e, hx, k _ _ (hb.neT hq) hq⟩⟩
theorem RowsAre.get (h : RowsAre enc H xs D) {i : Nat} {x : α} (e : D[i]? = some x) : ∃ q, xs[i]? = some (.ref q) ∧ H q = some (.tup (enc x)) := by
  have l : i < xs.length := by rw [h.len]; exact (List.getElem?_eq_some_iff.mp e).1
  obtain ⟨q, y, e1, e2, e3⟩ := h.at_ i _ (List.getElem?_eq_getElem l)
  rw [e] at e2
  cases e2
  exact ⟨q, by rw [List.getElem?_eq_getElem l, e1], e3⟩
end
abbrev encT (x : Int × Int × Int) : List V := [.int x.1, .int x.2.1, .int x.2.2]
abbrev encS (x : Int × Str × Int) : List V := [.int x.1, .str x.2.1, .int x.2.2]
abbrev encL (x : Int × Str × Int × Str) : List V := [.int x.1, .str x.2.1, .int x.2.2.1, .str x.2.2.2]
theorem RowsAre.gaps {K : Frag} {H : Hp} {g : Addr} {gs : List V} {G : List (Int × Int × Int)} (h : RowsAre encT H gs G) (s : SqA K H g gs) : GapsAre K H g gs G := ⟨s, h.len, h.at_⟩
/-- what a book says -/
structure PD where
  T : List (Int × Int × Int)
  G : List (Int × Int × Int)
  S : List (Int × Str × Int)
  L : List (Int × Str × Int × Str)
def NumOk (x : Int) : Prop := -1000000000000000 ≤ x ∧ x ≤ 1000000000000000
structure PD.Ok (D : PD) (ev wi : Int) : Prop where
  t : ∀ x ∈ D.T, (0 ≤ x.1 ∧ x.1 < wi) ∧ (0 ≤ x.2.1 ∧ x.2.1 < ev) ∧ NumOk x.2.2
  g : ∀ x ∈ D.G, (0 ≤ x.1 ∧ x.1 < ev) ∧ (0 ≤ x.2.1 ∧ x.2.1 < ev) ∧ NumOk x.2.2
  s : ∀ x ∈ D.S, (0 ≤ x.1 ∧ x.1 < ev) ∧ (x.2.1 = "least" ∨ x.2.1 = "most") ∧ NumOk x.2.2
  l : ∀ x ∈ D.L, (0 ≤ x.1 ∧ x.1 < wi) ∧ (x.2.1 = "early" ∨ x.2.1 = "late") ∧ (0 ≤ x.2.2.1 ∧ x.2.2.1 < wi) ∧ (x.2.2.2 = "early" ∨ x.2.2.2 = "late")
theorem num_ok {x : V} (h : numB x = true) : ∃ n, x = .int n ∧ NumOk n := by
  cases x with
  | int n =>
    have q : (decide (-1000000000000000 ≤ n) && decide (n ≤ 1000000000000000)) = true := h
    rw [Bool.and_eq_true, decide_eq_true_iff, decide_eq_true_iff] at q
    exact ⟨n, rfl, q⟩
  | _ => cases h
theorem kind_ok {x : V} (h : kindB x = true) : ∃ s, x = .str s ∧ (s = "early" ∨ s = "late") := by
  cases x with
  | str s =>
    have q : (decide (s = "early") || decide (s = "late")) = true := h
    rw [Bool.or_eq_true, decide_eq_true_iff, decide_eq_true_iff] at q
    exact ⟨s, rfl, q⟩
  | _ => cases h
theorem side_ok {x : V} (h : sideB x = true) : ∃ s, x = .str s ∧ (s = "least" ∨ s = "most") := by
  cases x with
  | str s =>
    have q : (decide (s = "least") || decide (s = "most")) = true := h
    rw [Bool.or_eq_true, decide_eq_true_iff, decide_eq_true_iff] at q
    exact ⟨s, rfl, q⟩
  | _ => cases h
theorem item_tel_inv {H : Hp} {x : V} {ev wi : Int} (h : ItemOk .tel H x ev wi) : ∃ (q : Addr) (y : Int × Int × Int), x = .ref q ∧ H q = some (.tup (encT y)) ∧ (0 ≤ y.1 ∧ y.1 < wi) ∧ (0 ≤ y.2.1 ∧ y.2.1 < ev) ∧ NumOk y.2.2 := by
  obtain ⟨q, xs, rfl, hq, hl, hs⟩ := h
  match xs, hl with
  | [x0, x1, x2], _ =>
    have h0 : belowB x0 wi = true := (st_w (x := x0)).symm.trans (hs 0 (by decide) "witness" x0 rfl rfl)
    have h1 : belowB x1 ev = true := (st_e (x := x1)).symm.trans (hs 1 (by decide) "event" x1 rfl rfl)
    have h2 : numB x2 = true := (st_n (x := x2)).symm.trans (hs 2 (by decide) "number" x2 rfl rfl)
    obtain ⟨a, rfl, a0⟩ := below_int h0
    obtain ⟨e, rfl, e0⟩ := below_int h1
    obtain ⟨n, rfl, n0⟩ := num_ok h2
    exact ⟨q, (a, e, n), rfl, hq, a0, e0, n0⟩
theorem item_gap_inv2 {H : Hp} {x : V} {ev wi : Int} (h : ItemOk .gap H x ev wi) : ∃ (q : Addr) (y : Int × Int × Int), x = .ref q ∧ H q = some (.tup (encT y)) ∧ (0 ≤ y.1 ∧ y.1 < ev) ∧ (0 ≤ y.2.1 ∧ y.2.1 < ev) ∧ NumOk y.2.2 := by
  obtain ⟨q, xs, rfl, hq, hl, hs⟩ := id h
  obtain ⟨q2, a, e, n, e1, hq2, a0, a1, e0, e1', _⟩ := item_gap_inv h
  cases e1
  rw [hq] at hq2
  cases hq2
  have h2 : numB (.int n) = true := (st_n (x := .int n)).symm.trans (hs 2 (by decide) "number" (.int n) rfl rfl)
  obtain ⟨n', en, n0⟩ := num_ok h2
  cases en
  exact ⟨q, (a, e, n), rfl, hq, ⟨a0, a1⟩, ⟨e0, e1'⟩, n0⟩
theorem item_sur_inv {H : Hp} {x : V} {ev wi : Int} (h : ItemOk .sur H x ev wi) : ∃ (q : Addr) (y : Int × Str × Int), x = .ref q ∧ H q = some (.tup (encS y)) ∧ (0 ≤ y.1 ∧ y.1 < ev) ∧ (y.2.1 = "least" ∨ y.2.1 = "most") ∧ NumOk y.2.2 := by
  obtain ⟨q, xs, rfl, hq, hl, hs⟩ := h
  match xs, hl with
  | [x0, x1, x2], _ =>
    have h0 : belowB x0 ev = true := (st_e (x := x0)).symm.trans (hs 0 (by decide) "event" x0 rfl rfl)
    have h1 : sideB x1 = true := (st_s (x := x1)).symm.trans (hs 1 (by decide) "side" x1 rfl rfl)
    have h2 : numB x2 = true := (st_n (x := x2)).symm.trans (hs 2 (by decide) "number" x2 rfl rfl)
    obtain ⟨a, rfl, a0⟩ := below_int h0
    obtain ⟨e, rfl, e0⟩ := side_ok h1
    obtain ⟨n, rfl, n0⟩ := num_ok h2
    exact ⟨q, (a, e, n), rfl, hq, a0, e0, n0⟩
theorem item_cla_inv {H : Hp} {x : V} {ev wi : Int} (h : ItemOk .cla H x ev wi) : ∃ (q : Addr) (y : Int × Str × Int × Str), x = .ref q ∧ H q = some (.tup (encL y)) ∧ (0 ≤ y.1 ∧ y.1 < wi) ∧ (y.2.1 = "early" ∨ y.2.1 = "late") ∧ (0 ≤ y.2.2.1 ∧ y.2.2.1 < wi) ∧ (y.2.2.2 = "early" ∨ y.2.2.2 = "late") := by
  obtain ⟨q, xs, rfl, hq, hl, hs⟩ := h
  match xs, hl with
  | [x0, x1, x2, x3], _ =>
    have h0 : belowB x0 wi = true := (st_w (x := x0)).symm.trans (hs 0 (by decide) "witness" x0 rfl rfl)
    have h1 : kindB x1 = true := (st_k (x := x1)).symm.trans (hs 1 (by decide) "kind" x1 rfl rfl)
    have h2 : belowB x2 wi = true := (st_w (x := x2)).symm.trans (hs 2 (by decide) "witness" x2 rfl rfl)
    have h3 : kindB x3 = true := (st_k (x := x3)).symm.trans (hs 3 (by decide) "kind" x3 rfl rfl)
    obtain ⟨a, rfl, a0⟩ := below_int h0
    obtain ⟨e, rfl, e0⟩ := kind_ok h1
    obtain ⟨v, rfl, v0⟩ := below_int h2
    obtain ⟨n, rfl, n0⟩ := kind_ok h3
    exact ⟨q, (a, e, v, n), rfl, hq, a0, e0, v0, n0⟩
theorem rows_of {α : Type} {enc : α → List V} {P : α → Prop} {H : Hp} : ∀ (xs : List V), (∀ x ∈ xs, ∃ (q : Addr) (y : α), x = .ref q ∧ H q = some (.tup (enc y)) ∧ P y) → ∃ D : List α, RowsAre enc H xs D ∧ ∀ y ∈ D, P y
  | [], _ => ⟨[], ⟨rfl, fun i v h => by cases h⟩, fun _ h => nomatch h⟩
  | x :: r, h => by
    obtain ⟨D, R, p⟩ := rows_of r fun x hx => h x (List.mem_cons_of_mem _ hx)
    obtain ⟨q, y, rfl, hq, py⟩ := h x (List.mem_cons_self ..)
    refine ⟨y :: D, ⟨by rw [List.length_cons, List.length_cons, R.len], fun i v hv => ?_⟩, fun z hz => (List.mem_cons.mp hz).elim (fun e => e ▸ py) (p z)⟩
    cases i with
    | zero => cases hv; exact ⟨q, y, rfl, rfl, hq⟩
    | succ i => exact R.at_ i v hv
/-- addresses and sizes of a book -/
structure BA where
  o : Addr
  dx : Addr
  t : Addr
  g : Addr
  s : Addr
  q : Addr
  ev : Int
  wi : Int
  xs : Pt → List V
/-- the rows of four parts -/
structure PR (H : Hp) (xs : Pt → List V) (D : PD) : Prop where
  t : RowsAre encT H (xs .tel) D.T
  g : RowsAre encT H (xs .gap) D.G
  s : RowsAre encS H (xs .sur) D.S
  l : RowsAre encL H (xs .cla) D.L
theorem PR.same {H H' : Hp} {xs : Pt → List V} {D : PD} (h : PR H xs D) (s : Same H H') : PR H' xs D := ⟨h.t.same s, h.g.same s, h.s.same s, h.l.same s⟩
theorem PR.kp {H H' : Hp} {xs : Pt → List V} {D : PD} {b c : Addr} (h : PR H xs D) (hb : Bag H b c) (k : Kp b H H') : PR H' xs D := ⟨h.t.kp hb k, h.g.kp hb k, h.s.kp hb k, h.l.kp hb k⟩
theorem pr_of {H : Hp} {xs : Pt → List V} {ev wi : Int} (h : ∀ t, ∀ x ∈ xs t, ItemOk t H x ev wi) : ∃ D : PD, PR H xs D ∧ D.Ok ev wi := by
  obtain ⟨T, rT, bT⟩ := rows_of (xs .tel) fun x hx => item_tel_inv (h .tel x hx)
  obtain ⟨G, rG, bG⟩ := rows_of (xs .gap) fun x hx => item_gap_inv2 (h .gap x hx)
  obtain ⟨S, rS, bS⟩ := rows_of (xs .sur) fun x hx => item_sur_inv (h .sur x hx)
  obtain ⟨L, rL, bL⟩ := rows_of (xs .cla) fun x hx => item_cla_inv (h .cla x hx)
  exact ⟨⟨T, G, S, L⟩, ⟨rT, rG, rS, rL⟩, ⟨bT, bG, bS, bL⟩⟩
/-- a book in the heap -/
structure BB (K : Frag) (C : Addr) (H : Hp) (A : BA) (D : PD) : Prop where
  bk : H A.o = some (bookO C A.dx A.ev A.wi A.t A.g A.s A.q)
  tT : SqT K H A.t (A.xs .tel)
  tG : SqT K H A.g (A.xs .gap)
  tS : SqT K H A.s (A.xs .sur)
  tL : SqT K H A.q (A.xs .cla)
  r : PR H A.xs D
theorem BB.same {K : Frag} {C : Addr} {H H' : Hp} {A : BA} {D : PD} (h : BB K C H A D) (s : Same H H') : BB K C H' A D := ⟨s _ _ h.bk, h.tT.same s, h.tG.same s, h.tS.same s, h.tL.same s, h.r.same s⟩
theorem BB.kp {K : Frag} {C : Addr} {H H' : Hp} {A : BA} {D : PD} {b c : Addr} (h : BB K C H A D) (hb : Bag H b c) (k : Kp b H H') : BB K C H' A D := by
  have nb : A.o ≠ b := fun z => by
    obtain ⟨_, _, _, _, w, _⟩ := hb
    have := h.bk
    rw [z, w] at this
    cases this
  exact ⟨k _ _ nb h.bk, SqT.kpB h.tT hb k, SqT.kpB h.tG hb k, SqT.kpB h.tS hb k, SqT.kpB h.tL hb k, h.r.kp hb k⟩
/-- a law's four lists in a list -/
structure LP (H : Hp) (b p : Addr) (l : Pt → Addr) (xs : Pt → List V) (D : PD) : Prop where
  hp : H p = some (.lst [.ref (l .tel), .ref (l .gap), .ref (l .sur), .ref (l .cla)])
  np : p ≠ b
  hl : ∀ u, H (l u) = some (.lst (xs u))
  nl : ∀ u, l u ≠ b
  r : PR H xs D
theorem LP.same {H H' : Hp} {b p : Addr} {l : Pt → Addr} {xs : Pt → List V} {D : PD} (h : LP H b p l xs D) (s : Same H H') : LP H' b p l xs D := ⟨s _ _ h.hp, h.np, fun u => s _ _ (h.hl u), h.nl, h.r.same s⟩
theorem LP.kp {H H' : Hp} {b c p : Addr} {l : Pt → Addr} {xs : Pt → List V} {D : PD} (h : LP H b p l xs D) (hb : Bag H b c) (k : Kp b H H') : LP H' b p l xs D := ⟨k _ _ h.np h.hp, h.np, fun u => k _ _ (h.nl u) (h.hl u), h.nl, h.r.kp hb k⟩
/-- both, and the bag -/
structure WW (K : Frag) (C b c : Addr) (H : Hp) (A : BA) (p : Addr) (l : Pt → Addr) (D : PD) : Prop where
  bag : Bag H b c
  bb : BB K C H A D
  lp : LP H b p l A.xs D
section
variable {K : Frag} {C b c : Addr} {H H' : Hp} {A : BA} {p : Addr} {l : Pt → Addr} {D : PD}
theorem WW.kp (h : WW K C b c H A p l D) (hb : Bag H' b c) (k : Kp b H H') : WW K C b c H' A p l D := ⟨hb, h.bb.kp h.bag k, h.lp.kp h.bag k⟩
theorem WW.same (h : WW K C b c H A p l D) (s : Same H H') : WW K C b c H' A p l D := ⟨h.bag.same s, h.bb.same s, h.lp.same s⟩
end
/-! ### a law makes a book of its lists -/
def spMade (K : Frag) (C : Addr) : Sp := fun vs H Q _ => ∃ (ev wi : Int) (p : Addr) (l : Pt → Addr) (xs : Pt → List V), vs = [.int ev, .int wi, .ref p] ∧ 0 ≤ ev ∧ ev ≤ 8 ∧ 0 ≤ wi ∧ wi ≤ 8 ∧ H p = some (.lst [.ref (l .tel), .ref (l .gap), .ref (l .sur), .ref (l .cla)]) ∧ (∀ u, PartOk K u H (l u) (xs u) ev wi) ∧
  ∀ H' o dx t g s q, Same H H' → H' o = some (bookO C dx ev wi t g s q) → SqT K H' t (xs .tel) → SqT K H' g (xs .gap) → SqT K H' s (xs .sur) → SqT K H' q (xs .cla) → Q (.ref o) H'
section
variable {P : Program} {w : World} {K : Frag} {mg : Str → Option Value} {base : Heap} {f : Addr} {fd : FuncData} {C : Addr} {Dk : BookD}
end
end EL

/- part BM -/
namespace EL
open PySem PySem.Spec PyProof.Rows L2
open PySem.W (Frag)
abbrev s_Book_is_plain : Stmt := inClass (top 27) 8
abbrev N_Book_is_plain : List Str := ["self"]
theorem sc_Book_is_plain : FnScope N_Book_is_plain ["self"] (defScope s_Book_is_plain) := ⟨rfl, rfl, rfl, by decide +kernel, rfl, by decide +kernel, by decide +kernel⟩
abbrev s_Book_told_by : Stmt := inClass (top 27) 9
abbrev N_Book_told_by : List Str := ["self", "w"]
theorem sc_Book_told_by : FnScope N_Book_told_by ["self", "w"] (defScope s_Book_told_by) := ⟨rfl, rfl, rfl, by decide +kernel, rfl, by decide +kernel, by decide +kernel⟩
local macro_rules | `(tactic| walk_at "el1") => `(tactic| with_reducible first
  | refine a_sasg ?_ | refine a_sdrop ?_ | refine a_saugS ?_ | refine a_spar ?_ | refine a_seq ?_ | refine a_asg ?_ | refine a_drop ?_ | refine a_ret ?_ | refine a_if ?_ | refine a_next ?_
  | refine a_op ?_ | refine a_cons ?_ | refine a_nil ?_ | refine a_cb ?_ | refine a_call ?_ | refine a_c ?_ | refine a_gn ?_ | refine a_nx ?_ | refine a_rt ?_ | refine a_un ?_
  | refine a_test ?_ | refine a_B ?_ | refine a_bl ?_ | refine a_and ?_ | refine a_or ?_ | refine a_not ?_ | refine a_andV ?_ | refine a_orV ?_ | refine a_notV ?_ | refine a_ifx ?_ | refine a_chain ?_
  | refine a_nT ?_ | refine a_nF ?_ | refine a_fld ?_ | refine a_getF ?_ | refine a_T ?_ | refine a_F ?_ | refine a_tup ?_ | refine a_lst ?_ | refine a_sub ?_ | refine a_augS ?_ | refine a_two ?_ | refine a_I0 ?_ | refine a_U ?_ | refine n_add ?_ | refine n_int ?_ | refine n_ib ?_ | refine a_ip ?_ | refine a_rng1 ?_ | refine a_rng2 ?_ | refine a_bm ?_ | refine a_abs ?_ | refine a_pairs ?_ | refine a_pairs0 ?_ | refine a_bk ?_ | refine a_prp ?_ | refine a_lc ?_ | refine a_yes ?_ | refine a_sl ?_ | refine a_nop ?_ | refine a_prt ?_ | refine a_ex1 ?_ | refine a_for ?_ | refine a_sfor ?_ | refine a_iE1 ?_ | refine a_iEs ?_ | refine a_iEz ?_ | refine a_iEnum ?_ | refine a_iTup ?_ | refine a_iList ?_ | refine a_gcons ?_ | refine a_gnil ?_ | refine a_revT ?_ | refine a_spar3 ?_ | refine a_par3 ?_ | refine a_three ?_)
local macro_rules | `(tactic| walk_at "el2") => `(tactic| first
  | (refine a_var (by rfl) ?_)
  | (refine n_ixL (SqL.of (by assumption)) (by rfl) ?_) | (refine n_ixT (SqT.of (by assumption)) (by rfl) ?_) | (refine n_eq (by rfl) ?_) | (refine n_ne (by rfl) ?_)
  | (refine n_isN ?_) | (refine n_notN ?_) | (refine n_isB ?_) | (refine n_notB ?_) | (refine n_isBI ?_) | (refine n_notBI ?_) | (refine n_len (.inl (SqL.of (by assumption))) ?_) | (refine n_len (.inr (SqT.of (by assumption))) ?_)
  | (refine a_getL (SqL.of (by assumption)) (by rfl) ?_)
  | (refine n_isInt (by assumption) ?_) | (refine n_isBool (by assumption) ?_) | (refine n_isStr (by assumption) ?_) | (refine n_isTup (by assumption) ?_) | (refine n_isLst (by assumption) ?_))
local macro_rules | `(tactic| walk_at "el") => `(tactic| repeat (first | walk_at "el1" | walk_at "el2"))

/-! ### methods of a book -/
structure MthG (P : Program) (w : World) (K : Frag) (mg : Str → Option Value) (base : Heap) (C : Addr) (k : Nat) (m : Str) (ps : List Str) (sp : Sp) : Prop where
  ex : ∃ f fd, Meth K C m f ∧ FnOk P w K mg base CX0 k f fd ps sp ∧ L2.Binds K fd ps []
  cl : Cls K C
theorem pe_mth {X : Cx} {C : Addr} {k : Nat} {m : Str} {ps : List Str} {sp : Sp} {o e : Expr} {es : List Expr} {ta : TE} {t : TA} {pos : Pos} {apos : Pos} {pl : Sem Bool} (G : MthG X.prog X.w X.K X.mg X.base C k m ps sp) (hr : Room k X.A) (hx : Passes CX0 X E0) (he : PE X o ta) (ha : PA X (e :: es) t)
    (hst : starEach (e :: es) X.env = (false, eval e X.env) :: starEach es X.env := by rfl) (hpl : (backTo pos (starEach es X.env)).any (·.1) = false := by rfl)
    (ht : eval (.Call (.Attribute o m apos) (e :: es) [] pos) X.env = (do
      let ov ← eval o X.env
      standAt apos.atName
      let (f, first) ← holding [ov] (getMethod ov m pl)
      callWith pos f first (backTo pos (starEach (e :: es) X.env)) (backToKw pos (keywordEach [] X.env))) := by rfl) :
    PE X (.Call (.Attribute o m apos) (e :: es) [] pos) (tMeth C m sp [] E0 ta t) := by
  obtain ⟨f, fd, hm, F, hb⟩ := G.ex
  exact pe_meth he G.cl hm F hr hb .nil hx ha hst hpl ht
def plainB (D : PD) : Bool := D.L.all fun x => decide (x.1 = x.2.2.1) || !decide (x.2.1 = x.2.2.2)
def toldI (D : PD) (w : Int) (n : Nat) : List Int := ((List.range n).filter fun i => decide ((D.T[i]?).map (fun x => x.1) = some w)).map Int.ofNat
theorem told_succ {D : PD} {w : Int} {n : Nat} : toldI D w (n + 1) = toldI D w n ++ (if (D.T[n]?).map (fun x => x.1) = some w then [(n : Int)] else []) := by
  unfold toldI
  rw [List.range_succ, List.filter_append, List.map_append, List.filter_cons]
  congr 1
  by_cases h : (D.T[n]?).map (fun x => x.1) = some w
  · rw [if_pos h, if_pos (decide_eq_true h)]; rfl
  · rw [if_neg h, if_neg (fun z => h (of_decide_eq_true z))]; rfl
theorem told_len {D : PD} {w : Int} {n : Nat} : (toldI D w n).length ≤ n := by
  unfold toldI
  rw [List.length_map]
  exact Nat.le_trans (List.length_filter_le ..) (by rw [List.length_range]; exact Nat.le_refl _)
def spPlain (K : Frag) (C : Addr) : Sp := fun vs H Q _ => ∃ (A : BA) (D : PD), vs = [.ref A.o] ∧ BB K C H A D ∧ D.L.length ≤ 1000 ∧ ∀ H', Same H H' → Q (.bl (plainB D)) H'
def spTold (K : Frag) (C : Addr) : Sp := fun vs H Q _ => ∃ (A : BA) (D : PD) (w : Int), vs = [.ref A.o, .int w] ∧ BB K C H A D ∧ D.T.length ≤ 1000 ∧ ∀ H' r, Same H H' → H r = none → H' r = some (.lst ((toldI D w D.T.length).map V.int)) → Q (.ref r) H'
section
variable {P : Program} {w : World} {K : Frag} {mg : Str → Option Value} {base : Heap} {f : Addr} {fd : FuncData} {C : Addr}
def spPlC : Sp := fun vs H Q _ => ∃ (a : Addr) (y : Int × Str × Int × Str), vs = [.ref a] ∧ H a = some (.tup (encL y)) ∧ Q (.bl (decide (y.1 = y.2.2.1) || !decide (y.2.1 = y.2.2.2))) H
/-! a book's parts as data -/
abbrev dT (x : Int × Int × Int) : PyData := .tuple [.int x.1, .int x.2.1, .int x.2.2]
abbrev dS (x : Int × Str × Int) : PyData := .tuple [.int x.1, .str x.2.1, .int x.2.2]
abbrev dL (x : Int × Str × Int × Str) : PyData := .tuple [.int x.1, .str x.2.1, .int x.2.2.1, .str x.2.2.2]
theorem rows_tail {α : Type} {enc : α → List V} {H : Hp} {v : V} {xs : List V} {y : α} {D : List α} (h : RowsAre enc H (v :: xs) (y :: D)) : RowsAre enc H xs D := ⟨Nat.succ.inj h.len, fun i w hw => by
  obtain ⟨q, x, a, b, c⟩ := h.at_ (i + 1) w hw
  exact ⟨q, x, a, b, c⟩⟩
theorem rows_dp {α : Type} {enc : α → List V} {dec : α → PyData} {K : Frag} {H : Hp} (he : ∀ (q : Addr) (x : α), H q = some (.tup (enc x)) → Dp K H (.ref q) (dec x)) : ∀ {xs : List V} {D : List α}, RowsAre enc H xs D → DpAll K H xs (D.map dec)
  | [], [], _ => .nil
  | [], _ :: _, h => by have := h.len; simp at this
  | _ :: _, [], h => by have := h.len; simp at this
  | v :: xs, y :: D, h => by
    obtain ⟨q, x, rfl, hx, hq⟩ := h.at_ 0 v rfl
    cases hx
    exact .cons (he q _ hq) (rows_dp he (rows_tail h))
theorem dp_T {K : Frag} {H : Hp} {q : Addr} {x : Int × Int × Int} (h : H q = some (.tup (encT x))) : Dp K H (.ref q) (dT x) := .tup (SqT.of h) (.cons (.int _) (.cons (.int _) (.cons (.int _) .nil)))
theorem dp_S {K : Frag} {H : Hp} {q : Addr} {x : Int × Str × Int} (h : H q = some (.tup (encS x))) : Dp K H (.ref q) (dS x) := .tup (SqT.of h) (.cons (.int _) (.cons (.str _) (.cons (.int _) .nil)))
theorem dp_L {K : Frag} {H : Hp} {q : Addr} {x : Int × Str × Int × Str} (h : H q = some (.tup (encL x))) : Dp K H (.ref q) (dL x) := .tup (SqT.of h) (.cons (.int _) (.cons (.str _) (.cons (.int _) (.cons (.str _) .nil))))
theorem dp_app {K : Frag} {H : Hp} : ∀ {vs ws : List V} {ds es : List PyData}, DpAll K H vs ds → DpAll K H ws es → DpAll K H (vs ++ ws) (ds ++ es)
  | [], _, _, _, .nil, h => h
  | _ :: _, _, _, _, .cons h t, k => .cons h (dp_app t k)
def bookD (D : PD) (ev wi : Int) : PyData := .list [.int ev, .int wi, .tuple (D.T.map dT), .tuple (D.G.map dT), .tuple (D.S.map dS), .tuple (D.L.map dL)]
theorem num_abs {x : Int} (h : NumOk x) : x.natAbs < 10 ^ 40 := by
  obtain ⟨a, b⟩ := h
  exact Nat.lt_of_lt_of_le (m := 1000000000000001) (by omega) (by decide)
theorem small_abs {x : Int} (h : 0 ≤ x) (h2 : x ≤ 1000) : x.natAbs < 10 ^ 40 := Nat.lt_of_lt_of_le (m := 1001) (by omega) (by decide)
theorem sz_word {s : Str} (h : s = "early" ∨ s = "late" ∨ s = "least" ∨ s = "most") : Sz 5 0 (.str s) := by
  rcases h with rfl | rfl | rfl | rfl <;> exact (sz_str (by decide +kernel)).le (by decide +kernel) (by decide)
theorem bookD_fine {D : PD} {ev wi : Int} (ok : D.Ok ev wi) (e0 : 0 ≤ ev) (e8 : ev ≤ 8) (w0 : 0 ≤ wi) (w8 : wi ≤ 8) (l : D.T.length ≤ 100 ∧ D.G.length ≤ 100 ∧ D.S.length ≤ 100 ∧ D.L.length ≤ 100) : Fine (bookD D ev wi) := by
  have part : ∀ {α : Type} {dec : α → PyData} {E : List α}, (∀ x ∈ E, Sz 30 1 (dec x)) → E.length ≤ 100 → Sz 3100 2 (.tuple (E.map dec)) := fun {α dec E} h hl => by
    refine (sz_tup (n := 30) (k := 1) fun d hd => ?_).le (Nat.le_trans (Nat.mul_le_mul_right _ (by rw [List.length_map]; exact hl)) (by decide)) (by decide)
    obtain ⟨x, hx, rfl⟩ := List.mem_map.mp hd
    exact h x hx
  have i0 : ∀ {x : Int}, x.natAbs < 10 ^ 40 → Sz 5 0 (.int x) := fun h => (sz_int h).le (by decide) (by decide)
  have t3 : ∀ {a c d : PyData}, Sz 5 0 a → Sz 5 0 c → Sz 5 0 d → Sz 30 1 (.tuple [a, c, d]) := fun h1 h2 h3 => (sz_tup (n := 5) (k := 0) (all_cons h1 (all_cons h2 (all_cons h3 all_nil)))).le (by show 3 * 6 ≤ 30; decide) (by decide)
  have t4 : ∀ {a c d e : PyData}, Sz 5 0 a → Sz 5 0 c → Sz 5 0 d → Sz 5 0 e → Sz 30 1 (.tuple [a, c, d, e]) := fun h1 h2 h3 h4 => (sz_tup (n := 5) (k := 0) (all_cons h1 (all_cons h2 (all_cons h3 (all_cons h4 all_nil))))).le (by show 4 * 6 ≤ 30; decide) (by decide)
  have z : Sz (6 * (3100 + 1)) 3 (bookD D ev wi) := by
    refine sz_lst (n := 3100) (k := 2) (ds := [.int ev, .int wi, .tuple (D.T.map dT), .tuple (D.G.map dT), .tuple (D.S.map dS), .tuple (D.L.map dL)]) (all_cons ((i0 (small_abs e0 (by omega))).le (by decide) (by decide)) (all_cons ((i0 (small_abs w0 (by omega))).le (by decide) (by decide)) (all_cons (part (fun x hx => ?_) l.1) (all_cons (part (fun x hx => ?_) l.2.1) (all_cons (part (fun x hx => ?_) l.2.2.1) (all_cons (part (fun x hx => ?_) l.2.2.2) all_nil))))))
    · have o := ok.t x hx
      exact t3 (i0 (small_abs o.1.1 (by omega))) (i0 (small_abs o.2.1.1 (by omega))) (i0 (num_abs o.2.2))
    · have o := ok.g x hx
      exact t3 (i0 (small_abs o.1.1 (by omega))) (i0 (small_abs o.2.1.1 (by omega))) (i0 (num_abs o.2.2))
    · have o := ok.s x hx
      exact t3 (i0 (small_abs o.1.1 (by omega))) (sz_word (o.2.1.elim (fun h => .inr (.inr (.inl h))) fun h => .inr (.inr (.inr h)))) (i0 (num_abs o.2.2))
    · have o := ok.l x hx
      exact t4 (i0 (small_abs o.1.1 (by omega))) (sz_word (o.2.1.elim .inl fun h => .inr (.inl h))) (i0 (small_abs o.2.2.1.1 (by omega))) (sz_word (o.2.2.2.elim .inl fun h => .inr (.inl h)))
  exact z.fine (by decide) (by decide)
def spBookIs (K : Frag) (C : Addr) : Sp := fun vs H Q _ => ∃ (A : BA) (D : PD) (b p : Addr) (l : Pt → Addr) (xs : Pt → List V), vs = [.ref A.o, .int A.ev, .int A.wi, .ref p] ∧ BB K C H A D ∧ LP H b p l xs D ∧ D.Ok A.ev A.wi ∧ 0 ≤ A.ev ∧ A.ev ≤ 8 ∧ 0 ≤ A.wi ∧ A.wi ≤ 8 ∧
  (D.T.length ≤ 100 ∧ D.G.length ≤ 100 ∧ D.S.length ≤ 100 ∧ D.L.length ≤ 100) ∧ ∀ H', Same H H' → Q (.bl true) H'
end
end EL

/- part BG -/
namespace EL
open PySem PySem.Spec PyProof.Rows L2
open PySem.W (Frag)
abbrev s_Bookparts_by_name : Stmt := inClass (top 27) 23
abbrev N_Bookparts_by_name : List Str := ["self"]
theorem sc_Bookparts_by_name : FnScope N_Bookparts_by_name ["self"] (defScope s_Bookparts_by_name) := ⟨rfl, rfl, rfl, by decide +kernel, rfl, by decide +kernel, by decide +kernel⟩
abbrev s_Bookwith_parts : Stmt := inClass (top 27) 24
abbrev N_Bookwith_parts : List Str := ["self", "parts"]
theorem sc_Bookwith_parts : FnScope N_Bookwith_parts ["self", "parts"] (defScope s_Bookwith_parts) := ⟨rfl, rfl, rfl, by decide +kernel, rfl, by decide +kernel, by decide +kernel⟩
abbrev s_Book_with_item : Stmt := inClass (top 27) 15
abbrev N_Book_with_item : List Str := ["self", "part", "item", "wrong", "parts"]
theorem sc_Book_with_item : FnScope N_Book_with_item ["self", "part", "item"] (defScope s_Book_with_item) := ⟨rfl, rfl, rfl, by decide +kernel, rfl, by decide +kernel, by decide +kernel⟩
abbrev s_Book_with_gap : Stmt := inClass (top 27) 11
abbrev N_Book_with_gap : List Str := ["self", "a", "b", "g"]
theorem sc_Book_with_gap : FnScope N_Book_with_gap ["self", "a", "b", "g"] (defScope s_Book_with_gap) := ⟨rfl, rfl, rfl, by decide +kernel, rfl, by decide +kernel, by decide +kernel⟩
abbrev s_Book_without : Stmt := inClass (top 27) 17
abbrev N_Book_without : List Str := ["self", "part", "index"]
theorem sc_Book_without : FnScope N_Book_without ["self", "part", "index"] (defScope s_Book_without) := ⟨rfl, rfl, rfl, by decide +kernel, rfl, by decide +kernel, by decide +kernel⟩
abbrev s_Book_items_in : Stmt := inClass (top 27) 16
abbrev N_Book_items_in : List Str := ["self", "part"]
theorem sc_Book_items_in : FnScope N_Book_items_in ["self", "part"] (defScope s_Book_items_in) := ⟨rfl, rfl, rfl, by decide +kernel, rfl, by decide +kernel, by decide +kernel⟩
local macro_rules | `(tactic| walk_at "el1") => `(tactic| with_reducible first
  | refine a_sasg ?_ | refine a_sdrop ?_ | refine a_saugS ?_ | refine a_spar ?_ | refine a_seq ?_ | refine a_asg ?_ | refine a_drop ?_ | refine a_ret ?_ | refine a_if ?_ | refine a_next ?_
  | refine a_op ?_ | refine a_cons ?_ | refine a_nil ?_ | refine a_cb ?_ | refine a_call ?_ | refine a_c ?_ | refine a_gn ?_ | refine a_nx ?_ | refine a_rt ?_ | refine a_un ?_
  | refine a_test ?_ | refine a_B ?_ | refine a_bl ?_ | refine a_and ?_ | refine a_or ?_ | refine a_not ?_ | refine a_andV ?_ | refine a_orV ?_ | refine a_notV ?_ | refine a_ifx ?_ | refine a_chain ?_
  | refine a_nT ?_ | refine a_nF ?_ | refine a_fld ?_ | refine a_getF ?_ | refine a_T ?_ | refine a_F ?_ | refine a_tup ?_ | refine a_lst ?_ | refine a_sub ?_ | refine a_augS ?_ | refine a_two ?_ | refine a_I0 ?_ | refine a_U ?_ | refine n_add ?_ | refine n_int ?_ | refine n_ib ?_ | refine a_ip ?_ | refine a_rng1 ?_ | refine a_rng2 ?_ | refine a_bm ?_ | refine a_abs ?_ | refine a_pairs ?_ | refine a_pairs0 ?_ | refine a_bk ?_ | refine a_prp ?_ | refine a_lc ?_ | refine a_yes ?_ | refine a_sl ?_ | refine a_nop ?_ | refine a_prt ?_ | refine a_ex1 ?_ | refine a_for ?_ | refine a_sfor ?_ | refine a_iE1 ?_ | refine a_iEs ?_ | refine a_iEz ?_ | refine a_iEnum ?_ | refine a_iTup ?_ | refine a_iList ?_ | refine a_gcons ?_ | refine a_gnil ?_ | refine a_revT ?_ | refine a_spar3 ?_ | refine a_par3 ?_ | refine a_three ?_)
local macro_rules | `(tactic| walk_at "el2") => `(tactic| first
  | (refine a_var (by rfl) ?_)
  | (refine n_ixL (SqL.of (by assumption)) (by rfl) ?_) | (refine n_ixT (SqT.of (by assumption)) (by rfl) ?_) | (refine n_eq (by rfl) ?_) | (refine n_ne (by rfl) ?_)
  | (refine n_isN ?_) | (refine n_notN ?_) | (refine n_isB ?_) | (refine n_notB ?_) | (refine n_isBI ?_) | (refine n_notBI ?_) | (refine n_len (.inl (SqL.of (by assumption))) ?_) | (refine n_len (.inr (SqT.of (by assumption))) ?_)
  | (refine a_getL (SqL.of (by assumption)) (by rfl) ?_)
  | (refine n_isInt (by assumption) ?_) | (refine n_isBool (by assumption) ?_) | (refine n_isStr (by assumption) ?_) | (refine n_isTup (by assumption) ?_) | (refine n_isLst (by assumption) ?_))
local macro_rules | `(tactic| walk_at "el") => `(tactic| repeat (first | walk_at "el1" | walk_at "el2"))

/-! ### books made of a book -/
theorem pe_mth0 {X : Cx} {C : Addr} {k : Nat} {m : Str} {ps : List Str} {sp : Sp} {o : Expr} {ta : TE} {pos : Pos} {apos : Pos} {pl : Sem Bool} (G : MthG X.prog X.w X.K X.mg X.base C k m ps sp) (hr : Room k X.A) (hx : Passes CX0 X E0) (he : PE X o ta)
    (ht : eval (.Call (.Attribute o m apos) [] [] pos) X.env = (do
      let ov ← eval o X.env
      standAt apos.atName
      let (f, first) ← holding [ov] (getMethod ov m pl)
      callWith pos f first (backTo pos (starEach [] X.env)) (backToKw pos (keywordEach [] X.env))) := by rfl) :
    PE X (.Call (.Attribute o m apos) [] [] pos) (tMeth C m sp [] E0 ta tNil) := by
  obtain ⟨f, fd, hm, F, hb⟩ := G.ex
  exact pe_meth0 he G.cl hm F hr hb .nil hx ht
theorem a_mth {C : Addr} {m : Str} {sp : Sp} {ta : TE} {t : TA} {σ : L2.St} {H : Hp} {Q : VK} (q : ta σ H fun x H1 => ∃ a dx fs, x = .ref a ∧ H1 a = some (.ins C dx fs) ∧ fs.lookup m = none ∧ t σ H1 fun vs H2 => sp (x :: vs) H2 Q E0) : tMeth C m sp [] E0 ta t σ H Q := by
  show ta σ H fun x H1 => ∃ a dx fs, x = .ref a ∧ H1 a = some (.ins C dx fs) ∧ fs.lookup m = none ∧ t σ H1 fun vs H2 => sp (x :: (vs ++ [])) H2 Q E0
  simpa only [List.append_nil] using q

theorem room1 {k : Nat} {A : Around} (r : Room k A) : A.units + 1 < cLine := by have := r.un; omega
theorem a_disp {trs : List (TE × TE)} {σ : L2.St} {H : Hp} {Q : VK} (q : ∀ p, H p = none → tPairs trs σ (upd H p (.dK [])) fun ps H2 => H2 p = some (.dK []) ∧ ∃ kvs : List (Key × V), ps = kvs.map (fun kv => (kV kv.1, kv.2)) ∧ kvs.length ≤ 15 ∧ Q (.ref p) (upd H2 p (.dK (mergeK [] kvs)))) : tDisp trs σ H Q := q
theorem a_dget {td ty : TE} {σ : L2.St} {H : Hp} {Q : VK} (q : td σ H fun x H1 => ty σ H1 fun y H2 => ∃ a v, x = .ref a ∧ DGet H2 a y (some v) ∧ Q v H2) : tDGet td ty σ H Q := q
abbrev parts4 (a b c d : V) : List (Key × V) := [(.inr "tellings", a), (.inr "gaps", b), (.inr "sure", c), (.inr "clauses", d)]
theorem merge4 {a b c d : V} : mergeK [] (parts4 a b c d) = parts4 a b c d := by
  have n1 : ¬ ("tellings" : Str) = "gaps" := by decide
  have n2 : ¬ ("tellings" : Str) = "sure" := by decide
  have n3 : ¬ ("tellings" : Str) = "clauses" := by decide
  have n4 : ¬ ("gaps" : Str) = "sure" := by decide
  have n5 : ¬ ("gaps" : Str) = "clauses" := by decide
  have n6 : ¬ ("sure" : Str) = "clauses" := by decide
  simp [mergeK, putK, n1, n2, n3, n4, n5, n6]
section
variable {a b c d : V}
theorem get4a : valV (parts4 a b c d) (.inr "tellings") = some a := valV_pos rfl
theorem get4b : valV (parts4 a b c d) (.inr "gaps") = some b := by rw [valV_neg (by intro h; cases h), valV_pos rfl]
theorem get4c : valV (parts4 a b c d) (.inr "sure") = some c := by rw [valV_neg (by intro h; cases h), valV_neg (by intro h; cases h), valV_pos rfl]
theorem get4d : valV (parts4 a b c d) (.inr "clauses") = some d := by rw [valV_neg (by intro h; cases h), valV_neg (by intro h; cases h), valV_neg (by intro h; cases h), valV_pos rfl]
theorem put4b {x : V} : putK (parts4 a b c d) (.inr "gaps") x = parts4 a x c d := by
  have n1 : ¬ ("tellings" : Str) = "gaps" := by decide
  have n4 : ¬ ("sure" : Str) = "gaps" := by decide
  have n5 : ¬ ("clauses" : Str) = "gaps" := by decide
  simp [putK, n1, n4, n5]
end
/-- four texts, told by a function -/
abbrev partsF (φ : Pt → Addr) : List (Key × V) := parts4 (.ref (φ .tel)) (.ref (φ .gap)) (.ref (φ .sur)) (.ref (φ .cla))
def setA (φ : Pt → Addr) (p : Pt) (x : Addr) : Pt → Addr := fun u => if u = p then x else φ u
theorem setA_at {φ : Pt → Addr} {p : Pt} {x : Addr} : setA φ p x p = x := if_pos rfl
theorem setA_ne {φ : Pt → Addr} {p u : Pt} {x : Addr} (h : u ≠ p) : setA φ p x u = φ u := if_neg h
theorem getF (φ : Pt → Addr) (p : Pt) : valV (partsF φ) (.inr p.name) = some (.ref (φ p)) := by
  cases p
  · exact get4a
  · exact get4b
  · exact get4c
  · exact get4d
theorem putF4 (φ : Pt → Addr) (p : Pt) (x : Addr) : putK (partsF φ) (.inr p.name) (.ref x) = partsF (setA φ p x) := by
  have n1 : ¬ ("tellings" : Str) = "gaps" := by decide
  have n2 : ¬ ("tellings" : Str) = "sure" := by decide
  have n3 : ¬ ("tellings" : Str) = "clauses" := by decide
  have n4 : ¬ ("gaps" : Str) = "tellings" := by decide
  have n5 : ¬ ("gaps" : Str) = "sure" := by decide
  have n6 : ¬ ("gaps" : Str) = "clauses" := by decide
  have n7 : ¬ ("sure" : Str) = "tellings" := by decide
  have n8 : ¬ ("sure" : Str) = "gaps" := by decide
  have n9 : ¬ ("sure" : Str) = "clauses" := by decide
  have m1 : ¬ ("clauses" : Str) = "tellings" := by decide
  have m2 : ¬ ("clauses" : Str) = "gaps" := by decide
  have m3 : ¬ ("clauses" : Str) = "sure" := by decide
  cases p <;> simp [putK, setA, Pt.name, n1, n2, n3, n4, n5, n6, n7, n8, n9, m1, m2, m3]
theorem dget4 {H : Hp} {d : Addr} {kvs : List (Key × V)} {s : Str} {v : V} (hd : H d = some (.dK kvs)) (e : valV kvs (.inr s) = some v) : DGet H d (.str s) (some v) := by
  rw [← e]
  exact DGet.k (k := .inr s) hd
theorem n_catS {K : Frag} {H : Hp} {Q : VK} {a b : Addr} {xs ys : List V} (ha : SqT K H a xs) (hb : SqT K H b ys) (z : xs.length + ys.length ≤ sizeLine) (q : ∀ p H', Same H H' → SqT K H' p (xs ++ ys) → Q (.ref p) H') : rAdd K (.ref a) (.ref b) H Q := by
  refine .inr (.inr ⟨a, b, xs, ys, rfl, rfl, ha, hb, z, fun e => ?_, fun e1 e2 => ?_, fun _ _ p hp => q p _ (L2.Same.nw (Same.refl _) hp) (SqT.of upd_same)⟩)
  · subst e
    exact q b H (Same.refl _) hb
  · subst e2
    exact q a H (Same.refl _) (by rw [List.append_nil]; exact ha)
theorem sqT_upd {K : Frag} {H : Hp} {a r : Addr} {xs : List V} {kvs : List (Key × V)} {o : HO} (h : SqT K H a xs) (hr : H r = some (.dK kvs)) : SqT K (upd H r o) a xs := by
  rcases h with (h | ⟨q, h⟩) | h
  · exact .inl (.inl (by rw [upd_ne (fun z => by rw [z, hr] at h; cases h)]; exact h))
  · exact .inl (.inr ⟨q, by rw [upd_ne (fun z => by rw [z, hr] at h; cases h)]; exact h⟩)
  · exact .inr h
theorem n_slS {K : Frag} {H : Hp} {Q : VK} {a : Addr} {xs : List V} {lo hi : Option Int} (ha : SqT K H a xs) (q : ∀ p H', Same H H' → SqT K H' p (cutV xs lo hi) → Q (.ref p) H') : rSlice K (.ref a) lo hi H Q := by
  refine .inr ⟨a, xs, rfl, ha, fun e => ?_, fun _ p hp => q p _ (L2.Same.nw (Same.refl _) hp) (SqT.of upd_same)⟩
  refine q a H (Same.refl _) ?_
  have w : cutV xs lo hi = xs := by
    unfold cutV
    rw [e.1, e.2, List.drop_zero, Nat.sub_zero, List.take_length]
  rw [w]
  exact ha
theorem cut_to {xs : List V} {i : Nat} : cutV xs none (some (i : Int)) = xs.take i := by
  unfold cutV
  rw [HT.sIx_none, HT.sIx_nat, List.drop_zero, Nat.sub_zero, ← List.take_take, List.take_length]
theorem cut_from {xs : List V} {i : Nat} : cutV xs (some (i : Int)) none = xs.drop i := by
  unfold cutV
  rw [HT.sIx_none, HT.sIx_nat, List.take_of_length_le (by rw [List.length_drop]; exact Nat.le_refl _)]
  rcases Nat.le_total i xs.length with h | h
  · rw [Nat.min_eq_left h]
  · rw [Nat.min_eq_right h, List.drop_eq_nil_of_le (Nat.le_refl _), List.drop_eq_nil_of_le h]
def BA.ad (A : BA) : Pt → Addr | .tel => A.t | .gap => A.g | .sur => A.s | .cla => A.q
def spPBN (K : Frag) (C : Addr) : Sp := fun vs H Q _ => ∃ (A : BA) (D : PD), vs = [.ref A.o] ∧ BB K C H A D ∧ ∀ H' r, Same H H' → H r = none → H' r = some (.dK (partsF A.ad)) → Q (.ref r) H'
def spWP (K : Frag) (C : Addr) : Sp := fun vs H Q _ => ∃ (A : BA) (D : PD) (d : Addr) (φ : Pt → Addr) (ys : Pt → List V), vs = [.ref A.o, .ref d] ∧ BB K C H A D ∧ H d = some (.dK (partsF φ)) ∧ 0 ≤ A.ev ∧ A.ev ≤ 8 ∧ 0 ≤ A.wi ∧ A.wi ≤ 8 ∧
  (∀ u, PartOk K u H (φ u) (ys u) A.ev A.wi) ∧ NewBook K C A.ev A.wi (ys .tel) (ys .gap) (ys .sur) (ys .cla) H Q
/-- a book whose items are valid, with room for a gap more -/
structure BookV (K : Frag) (C : Addr) (H : Hp) (A : BA) (D : PD) : Prop where
  bb : BB K C H A D
  e0 : 0 ≤ A.ev
  e8 : A.ev ≤ 8
  w0 : 0 ≤ A.wi
  w8 : A.wi ≤ 8
  len : ∀ u, (A.xs u).length ≤ 24
  items : ∀ u, ∀ x ∈ A.xs u, ItemOk u H x A.ev A.wi
theorem BB.sq {K : Frag} {C : Addr} {H : Hp} {A : BA} {D : PD} (h : BB K C H A D) : ∀ u, SqT K H (A.ad u) (A.xs u)
  | .tel => h.tT
  | .gap => h.tG
  | .sur => h.tS
  | .cla => h.tL
theorem BookV.same {K : Frag} {C : Addr} {H H' : Hp} {A : BA} {D : PD} (h : BookV K C H A D) (s : Same H H') : BookV K C H' A D := ⟨h.bb.same s, h.e0, h.e8, h.w0, h.w8, h.len, fun u x hx => (h.items u x hx).same s⟩
def spWI (K : Frag) (C : Addr) : Sp := fun vs H Q _ => ∃ (A : BA) (D : PD) (it : Addr) (p : Pt) (ys : List V), H it = some (.tup ys) ∧ vs = [.ref A.o, .str p.name, .ref it] ∧ BookV K C H A D ∧ (A.xs p).length ≤ 23 ∧ ItemOk p H (.ref it) A.ev A.wi ∧ NewBook K C A.ev A.wi (setP A.xs p (A.xs p ++ [.ref it]) .tel) (setP A.xs p (A.xs p ++ [.ref it]) .gap) (setP A.xs p (A.xs p ++ [.ref it]) .sur) (setP A.xs p (A.xs p ++ [.ref it]) .cla) H Q
def spWG (K : Frag) (C : Addr) : Sp := fun vs H Q _ => ∃ (A : BA) (D : PD) (a b g : Int), vs = [.ref A.o, .int a, .int b, .int g] ∧ BookV K C H A D ∧ (A.xs .gap).length ≤ 23 ∧ 0 ≤ a ∧ a < A.ev ∧ 0 ≤ b ∧ b < A.ev ∧ b ≠ a ∧ -1000000000000000 ≤ g ∧ g ≤ 1000000000000000 ∧
  ∀ p o dx t g' s c H', Same H H' → H o = none → H' p = some (.tup [.int a, .int b, .int g]) → H' o = some (bookO C dx A.ev A.wi t g' s c) → SqT K H' t (A.xs .tel) → SqT K H' g' (A.xs .gap ++ [.ref p]) → SqT K H' s (A.xs .sur) → SqT K H' c (A.xs .cla) → Q (.ref o) H'
abbrev cutP (A : BA) (p : Pt) (i : Nat) : Pt → List V := setP A.xs p ((A.xs p).take i ++ (A.xs p).drop (i + 1))
def spWO (K : Frag) (C : Addr) : Sp := fun vs H Q _ => ∃ (A : BA) (D : PD) (p : Pt) (i : Nat), vs = [.ref A.o, .str p.name, .int (i : Int)] ∧ BookV K C H A D ∧ i < (A.xs p).length ∧ NewBook K C A.ev A.wi (cutP A p i .tel) (cutP A p i .gap) (cutP A p i .sur) (cutP A p i .cla) H Q
def spII (K : Frag) (C : Addr) : Sp := fun vs H Q _ => ∃ (A : BA) (D : PD) (p : Pt), vs = [.ref A.o, .str p.name] ∧ BB K C H A D ∧ ∀ H', Same H H' → Q (.ref (A.ad p)) H'
section
variable {P : Program} {w : World} {K : Frag} {mg : Str → Option Value} {base : Heap} {f : Addr} {fd : FuncData} {C C_Wrong C_NoIndex : Addr} {D0 : BookD}
theorem ok_parts_by_name (F : Fun K "_parts_by_name" "Book._parts_by_name" s_Bookparts_by_name f fd) (T : Tb mg) (B0 : BkC K C) : FnOk P w K mg base CX0 1 f fd ["self"] (spPBN K C) := by
  refine F.ok sc_Bookparts_by_name (fun vs H Q E h => ?_) (fun cdv A outer s H vs Q E hr h => ?_)
  · obtain ⟨_, _, rfl, _⟩ := h
    rfl
  · obtain ⟨B, D, rfl, hB, k⟩ := h
    refine ⟨_, (pss_one (ps_ret (pe_disp (pps_cons pe_str (pe_fld (pv 0) rfl) (pps_cons pe_str (pe_fld (pv 0) rfl) (pps_cons pe_str (pe_fld (pv 0) rfl) (pps_cons pe_str (pe_fld (pv 0) rfl) pps_nil)))) (by rfl) (by rfl) (fun z => by cases z) (by decide)))), ?_⟩
    walk_at "el"
    refine a_disp fun p hp => ?_
    have e1 := nw_of hp (.dK [])
    have g1 := upd_at hp (.dK [])
    have hbk := e1 _ _ hB.bk
    walk_at "el"
    refine ⟨B.o, C, B.dx, _, _, rfl, hbk, B0.own.cl, B0.n2, rfl, ?_⟩
    walk_at "el"
    refine ⟨B.o, C, B.dx, _, _, rfl, hbk, B0.own.cl, B0.n3, rfl, ?_⟩
    walk_at "el"
    refine ⟨B.o, C, B.dx, _, _, rfl, hbk, B0.own.cl, B0.n4, rfl, ?_⟩
    walk_at "el"
    refine ⟨B.o, C, B.dx, _, _, rfl, hbk, B0.own.cl, B0.n5, rfl, ?_⟩
    walk_at "el"
    refine ⟨upd_same, partsF B.ad, rfl, by show 4 ≤ 15; decide, ?_⟩
    rw [merge4]
    exact k _ p (e1.mu hp) hp upd_same
theorem ok_with_parts (F : Fun K "_with_parts" "Book._with_parts" s_Bookwith_parts f fd) (T : Tb mg) (B0 : BkC K C) (c_Book : BookG P w K mg base C D0) : FnOk P w K mg base CX0 9 f fd ["self", "parts"] (spWP K C) := by
  refine F.ok sc_Bookwith_parts (fun vs H Q E h => ?_) (fun cdv A outer s H vs Q E hr h => ?_)
  · obtain ⟨_, _, _, _, _, rfl, _⟩ := h
    rfl
  · obtain ⟨B, D, d, φ, ys, rfl, hB, hd, e0, e8, w0, w8, hp, k⟩ := h
    refine ⟨_, (pss_one (ps_ret (pe_bk6 c_Book (hr.mono (by decide)) rfl (pa_cons (pe_fld (pv 0) rfl) (pa_cons (pe_fld (pv 0) rfl) (pa_cons (pe_dget (room1 hr) (pv 1) pe_str (fun _ _ => rfl)) (pa_cons (pe_dget (room1 hr) (pv 1) pe_str (fun _ _ => rfl)) (pa_cons (pe_dget (room1 hr) (pv 1) pe_str (fun _ _ => rfl)) (pa_cons (pe_dget (room1 hr) (pv 1) pe_str (fun _ _ => rfl)) pa_nil))))))))), ?_⟩
    have hbk := hB.bk
    walk_at "el"
    refine ⟨B.o, C, B.dx, _, _, rfl, hbk, B0.own.cl, B0.n0, rfl, ?_⟩
    walk_at "el"
    refine ⟨B.o, C, B.dx, _, _, rfl, hbk, B0.own.cl, B0.n1, rfl, ?_⟩
    walk_at "el"
    refine ⟨d, .ref (φ .tel), rfl, dget4 hd get4a, ?_⟩
    walk_at "el"
    refine ⟨d, .ref (φ .gap), rfl, dget4 hd get4b, ?_⟩
    walk_at "el"
    refine ⟨d, .ref (φ .sur), rfl, dget4 hd get4c, ?_⟩
    walk_at "el"
    refine ⟨d, .ref (φ .cla), rfl, dget4 hd get4d, ?_⟩
    walk_at "el"
    exact n_bk6 e0 e8 w0 w8 (hp .tel) (hp .gap) (hp .sur) (hp .cla) k
theorem ok_with_item (F : Fun K "with_item" "Book.with_item" s_Book_with_item f fd) (T : Tb mg) (B0 : BkC K C) (c_first_wrong : Cal P w K mg base CX0 4 "first_wrong" ["part", "values", "events", "witnesses"] (spFw K)) (m__parts_by_name : MthG P w K mg base C 1 "_parts_by_name" ["self"] (spPBN K C)) (m__with_parts : MthG P w K mg base C 9 "_with_parts" ["self", "parts"] (spWP K C)) : FnOk P w K mg base CX0 10 f fd ["self", "part", "item"] (spWI K C) := by
  refine F.ok sc_Book_with_item (fun vs H Q E h => ?_) (fun cdv A outer s H vs Q E hr h => ?_)
  · obtain ⟨_, _, _, _, _, _, rfl, _⟩ := h
    rfl
  · obtain ⟨B, D, it, pt, ys, hit, rfl, V, lg, hi, k⟩ := h
    refine ⟨_, (pss_cons (ps_set (i := 3) sc_Book_with_item.nd rfl (Or.inl rfl) (pe_cal c_first_wrong (hr.mono (by decide)) pass0 (pa_cons (pv 1) (pa_cons (pv 2) (pa_cons (pe_fld (pv 0) rfl) (pa_cons (pe_fld (pv 0) rfl) pa_nil))))))
  (pss_cons (ps_if (pt_cmpR u_isnot (pv 3) pe_non (nomark _))
    (pss_one ps_never)
    pss_nil)
  (pss_cons (ps_set (i := 4) sc_Book_with_item.nd rfl (Or.inl rfl) (pe_mth0 m__parts_by_name (hr.mono (by decide)) pass0 (pv 0)))
  (pss_cons (ps_asg (pe_op u_add (pe_dget (room1 hr) (pv 4) (pv 1) (fun _ _ => rfl)) (pe_tup (pa_cons (pv 2) pa_nil))) (pg_sub (pv 4) (pv 1) (set_dict (room1 hr))))
  (pss_one (ps_ret (pe_mth m__with_parts (hr.mono (by decide)) pass0 (pv 0) (pa_cons (pv 4) pa_nil)))))))), ?_⟩
    have hB := V.bb
    have hbk := hB.bk
    obtain ⟨it', ys, e, hit', hl, hst⟩ := id hi
    cases e
    rw [hit] at hit'
    cases hit'
    walk_at "el"
    refine ⟨B.o, C, B.dx, _, _, rfl, hbk, B0.own.cl, B0.n0, rfl, ?_⟩
    walk_at "el"
    refine ⟨B.o, C, B.dx, _, _, rfl, hbk, B0.own.cl, B0.n1, rfl, ?_⟩
    walk_at "el"
    refine ⟨pt, it, _, _, _, rfl, hit, hl, hi.th.2 it _ rfl hit, fun _ H1 s1 => ?_, fun i wd x st hw hx hf => ?_⟩
    · have hB1 := hB.same s1
      walk_at "el"
      rw [decide_eq_true rfl]
      walk_at "el"
      refine ⟨B.o, B.dx, _, rfl, hB1.bk, rfl, ?_⟩
      walk_at "el"
      refine ⟨B, D, rfl, hB1, fun H2 r s2 hr0 hr1 => ?_⟩
      have hB2 := hB1.same s2
      walk_at "el"
      refine ⟨r, .ref (B.ad pt), rfl, dget4 hr1 (getF B.ad pt), ?_⟩
      walk_at "el"
      refine ⟨by show 1 ≤ sizeLine; decide, fun p hp => ?_⟩
      have e3 := nw_of hp (.tup [.ref it])
      have g3 := upd_at hp (.tup [.ref it])
      walk_at "el"
      refine n_catS ((hB2.sq pt).same e3) (SqT.of g3) (by show (B.xs pt).length + 1 ≤ sizeLine; exact Nat.le_trans (m := 24) (by omega) (by decide)) fun g4 H4 s4 hg4 => ?_
      have s14 : Same H1 H4 := (s2.trans e3).trans s4
      have s04 : Same H H4 := s1.trans s14
      have hr4 := s4 _ _ (e3 _ _ hr1)
      walk_at "el"
      refine ⟨r, _, rfl, DPut.k (k := .inr pt.name) hr4 (by show 4 < sizeLine; decide), ?_⟩
      rw [putF4]
      have hg5 := sqT_upd (o := .dK (partsF (setA B.ad pt g4))) hg4 hr4
      have s05 : Same H (upd H4 r (.dK (partsF (setA B.ad pt g4)))) := s04.mu (s1.free hr0)
      have g5 := upd_same (H := H4) (a := r) (o := .dK (partsF (setA B.ad pt g4)))
      generalize upd H4 r (.dK (partsF (setA B.ad pt g4))) = H5 at hg5 s05 g5 ⊢
      have V5 := V.same s05
      walk_at "el"
      refine ⟨B.o, B.dx, _, rfl, V5.bb.bk, rfl, ?_⟩
      walk_at "el"
      refine ⟨B, D, r, setA B.ad pt g4, setP B.xs pt (B.xs pt ++ [.ref it]), rfl, V5.bb, g5, V.e0, V.e8, V.w0, V.w8, fun u => ?_, fun o dx t' g' s' c' H' k1 h0 h1 h2 h3 h4 h5 => k o dx t' g' s' c' H' (s05.trans k1) (s05.free h0) h1 h2 h3 h4 h5⟩
      by_cases eu : u = pt
      · subst eu
        rw [setA_at, setP_at]
        exact ⟨.inr hg5, by rw [List.length_append]; exact Nat.succ_le_succ lg, all_app (V5.items u) (all_cons (hi.same s05) all_nil)⟩
      · rw [setA_ne eu, setP_ne eu]
        exact ⟨.inr (V5.bb.sq u), V.len u, V5.items u⟩
    · exact absurd (hst i (List.getElem?_eq_some_iff.mp hw).1 wd x hw hx) (by rw [hf]; exact Bool.false_ne_true)
end
end EL

/- part LO -/
namespace EL
open PySem PySem.Spec PyProof.Rows L2
open PySem.W (Frag)
abbrev s_Longer_init : Stmt := inClass (top 29) 0
abbrev N_Longer_init : List Str := ["self", "book", "tellings", "gaps", "sure", "clauses"]
theorem sc_Longer_init : FnScope N_Longer_init ["self", "book", "tellings", "gaps", "sure", "clauses"] (defScope s_Longer_init) := ⟨rfl, rfl, rfl, by decide +kernel, rfl, by decide +kernel, by decide +kernel⟩
abbrev s_as_book : Stmt := top 30
abbrev N_as_book : List Str := ["longer"]
theorem sc_as_book : FnScope N_as_book ["longer"] (defScope s_as_book) := ⟨rfl, rfl, rfl, by decide +kernel, rfl, by decide +kernel, by decide +kernel⟩
abbrev s_denying_gap : Stmt := top 31
abbrev N_denying_gap : List Str := ["book", "a", "b", "g"]
theorem sc_denying_gap : FnScope N_denying_gap ["book", "a", "b", "g"] (defScope s_denying_gap) := ⟨rfl, rfl, rfl, by decide +kernel, rfl, by decide +kernel, by decide +kernel⟩
abbrev s_denying_bound : Stmt := top 32
abbrev N_denying_bound : List Str := ["book", "e", "side", "x"]
theorem sc_denying_bound : FnScope N_denying_bound ["book", "e", "side", "x"] (defScope s_denying_bound) := ⟨rfl, rfl, rfl, by decide +kernel, rfl, by decide +kernel, by decide +kernel⟩
local macro_rules | `(tactic| walk_at "el1") => `(tactic| with_reducible first
  | refine a_sasg ?_ | refine a_sdrop ?_ | refine a_saugS ?_ | refine a_spar ?_ | refine a_seq ?_ | refine a_asg ?_ | refine a_drop ?_ | refine a_ret ?_ | refine a_if ?_ | refine a_next ?_
  | refine a_op ?_ | refine a_cons ?_ | refine a_nil ?_ | refine a_cb ?_ | refine a_call ?_ | refine a_c ?_ | refine a_gn ?_ | refine a_nx ?_ | refine a_rt ?_ | refine a_un ?_
  | refine a_test ?_ | refine a_B ?_ | refine a_bl ?_ | refine a_and ?_ | refine a_or ?_ | refine a_not ?_ | refine a_andV ?_ | refine a_orV ?_ | refine a_notV ?_ | refine a_ifx ?_ | refine a_chain ?_
  | refine a_nT ?_ | refine a_nF ?_ | refine a_fld ?_ | refine a_getF ?_ | refine a_T ?_ | refine a_F ?_ | refine a_tup ?_ | refine a_lst ?_ | refine a_sub ?_ | refine a_augS ?_ | refine a_two ?_ | refine a_I0 ?_ | refine a_U ?_ | refine n_add ?_ | refine n_int ?_ | refine n_ib ?_ | refine a_ip ?_ | refine a_rng1 ?_ | refine a_rng2 ?_ | refine a_bm ?_ | refine a_abs ?_ | refine a_pairs ?_ | refine a_pairs0 ?_ | refine a_bk ?_ | refine a_prp ?_ | refine a_lc ?_ | refine a_yes ?_ | refine a_sl ?_ | refine a_nop ?_ | refine a_prt ?_ | refine a_ex1 ?_ | refine a_for ?_ | refine a_sfor ?_ | refine a_iE1 ?_ | refine a_iEs ?_ | refine a_iEz ?_ | refine a_iEnum ?_ | refine a_iTup ?_ | refine a_iList ?_ | refine a_gcons ?_ | refine a_gnil ?_ | refine a_revT ?_ | refine a_spar3 ?_ | refine a_par3 ?_ | refine a_three ?_)
local macro_rules | `(tactic| walk_at "el2") => `(tactic| first
  | (refine a_var (by rfl) ?_)
  | (refine n_ixL (SqL.of (by assumption)) (by rfl) ?_) | (refine n_ixT (SqT.of (by assumption)) (by rfl) ?_) | (refine n_eq (by rfl) ?_) | (refine n_ne (by rfl) ?_)
  | (refine n_isN ?_) | (refine n_notN ?_) | (refine n_isB ?_) | (refine n_notB ?_) | (refine n_isBI ?_) | (refine n_notBI ?_) | (refine n_len (.inl (SqL.of (by assumption))) ?_) | (refine n_len (.inr (SqT.of (by assumption))) ?_)
  | (refine a_getL (SqL.of (by assumption)) (by rfl) ?_)
  | (refine n_isInt (by assumption) ?_) | (refine n_isBool (by assumption) ?_) | (refine n_isStr (by assumption) ?_) | (refine n_isTup (by assumption) ?_) | (refine n_isLst (by assumption) ?_))
local macro_rules | `(tactic| walk_at "el") => `(tactic| repeat (first | walk_at "el1" | walk_at "el2"))

/-! ### books of a class below Book: with items more, with other tellings -/
/-- C.m(e, ..), m a plain def of the class, read off the class by its name -/
def tClsFn (C : Addr) (sp : Sp) (dvs : List V) (E : XK) (ta : TE) (t : TA) : TE := fun σ H Q => ta σ H fun x H1 => x = .ref C ∧ t σ H1 fun vs H2 => sp (vs ++ dvs) H2 Q E
theorem pe_clsfn {X : Cx} {CX : CXT} {k : Nat} {C f : Addr} {fd : FuncData} {mc : Value} {m : Str} {ps : List Str} {sp : Sp} {ds : List Value} {dvs : List V} {E : XK} {o e : Expr} {es : List Expr} {pos apos : Pos} {ta : TE} {t : TA} {pl : Sem Bool}
    (he : PE X o ta) (r : ClX.CRead X.K C mc) (hv : PySem.W.findCls X.K (.ref C) mc m = some (.val (.ref f))) (hk : PySem.W.keepIn X.K (.ref f) = true) (F : FnOk X.prog X.w X.K X.mg X.base CX k f fd ps sp) (hr : Room k X.A) (hb : L2.Binds X.K fd ps ds) (hd : Vals dvs ds) (hx : Passes CX X E) (ha : PA X (e :: es) t)
    (hst : starEach (e :: es) X.env = (false, eval e X.env) :: starEach es X.env := by rfl) (hpl : (backTo pos (starEach es X.env)).any (·.1) = false := by rfl)
    (ht : eval (.Call (.Attribute o m apos) (e :: es) [] pos) X.env = (do
      let ov ← eval o X.env
      standAt apos.atName
      let (f, first) ← holding [ov] (getMethod ov m pl)
      callWith pos f first (backTo pos (starEach (e :: es) X.env)) (backToKw pos (keywordEach [] X.env))) := by rfl) :
    PE X (.Call (.Attribute o m apos) (e :: es) [] pos) (tClsFn C sp dvs E ta t) := by
  refine ⟨fun pins s σ H Q I h => ?_⟩
  refine PySem.W.methodCall_KW (pl := pl) (thn (he.run pins s σ H _ I h) fun u s1 ⟨x, H1, I1, rx, ex, q⟩ => ?_) ht
  subst ex
  obtain rfl : u = Value.ref C := rx
  refine PySem.W.method_cls I1.kIn r.ga ?_
  refine ClX.getcval_ok I1 r ⟨hv, (show L2.RelV (V.ref f) (Value.ref f) from rfl)⟩ fun s2 I2 => ?_
  refine PySem.W.callWith_K (h₀ := X.base) I2.ok.mod.kin hk (thn (ha.run pos pins s2 σ H1 _ I2 q) fun us s3 ⟨vs, H2, I3, rv, q2⟩ => ⟨I3.kIn, ?_⟩) hst hpl
  exact wpAny_call (run_fnR (F.raw hb hd) hr hx I3 rv q2)
theorem a_clsfn {C : Addr} {sp : Sp} {dvs : List V} {E : XK} {ta : TE} {t : TA} {σ : L2.St} {H : Hp} {Q : VK} (q : ta σ H fun x H1 => x = .ref C ∧ t σ H1 fun vs H2 => sp (vs ++ dvs) H2 Q E) : tClsFn C sp dvs E ta t σ H Q := q
abbrev psLong : List Str := ["self", "book", "tellings", "gaps", "sure", "clauses"]
def spLong (K : Frag) (C CL : Addr) : Sp := fun vs H Q _ => ∃ (A : BA) (D : PD) (o dx : Addr) (ex : Pt → Addr) (zs : Pt → List V), vs = [.ref o, .ref A.o, .ref (ex .tel), .ref (ex .gap), .ref (ex .sur), .ref (ex .cla)] ∧ H o = some (.ins CL dx []) ∧ BB K C H A D ∧ (∀ u, SqT K H (ex u) (zs u)) ∧ (∀ u, (A.xs u).length + (zs u).length ≤ 1000) ∧
  ∀ H' (φ : Pt → Addr), Kp o H H' → H' o = some (bookO CL dx A.ev A.wi (φ .tel) (φ .gap) (φ .sur) (φ .cla)) → (∀ u, SqT K H' (φ u) (A.xs u ++ zs u)) → Q .non H'
theorem RowsAre.kpo {α : Type} {enc : α → List V} {H H' : Hp} {xs : List V} {D : List α} {o C dx : Addr} {fs : List (Str × V)} (h : RowsAre enc H xs D) (ho : H o = some (.ins C dx fs)) (k : Kp o H H') : RowsAre enc H' xs D := ⟨h.len, fun i v hv => by
  obtain ⟨q, x, e, hx, hq⟩ := h.at_ i v hv
  exact ⟨q, x, e, hx, k _ _ (fun z => by subst z; rw [ho] at hq; cases hq) hq⟩⟩
theorem BB.kpo {K : Frag} {C C' : Addr} {H H' : Hp} {A : BA} {D : PD} {o dx : Addr} {fs : List (Str × V)} (h : BB K C H A D) (ho : H o = some (.ins C' dx fs)) (n : A.o ≠ o) (k : Kp o H H') : BB K C H' A D :=
  ⟨k _ _ n h.bk, SqT.kp h.tT ho k, SqT.kp h.tG ho k, SqT.kp h.tS ho k, SqT.kp h.tL ho k, ⟨h.r.t.kpo ho k, h.r.g.kpo ho k, h.r.s.kpo ho k, h.r.l.kpo ho k⟩⟩
/-- the reading of a new object's place: what the book and the parts keep -/
theorem line1k {n : Nat} (h : n ≤ 1000) : n ≤ sizeLine := Nat.le_trans h (by decide)
section
variable {P : Program} {w : World} {K : Frag} {mg : Str → Option Value} {base : Heap} {f : Addr} {fd : FuncData} {C CL : Addr}
theorem ok_longer {dvs : List V} (F : FunD K "__init__" "Longer.__init__" (defArgs s_Longer_init) (defBody s_Longer_init) (defScope s_Longer_init) dvs [] f fd) (T : Tb mg) (BL : BkC K CL)
    (p_events : PrpG P w K mg base C "events" "_events") (p_witnesses : PrpG P w K mg base C "witnesses" "_witnesses") (p_tellings : PrpG P w K mg base C "tellings" "_tellings") (p_gaps : PrpG P w K mg base C "gaps" "_gaps") (p_sure : PrpG P w K mg base C "sure" "_sure") (p_clauses : PrpG P w K mg base C "clauses" "_clauses") :
    FnOk P w K mg base CX0 3 f fd psLong (spLong K C CL) := by
  refine F.ok sc_Longer_init (fun vs H Q E h => ?_) (fun cdv A outer s H vs Q E hr h => ?_)
  · obtain ⟨_, _, _, _, _, _, rfl, _⟩ := h
    rfl
  · obtain ⟨B, D, o, dx, ex, zs, rfl, ho, hB, hz, hl, k⟩ := h
    refine ⟨_, (pss_cons (ps_fld (pv 0) (pe_prp p_events (hr.mono (by decide)) (pv 1)) rfl)
  (pss_cons (ps_fld (pv 0) (pe_prp p_witnesses (hr.mono (by decide)) (pv 1)) rfl)
  (pss_cons (ps_fld (pv 0) (pe_op u_add (pe_prp p_tellings (hr.mono (by decide)) (pv 1)) (pv 2)) rfl)
  (pss_cons (ps_fld (pv 0) (pe_op u_add (pe_prp p_gaps (hr.mono (by decide)) (pv 1)) (pv 3)) rfl)
  (pss_cons (ps_fld (pv 0) (pe_op u_add (pe_prp p_sure (hr.mono (by decide)) (pv 1)) (pv 4)) rfl)
  (pss_one (ps_fld (pv 0) (pe_op u_add (pe_prp p_clauses (hr.mono (by decide)) (pv 1)) (pv 5)) rfl))))))), ?_⟩
    have no : B.o ≠ o := fun z => by
      have := hB.bk
      rw [z, ho] at this
      cases this
    have cat : ∀ {a b : Addr} {xs ys : List V} {σ : L2.St} {H1 : Hp} {Q1 : VK}, True := trivial
    walk_at "el"
    refine n_prp hB.bk rfl ?_
    walk_at "el"
    refine ⟨o, CL, dx, _, rfl, ho, BL.own.cl, BL.n0, by decide, ?_⟩
    walk_at "el"
    have k1 := Kp.bag (o := .ins CL dx (putF "_events" (.int B.ev) [])) (Kp.refl o H)
    have o1 := upd_same (H := H) (a := o) (o := .ins CL dx (putF "_events" (.int B.ev) []))
    generalize upd H o (.ins CL dx (putF "_events" (.int B.ev) [])) = H1 at k1 o1 ⊢
    have B1 := hB.kpo ho no k1
    refine n_prp B1.bk rfl ?_
    walk_at "el"
    refine ⟨o, CL, dx, _, rfl, o1, BL.own.cl, BL.n1, by show 1 < 1000; decide, ?_⟩
    walk_at "el"
    have k2 := k1.bag (o := .ins CL dx (putF "_witnesses" (.int B.wi) (putF "_events" (.int B.ev) [])))
    have o2 := upd_same (H := H1) (a := o) (o := .ins CL dx (putF "_witnesses" (.int B.wi) (putF "_events" (.int B.ev) [])))
    generalize upd H1 o (.ins CL dx (putF "_witnesses" (.int B.wi) (putF "_events" (.int B.ev) []))) = H2 at k2 o2 ⊢
    have B2 := hB.kpo ho no k2
    clear B1 k1 o1
    refine n_prp B2.bk rfl ?_
    walk_at "el"
    refine n_catS B2.tT (SqT.kp (hz .tel) ho k2) (line1k (hl .tel)) fun t' H3 s3 ht => ?_
    have k3 := k2.trans (same_kp s3)
    have o3 := s3 _ _ o2
    walk_at "el"
    refine ⟨o, CL, dx, _, rfl, o3, BL.own.cl, BL.n2, by show 2 < 1000; decide, ?_⟩
    walk_at "el"
    generalize hf4 : putF "_tellings" (.ref t') (putF "_witnesses" (.int B.wi) (putF "_events" (.int B.ev) [])) = f4
    have k4 := k3.bag (o := .ins CL dx f4)
    have o4 := upd_same (H := H3) (a := o) (o := .ins CL dx f4)
    have t4 := SqT.kp ht o3 (Kp.bag (Kp.refl o H3) (o := .ins CL dx f4))
    generalize upd H3 o (.ins CL dx f4) = H4 at k4 o4 t4 ⊢
    have B4 := hB.kpo ho no k4
    clear B2 k2 o2 s3 k3 o3 ht
    refine n_prp B4.bk rfl ?_
    walk_at "el"
    refine n_catS B4.tG (SqT.kp (hz .gap) ho k4) (line1k (hl .gap)) fun g' H5 s5 hg => ?_
    have k5 := k4.trans (same_kp s5)
    have o5 := s5 _ _ o4
    have t5 := t4.same s5
    walk_at "el"
    refine ⟨o, CL, dx, _, rfl, o5, BL.own.cl, BL.n3, by subst hf4; show 3 < 1000; decide, ?_⟩
    walk_at "el"
    generalize hf6 : putF "_gaps" (.ref g') f4 = f6
    have kk := Kp.bag (Kp.refl o H5) (o := .ins CL dx f6)
    have k6 := k5.bag (o := .ins CL dx f6)
    have o6 := upd_same (H := H5) (a := o) (o := .ins CL dx f6)
    have t6 := SqT.kp t5 o5 kk
    have g6 := SqT.kp hg o5 kk
    generalize upd H5 o (.ins CL dx f6) = H6 at k6 o6 t6 g6 kk ⊢
    have B6 := hB.kpo ho no k6
    clear B4 k4 o4 s5 k5 o5 hg t4 t5 kk
    refine n_prp B6.bk rfl ?_
    walk_at "el"
    refine n_catS B6.tS (SqT.kp (hz .sur) ho k6) (line1k (hl .sur)) fun s' H7 s7 hs => ?_
    have k7 := k6.trans (same_kp s7)
    have o7 := s7 _ _ o6
    have t7 := t6.same s7
    have g7 := g6.same s7
    walk_at "el"
    refine ⟨o, CL, dx, _, rfl, o7, BL.own.cl, BL.n4, by subst hf6; subst hf4; show 4 < 1000; decide, ?_⟩
    walk_at "el"
    generalize hf8 : putF "_sure" (.ref s') f6 = f8
    have kk := Kp.bag (Kp.refl o H7) (o := .ins CL dx f8)
    have k8 := k7.bag (o := .ins CL dx f8)
    have o8 := upd_same (H := H7) (a := o) (o := .ins CL dx f8)
    have t8 := SqT.kp t7 o7 kk
    have g8 := SqT.kp g7 o7 kk
    have u8 := SqT.kp hs o7 kk
    generalize upd H7 o (.ins CL dx f8) = H8 at k8 o8 t8 g8 u8 kk ⊢
    have B8 := hB.kpo ho no k8
    clear B6 k6 o6 s7 k7 o7 hs t6 t7 g6 g7 kk
    refine n_prp B8.bk rfl ?_
    walk_at "el"
    refine n_catS B8.tL (SqT.kp (hz .cla) ho k8) (line1k (hl .cla)) fun c' H9 s9 hc => ?_
    have k9 := k8.trans (same_kp s9)
    have o9 := s9 _ _ o8
    walk_at "el"
    refine ⟨o, CL, dx, _, rfl, o9, BL.own.cl, BL.n5, by subst hf8; subst hf6; subst hf4; show 5 < 1000; decide, ?_⟩
    walk_at "el"
    have kk := Kp.bag (Kp.refl o H9) (o := .ins CL dx (putF "_clauses" (.ref c') f8))
    refine k _ (fun u => match u with | .tel => t' | .gap => g' | .sur => s' | .cla => c') (k9.trans kk) ?_ fun u => ?_
    · rw [upd_same]
      subst hf8
      subst hf6
      subst hf4
      rfl
    · cases u
      · exact SqT.kp (t8.same s9) o9 kk
      · exact SqT.kp (g8.same s9) o9 kk
      · exact SqT.kp (u8.same s9) o9 kk
      · exact SqT.kp hc o9 kk
/-- a plain book of a book of a class below, if its items are all right -/
def spAsB (K : Frag) (C CL : Addr) : Sp := fun vs H Q _ => ∃ (A : BA) (D : PD), vs = [.ref A.o] ∧ BookV K CL H A D ∧ NewBook K C A.ev A.wi (A.xs .tel) (A.xs .gap) (A.xs .sur) (A.xs .cla) H Q
theorem ok_as_book {D0 : BookD} (F : Fun K "as_book" "as_book" s_as_book f fd) (T : Tb mg) (c_Book : BookG P w K mg base C D0)
    (p_events : PrpG P w K mg base CL "events" "_events") (p_witnesses : PrpG P w K mg base CL "witnesses" "_witnesses") (p_tellings : PrpG P w K mg base CL "tellings" "_tellings") (p_gaps : PrpG P w K mg base CL "gaps" "_gaps") (p_sure : PrpG P w K mg base CL "sure" "_sure") (p_clauses : PrpG P w K mg base CL "clauses" "_clauses") :
    FnOk P w K mg base CX0 9 f fd ["longer"] (spAsB K C CL) := by
  refine F.ok sc_as_book (fun vs H Q E h => ?_) (fun cdv A outer s H vs Q E hr h => ?_)
  · obtain ⟨_, _, rfl, _⟩ := h
    rfl
  · obtain ⟨B, D, rfl, V, k⟩ := h
    refine ⟨_, (pss_one (ps_try_thru0 (pss_one (ps_ret (pe_bk6 c_Book (hr.mono (by decide)) rfl (pa_cons (pe_prp p_events (hr.mono (by decide)) (pv 0)) (pa_cons (pe_prp p_witnesses (hr.mono (by decide)) (pv 0)) (pa_cons (pe_prp p_tellings (hr.mono (by decide)) (pv 0)) (pa_cons (pe_prp p_gaps (hr.mono (by decide)) (pv 0)) (pa_cons (pe_prp p_sure (hr.mono (by decide)) (pv 0)) (pa_cons (pe_prp p_clauses (hr.mono (by decide)) (pv 0)) pa_nil))))))))))), ?_⟩
    have hB := V.bb
    have hbk := hB.bk
    walk_at "el"
    refine n_prp hbk rfl ?_
    walk_at "el"
    refine n_prp hbk rfl ?_
    walk_at "el"
    refine n_prp hbk rfl ?_
    walk_at "el"
    refine n_prp hbk rfl ?_
    walk_at "el"
    refine n_prp hbk rfl ?_
    walk_at "el"
    refine n_prp hbk rfl ?_
    walk_at "el"
    exact n_bk6 V.e0 V.e8 V.w0 V.w8 ⟨.inr hB.tT, V.len .tel, V.items .tel⟩ ⟨.inr hB.tG, V.len .gap, V.items .gap⟩ ⟨.inr hB.tS, V.len .sur, V.items .sur⟩ ⟨.inr hB.tL, V.len .cla, V.items .cla⟩ k
/-- a book with other tellings -/
def spRetold (K : Frag) (C CL : Addr) : Sp := fun vs H Q _ => ∃ (A : BA) (D : PD) (o dx l : Addr) (ts : List V), vs = [.ref o, .ref A.o, .ref l] ∧ H o = some (.ins CL dx []) ∧ BB K C H A D ∧ SqA K H l ts ∧ (∀ u, (A.xs u).length ≤ 1000) ∧
  ∀ H' (φ : Pt → Addr), Kp o H H' → H' o = some (bookO CL dx A.ev A.wi (φ .tel) (φ .gap) (φ .sur) (φ .cla)) → (∀ u, SqT K H' (φ u) (setP A.xs .tel ts u)) → Q .non H'
structure LongI (P : Program) (w : World) (K : Frag) (mg : Str → Option Value) (base : Heap) (C CLo CL : Addr) (mc : Value) (fL : Addr) (fdL : FuncData) (dsL : List Value) (d1 d2 d3 d4 : Addr) : Prop where
  r : ClX.CRead K CLo mc
  v : PySem.W.findCls K (.ref CLo) mc "__init__" = some (.val (.ref fL))
  k : PySem.W.keepIn K (.ref fL) = true
  fn : FnOk P w K mg base CX0 3 fL fdL psLong (spLong K C CL)
  b : L2.Binds K fdL psLong dsL
  d : Vals [.ref d1, .ref d2, .ref d3, .ref d4] dsL
  dflt : ∀ H, SqT K H d1 [] ∧ SqT K H d2 [] ∧ SqT K H d3 [] ∧ SqT K H d4 []
  g : mg "Longer" = some (.ref CLo)
end
end EL

/- part K81A -/
namespace EL
open PySem PySem.Spec PyProof.Rows L2
open PySem.W (Frag)
abbrev s__denying_telling : Stmt := top 34
abbrev N__denying_telling : List Str := ["book", "w", "e", "x", "early", "late"]
theorem sc__denying_telling : FnScope N__denying_telling ["book", "w", "e", "x"] (defScope s__denying_telling) := ⟨rfl, rfl, rfl, by decide +kernel, rfl, by decide +kernel, by decide +kernel⟩
abbrev s__denying_clause : Stmt := top 35
abbrev N__denying_clause : List Str := ["book", "w", "kind", "v", "other", "one", "two"]
theorem sc__denying_clause : FnScope N__denying_clause ["book", "w", "kind", "v", "other"] (defScope s__denying_clause) := ⟨rfl, rfl, rfl, by decide +kernel, rfl, by decide +kernel, by decide +kernel⟩
abbrev s__denying : Stmt := top 36
abbrev N__denying : List Str := ["book", "sort", "item"]
theorem sc__denying : FnScope N__denying ["book", "sort", "item"] (defScope s__denying) := ⟨rfl, rfl, rfl, by decide +kernel, rfl, by decide +kernel, by decide +kernel⟩
abbrev s_contraries : Stmt := top 37
abbrev N_contraries : List Str := ["book", "sort", "item", "denying"]
theorem sc_contraries : FnScope N_contraries ["book", "sort", "item"] (defScope s_contraries) := ⟨rfl, rfl, rfl, by decide +kernel, rfl, by decide +kernel, by decide +kernel⟩
local macro_rules | `(tactic| walk_at "el1") => `(tactic| with_reducible first
  | refine a_sasg ?_ | refine a_sdrop ?_ | refine a_saugS ?_ | refine a_spar ?_ | refine a_seq ?_ | refine a_asg ?_ | refine a_drop ?_ | refine a_ret ?_ | refine a_if ?_ | refine a_next ?_
  | refine a_op ?_ | refine a_cons ?_ | refine a_nil ?_ | refine a_cb ?_ | refine a_call ?_ | refine a_c ?_ | refine a_gn ?_ | refine a_nx ?_ | refine a_rt ?_ | refine a_un ?_
  | refine a_test ?_ | refine a_B ?_ | refine a_bl ?_ | refine a_and ?_ | refine a_or ?_ | refine a_not ?_ | refine a_andV ?_ | refine a_orV ?_ | refine a_notV ?_ | refine a_ifx ?_ | refine a_chain ?_
  | refine a_nT ?_ | refine a_nF ?_ | refine a_fld ?_ | refine a_getF ?_ | refine a_T ?_ | refine a_F ?_ | refine a_tup ?_ | refine a_lst ?_ | refine a_sub ?_ | refine a_augS ?_ | refine a_two ?_ | refine a_I0 ?_ | refine a_U ?_ | refine n_add ?_ | refine n_int ?_ | refine n_ib ?_ | refine a_ip ?_ | refine a_rng1 ?_ | refine a_rng2 ?_ | refine a_bm ?_ | refine a_abs ?_ | refine a_pairs ?_ | refine a_pairs0 ?_ | refine a_bk ?_ | refine a_prp ?_ | refine a_lc ?_ | refine a_yes ?_ | refine a_sl ?_ | refine a_nop ?_ | refine a_prt ?_ | refine a_ex1 ?_ | refine a_for ?_ | refine a_sfor ?_ | refine a_iE1 ?_ | refine a_iEs ?_ | refine a_iEz ?_ | refine a_iEnum ?_ | refine a_iTup ?_ | refine a_iList ?_ | refine a_gcons ?_ | refine a_gnil ?_ | refine a_revT ?_ | refine a_spar3 ?_ | refine a_par3 ?_ | refine a_three ?_)
local macro_rules | `(tactic| walk_at "el2") => `(tactic| first
  | (refine a_var (by rfl) ?_)
  | (refine n_ixL (SqL.of (by assumption)) (by rfl) ?_) | (refine n_ixT (SqT.of (by assumption)) (by rfl) ?_) | (refine n_eq (by rfl) ?_) | (refine n_ne (by rfl) ?_)
  | (refine n_isN ?_) | (refine n_notN ?_) | (refine n_isB ?_) | (refine n_notB ?_) | (refine n_isBI ?_) | (refine n_notBI ?_) | (refine n_len (.inl (SqL.of (by assumption))) ?_) | (refine n_len (.inr (SqT.of (by assumption))) ?_)
  | (refine a_getL (SqL.of (by assumption)) (by rfl) ?_)
  | (refine n_isInt (by assumption) ?_) | (refine n_isBool (by assumption) ?_) | (refine n_isStr (by assumption) ?_) | (refine n_isTup (by assumption) ?_) | (refine n_isLst (by assumption) ?_))
local macro_rules | `(tactic| walk_at "el") => `(tactic| repeat (first | walk_at "el1" | walk_at "el2"))

/-- x(e, .., *y), x a def of the module -/
theorem pe_calS {X : Cx} {CX : CXT} {k : Nat} {x : Str} {ps : List Str} {sp : Sp} {E : XK} {p pos : Pos} {e : Expr} {es : List Expr} {t : TA} (c : Cal X.prog X.w X.K X.mg X.base CX k x ps sp) (hr : Room k X.A) (hx : Passes CX X E) (ha : PA X (e :: es) t) (hg : Gl X x := by rfl) (hdb : (x == ("__debug__" : Str)) = false := by decide)
    (he : starEach (e :: es) X.env = (false, eval e X.env) :: starEach es X.env := by rfl) (hst : (backTo pos (starEach es X.env)).any (·.1) = true := by rfl) :
    PE X (.Call (.Name x p) (e :: es) [] pos) (tCall sp [] E t) := by
  obtain ⟨f, fd, h1, h2, h3, h4⟩ := c.ex
  exact StX.pe_callS2 (FnOk.raw h4 h3 .nil) hr h2 hg h1 hx ha hdb he hst
/-! ### Longer(book, k = v, ..) -/
theorem vals_take {vs : List V} {us : List Value} (h : Vals vs us) : ∀ n, Vals (vs.take n) (us.take n) := by
  induction h with
  | nil => intro n; rw [List.take_nil, List.take_nil]; exact .nil
  | cons r _ ih =>
    intro n
    cases n with
    | zero => exact .nil
    | succ n => exact .cons r (ih n)
theorem vals_drop {vs : List V} {us : List Value} (h : Vals vs us) : ∀ n, Vals (vs.drop n) (us.drop n) := by
  induction h with
  | nil => intro n; rw [List.drop_nil, List.drop_nil]; exact .nil
  | cons r t ih =>
    intro n
    cases n with
    | zero => exact .cons r t
    | succ n => exact ih n
/-- positional values, then the defaults with m of them from place i on put by keyword -/
def putK {α : Type} (i m : Nat) (us its ws : List α) : List α := us ++ (its.take i ++ (ws ++ its.drop (i + m)))
theorem putK_rel {i m : Nat} {vs ds zs : List V} {us its ws : List Value} (h1 : Vals vs us) (h2 : Vals ds its) (h3 : Vals zs ws) : Vals (putK i m vs ds zs) (putK i m us its ws) := h1.append ((vals_take h2 _).append (h3.append (vals_drop h2 _)))
/-- a class below Book whose instances take items more by keyword -/
structure LonG (P : Program) (w : World) (K : Frag) (mg : Str → Option Value) (base : Heap) (C CL d1 d2 d3 d4 : Addr) : Prop where
  ex : ∃ f fd i1 i2 i3 i4, Mk K CL f ∧ FnOk P w K mg base CX0 3 f fd psLong (spLong K C CL) ∧ L2.KBn K fd psLong 2 ["gaps"] (fun us ws => putK 1 1 us i1 ws) (fun vs zs => putK 1 1 vs [.ref d1, .ref d2, .ref d3, .ref d4] zs) ∧
    L2.KBn K fd psLong 2 ["sure"] (fun us ws => putK 2 1 us i2 ws) (fun vs zs => putK 2 1 vs [.ref d1, .ref d2, .ref d3, .ref d4] zs) ∧ L2.KBn K fd psLong 2 ["clauses"] (fun us ws => putK 3 1 us i3 ws) (fun vs zs => putK 3 1 vs [.ref d1, .ref d2, .ref d3, .ref d4] zs) ∧
    L2.KBn K fd psLong 2 ["sure", "clauses"] (fun us ws => putK 2 2 us i4 ws) (fun vs zs => putK 2 2 vs [.ref d1, .ref d2, .ref d3, .ref d4] zs)
  g : mg "Longer" = some (.ref CL)
  d : ∀ H, SqT K H d1 [] ∧ SqT K H d2 [] ∧ SqT K H d3 [] ∧ SqT K H d4 []
section
variable {X : Cx} {C CL d1 d2 d3 d4 : Addr} {p pos : Pos} {e : Expr} {kws : List Keyword} {t tk : TA}
theorem pe_lonG (G : LonG X.prog X.w X.K X.mg X.base C CL d1 d2 d3 d4) (hr : Room 4 X.A) (hg : Gl X "Longer") (ha : PA X [e] t) (hkw : PK X kws tk) (hall : (backToKw pos (keywordEach kws X.env)).all (·.1.isSome) = true := by rfl) (hks : (backToKw pos (keywordEach kws X.env)).filterMap (·.1) = ([("gaps" : Str)] : List Str) := by rfl)
    (he : starEach [e] X.env = (false, eval e X.env) :: starEach [] X.env := by rfl) (hpl : ((backTo pos (starEach [e] X.env)).any (·.1) || (backToKw pos (keywordEach kws X.env)).any (·.1.isNone)) = false := by rfl) :
    PE X (.Call (.Name "Longer" p) [e] kws pos) (tMakeN CL 1 1 (spLong X.K C CL) (fun vs zs => putK 1 1 vs [.ref d1, .ref d2, .ref d3, .ref d4] zs) E0 t tk) := by
  obtain ⟨f, fd, i1, i2, i3, i4, M, F, k1, k2, k3, k4⟩ := G.ex
  exact pe_makeN (p := p) (pos := pos) M F hr hg G.g k1 pass0 ha hkw hall hks (by decide) he hpl
theorem pe_lonS (G : LonG X.prog X.w X.K X.mg X.base C CL d1 d2 d3 d4) (hr : Room 4 X.A) (hg : Gl X "Longer") (ha : PA X [e] t) (hkw : PK X kws tk) (hall : (backToKw pos (keywordEach kws X.env)).all (·.1.isSome) = true := by rfl) (hks : (backToKw pos (keywordEach kws X.env)).filterMap (·.1) = ([("sure" : Str)] : List Str) := by rfl)
    (he : starEach [e] X.env = (false, eval e X.env) :: starEach [] X.env := by rfl) (hpl : ((backTo pos (starEach [e] X.env)).any (·.1) || (backToKw pos (keywordEach kws X.env)).any (·.1.isNone)) = false := by rfl) :
    PE X (.Call (.Name "Longer" p) [e] kws pos) (tMakeN CL 1 1 (spLong X.K C CL) (fun vs zs => putK 2 1 vs [.ref d1, .ref d2, .ref d3, .ref d4] zs) E0 t tk) := by
  obtain ⟨f, fd, i1, i2, i3, i4, M, F, k1, k2, k3, k4⟩ := G.ex
  exact pe_makeN (p := p) (pos := pos) M F hr hg G.g k2 pass0 ha hkw hall hks (by decide) he hpl
theorem pe_lonC (G : LonG X.prog X.w X.K X.mg X.base C CL d1 d2 d3 d4) (hr : Room 4 X.A) (hg : Gl X "Longer") (ha : PA X [e] t) (hkw : PK X kws tk) (hall : (backToKw pos (keywordEach kws X.env)).all (·.1.isSome) = true := by rfl) (hks : (backToKw pos (keywordEach kws X.env)).filterMap (·.1) = ([("clauses" : Str)] : List Str) := by rfl)
    (he : starEach [e] X.env = (false, eval e X.env) :: starEach [] X.env := by rfl) (hpl : ((backTo pos (starEach [e] X.env)).any (·.1) || (backToKw pos (keywordEach kws X.env)).any (·.1.isNone)) = false := by rfl) :
    PE X (.Call (.Name "Longer" p) [e] kws pos) (tMakeN CL 1 1 (spLong X.K C CL) (fun vs zs => putK 3 1 vs [.ref d1, .ref d2, .ref d3, .ref d4] zs) E0 t tk) := by
  obtain ⟨f, fd, i1, i2, i3, i4, M, F, k1, k2, k3, k4⟩ := G.ex
  exact pe_makeN (p := p) (pos := pos) M F hr hg G.g k3 pass0 ha hkw hall hks (by decide) he hpl
theorem pe_lonSC (G : LonG X.prog X.w X.K X.mg X.base C CL d1 d2 d3 d4) (hr : Room 4 X.A) (hg : Gl X "Longer") (ha : PA X [e] t) (hkw : PK X kws tk) (hall : (backToKw pos (keywordEach kws X.env)).all (·.1.isSome) = true := by rfl) (hks : (backToKw pos (keywordEach kws X.env)).filterMap (·.1) = ([("sure" : Str), ("clauses" : Str)] : List Str) := by rfl)
    (he : starEach [e] X.env = (false, eval e X.env) :: starEach [] X.env := by rfl) (hpl : ((backTo pos (starEach [e] X.env)).any (·.1) || (backToKw pos (keywordEach kws X.env)).any (·.1.isNone)) = false := by rfl) :
    PE X (.Call (.Name "Longer" p) [e] kws pos) (tMakeN CL 1 2 (spLong X.K C CL) (fun vs zs => putK 2 2 vs [.ref d1, .ref d2, .ref d3, .ref d4] zs) E0 t tk) := by
  obtain ⟨f, fd, i1, i2, i3, i4, M, F, k1, k2, k3, k4⟩ := G.ex
  exact pe_makeN (p := p) (pos := pos) M F hr hg G.g k4 pass0 ha hkw hall hks (by decide) he hpl
end
/-! ### a book with items more -/
def catD (D E : PD) : PD := ⟨D.T ++ E.T, D.G ++ E.G, D.S ++ E.S, D.L ++ E.L⟩
theorem rows_cat {α : Type} {enc : α → List V} {H : Hp} {xs ys : List V} {D E : List α} (h : RowsAre enc H xs D) (k : RowsAre enc H ys E) : RowsAre enc H (xs ++ ys) (D ++ E) := ⟨by rw [List.length_append, List.length_append, h.len, k.len], fun i v hv => by
  by_cases c : i < xs.length
  · rw [List.getElem?_append_left c] at hv
    obtain ⟨q, x, e, hx, hq⟩ := h.at_ i v hv
    exact ⟨q, x, e, by rw [List.getElem?_append_left (by rw [← h.len]; exact c)]; exact hx, hq⟩
  · rw [List.getElem?_append_right (by omega)] at hv
    obtain ⟨q, x, e, hx, hq⟩ := k.at_ _ v hv
    exact ⟨q, x, e, by rw [List.getElem?_append_right (by rw [← h.len]; omega), ← h.len]; exact hx, hq⟩⟩
/-- what a new book with items more is known for -/
def NewL (K : Frag) (CL : Addr) (A : BA) (D E : PD) (H : Hp) (Q : VK) : Prop := ∀ (B : BA) H', Same H H' → H B.o = none → B.ev = A.ev → B.wi = A.wi → (∀ u, (B.xs u).length ≤ (A.xs u).length + 2) → BookV K CL H' B (catD D E) → Q (.ref B.o) H'
theorem n_long {K : Frag} {C CL : Addr} {H : Hp} {Q : VK} {A : BA} {D E : PD} {ex : Pt → Addr} {zs : Pt → List V} (hB : BookV K C H A D) (hz : ∀ u, SqT K H (ex u) (zs u)) (hR : PR H zs E) (hi : ∀ u, ∀ x ∈ zs u, ItemOk u H x A.ev A.wi) (h22 : ∀ u, (A.xs u).length ≤ 22) (h2 : ∀ u, (zs u).length ≤ 2)
    (q : NewL K CL A D E H Q) (x dx : Addr) (nx : H x = none) (nd : H dx = none) (ne : dx ≠ x) :
    spLong K C CL [.ref x, .ref A.o, .ref (ex .tel), .ref (ex .gap), .ref (ex .sur), .ref (ex .cla)] (upd (upd H dx (.own x)) x (.ins CL dx [])) (fun v H2 => v = .non ∧ Q (.ref x) H2) E0 := by
  have s0 := new_same (C := CL) nx nd ne
  refine ⟨A, D, x, dx, ex, zs, rfl, upd_same, hB.bb.same s0, fun u => (hz u).same s0, fun u => ?_, fun H' φ k ho hs => ⟨rfl, ?_⟩⟩
  · have := h22 u; have := h2 u; omega
  · have s := made_same nx nd k
    have lens : ∀ u, (A.xs u ++ zs u).length ≤ (A.xs u).length + 2 := fun u => by rw [List.length_append]; have := h2 u; omega
    have R := hB.bb.r.same s
    have Z := hR.same s
    exact q ⟨x, dx, φ .tel, φ .gap, φ .sur, φ .cla, A.ev, A.wi, fun u => A.xs u ++ zs u⟩ H' s nx rfl rfl lens
      ⟨⟨ho, hs .tel, hs .gap, hs .sur, hs .cla, ⟨rows_cat R.t Z.t, rows_cat R.g Z.g, rows_cat R.s Z.s, rows_cat R.l Z.l⟩⟩, hB.e0, hB.e8, hB.w0, hB.w8, fun u => by have := lens u; have := h22 u; show (A.xs u ++ zs u).length ≤ 24; omega,
        fun u y hy => (List.mem_append.mp hy).elim (fun h => (hB.items u y h).same s) fun h => (hi u y h).same s⟩
/-- rows of one thing, of none -/
theorem rows_nil9 {α : Type} {enc : α → List V} {H : Hp} : RowsAre enc H [] ([] : List α) := ⟨rfl, fun i v h => by cases h⟩
theorem rows_one {α : Type} {enc : α → List V} {H : Hp} {q : Addr} {x : α} (h : H q = some (.tup (enc x))) : RowsAre enc H [.ref q] [x] := ⟨rfl, fun i v hv => by
  cases i with
  | zero => cases hv; exact ⟨q, x, rfl, rfl, h⟩
  | succ i => cases hv⟩
end EL

/- part K81B -/
namespace EL
open PySem PySem.Spec PyProof.Rows L2
open PySem.W (Frag)
local macro_rules | `(tactic| walk_at "el1") => `(tactic| with_reducible first
  | refine a_sasg ?_ | refine a_sdrop ?_ | refine a_saugS ?_ | refine a_spar ?_ | refine a_seq ?_ | refine a_asg ?_ | refine a_drop ?_ | refine a_ret ?_ | refine a_if ?_ | refine a_next ?_
  | refine a_op ?_ | refine a_cons ?_ | refine a_nil ?_ | refine a_cb ?_ | refine a_call ?_ | refine a_c ?_ | refine a_gn ?_ | refine a_nx ?_ | refine a_rt ?_ | refine a_un ?_
  | refine a_test ?_ | refine a_B ?_ | refine a_bl ?_ | refine a_and ?_ | refine a_or ?_ | refine a_not ?_ | refine a_andV ?_ | refine a_orV ?_ | refine a_notV ?_ | refine a_ifx ?_ | refine a_chain ?_
  | refine a_nT ?_ | refine a_nF ?_ | refine a_fld ?_ | refine a_getF ?_ | refine a_T ?_ | refine a_F ?_ | refine a_tup ?_ | refine a_lst ?_ | refine a_sub ?_ | refine a_augS ?_ | refine a_two ?_ | refine a_I0 ?_ | refine a_U ?_ | refine n_add ?_ | refine n_int ?_ | refine n_ib ?_ | refine a_ip ?_ | refine a_rng1 ?_ | refine a_rng2 ?_ | refine a_bm ?_ | refine a_abs ?_ | refine a_pairs ?_ | refine a_pairs0 ?_ | refine a_bk ?_ | refine a_prp ?_ | refine a_lc ?_ | refine a_yes ?_ | refine a_sl ?_ | refine a_nop ?_ | refine a_prt ?_ | refine a_ex1 ?_ | refine a_for ?_ | refine a_sfor ?_ | refine a_iE1 ?_ | refine a_iEs ?_ | refine a_iEz ?_ | refine a_iEnum ?_ | refine a_iTup ?_ | refine a_iList ?_ | refine a_gcons ?_ | refine a_gnil ?_ | refine a_revT ?_ | refine a_spar3 ?_ | refine a_par3 ?_ | refine a_three ?_)
local macro_rules | `(tactic| walk_at "el2") => `(tactic| first
  | (refine a_var (by rfl) ?_)
  | (refine n_ixL (SqL.of (by assumption)) (by rfl) ?_) | (refine n_ixT (SqT.of (by assumption)) (by rfl) ?_) | (refine n_eq (by rfl) ?_) | (refine n_ne (by rfl) ?_)
  | (refine n_isN ?_) | (refine n_notN ?_) | (refine n_isB ?_) | (refine n_notB ?_) | (refine n_isBI ?_) | (refine n_notBI ?_) | (refine n_len (.inl (SqL.of (by assumption))) ?_) | (refine n_len (.inr (SqT.of (by assumption))) ?_)
  | (refine a_getL (SqL.of (by assumption)) (by rfl) ?_)
  | (refine n_isInt (by assumption) ?_) | (refine n_isBool (by assumption) ?_) | (refine n_isStr (by assumption) ?_) | (refine n_isTup (by assumption) ?_) | (refine n_isLst (by assumption) ?_))
local macro_rules | `(tactic| walk_at "el") => `(tactic| repeat (first | walk_at "el1" | walk_at "el2"))

/-- what says the contrary of an item, part by part -/
def denyD : Pt → List V → List PD
  | .tel, [.int w, .int e, .int x] => [⟨[], [], [(e, "most", x - 1)], [(w, "early", w, "early")]⟩, ⟨[], [], [(e, "least", x + 1)], [(w, "late", w, "late")]⟩]
  | .gap, [.int a, .int b, .int g] => [⟨[], [(b, a, 1 - g)], [], []⟩]
  | .sur, [.int e, .str s, .int x] => [⟨[], [], [if s = "least" then (e, "most", x - 1) else (e, "least", x + 1)], []⟩]
  | .cla, [.int w, .str k, .int v, .str o] => [⟨[], [], [], [(w, otherK k, w, otherK k), (v, otherK o, v, otherK o)]⟩]
  | _, _ => []
def spDG (K : Frag) (C CL : Addr) : Sp := fun vs H Q _ => ∃ (A : BA) (D : PD) (a b g : Int), vs = [.ref A.o, .int a, .int b, .int g] ∧ BookV K C H A D ∧ (∀ u, (A.xs u).length ≤ 22) ∧ 0 ≤ a ∧ a < A.ev ∧ 0 ≤ b ∧ b < A.ev ∧ b ≠ a ∧ -10000000000000 ≤ g ∧ g ≤ 10000000000000 ∧ NewL K CL A D ⟨[], [(b, a, 1 - g)], [], []⟩ H Q
def spDB (K : Frag) (C CL : Addr) : Sp := fun vs H Q _ => ∃ (A : BA) (D : PD) (e x : Int) (s : Str), vs = [.ref A.o, .int e, .str s, .int x] ∧ BookV K C H A D ∧ (∀ u, (A.xs u).length ≤ 22) ∧ 0 ≤ e ∧ e < A.ev ∧ -10000000000000 ≤ x ∧ x ≤ 10000000000000 ∧ NewL K CL A D ⟨[], [], [if s = "least" then (e, "most", x - 1) else (e, "least", x + 1)], []⟩ H Q
/-- a list of new books with items more -/
def NewLs (K : Frag) (CL : Addr) (A : BA) (D : PD) (Es : List PD) (H : Hp) (Q : VK) : Prop := ∀ (q : Addr) (Bs : List BA) H', Same H H' → H q = none → H' q = some (.lst (Bs.map fun B => .ref B.o)) → Bs.length = Es.length → (∀ (j : Nat) (B : BA) (E : PD), Bs[j]? = some B → Es[j]? = some E → B.ev = A.ev ∧ B.wi = A.wi ∧ (∀ u, (B.xs u).length ≤ (A.xs u).length + 2) ∧ BookV K CL H' B (catD D E)) → Q (.ref q) H'
theorem none_b9 {H H1 : Hp} {p : Addr} (s : Same H H1) (h : H1 p = none) : H p = none := by
  cases e : H p
  · rfl
  · rw [s _ _ e] at h; cases h
theorem NewL.mono {K : Frag} {CL : Addr} {A : BA} {D E : PD} {H H1 : Hp} {Q : VK} (h : NewL K CL A D E H Q) (s : Same H H1) : NewL K CL A D E H1 Q := fun B H' s' n => h B H' (s.trans s') (none_b9 s n)
/-- addresses and rows of parts, one by one -/
def exF (a b c d : Addr) : Pt → Addr | .tel => a | .gap => b | .sur => c | .cla => d
def zsF (a b c d : List V) : Pt → List V | .tel => a | .gap => b | .sur => c | .cla => d
section
variable {P : Program} {w : World} {K : Frag} {mg : Str → Option Value} {base : Heap} {f : Addr} {fd : FuncData} {C CL d1 d2 d3 d4 : Addr}
theorem ok_denying_gap (F : Fun K "denying_gap" "denying_gap" s_denying_gap f fd) (T : Tb mg) (c_Lon : LonG P w K mg base C CL d1 d2 d3 d4) : FnOk P w K mg base CX0 5 f fd ["book", "a", "b", "g"] (spDG K C CL) := by
  refine F.ok sc_denying_gap (fun vs H Q E h => ?_) (fun cdv A outer s H vs Q E hr h => ?_)
  · obtain ⟨_, _, _, _, _, rfl, _⟩ := h
    rfl
  · obtain ⟨B, D, a, b, g, rfl, hB, h22, a0, a1, b0, b1, ne, g0, g1, k⟩ := h
    refine ⟨_, (pss_one (ps_ret (pe_lonG c_Lon (hr.mono (by decide)) rfl (pa_cons (pv 0) pa_nil) (pk_cons (pe_tup (pa_cons (pe_tup (pa_cons (pv 2) (pa_cons (pv 1) (pa_cons (pe_op op_sub pe_int (pv 3)) pa_nil)))) pa_nil)) pk_nil)))), ?_⟩
    walk_at "el"
    refine ⟨by show 3 ≤ sizeLine; decide, fun p hp => ?_⟩
    have e1 := nw_of hp (.tup [.int b, .int a, .int (1 - g)])
    have g1' := upd_at hp (.tup [.int b, .int a, .int (1 - g)])
    walk_at "el"
    refine ⟨by show 1 ≤ sizeLine; decide, fun p2 hp2 => ?_⟩
    have e2 := nw_of hp2 (.tup [.ref p])
    have g2 := e2 _ _ g1'
    have g3 := upd_at hp2 (.tup [.ref p])
    have s2 := e1.trans e2
    have k := k.mono s2
    have hB := hB.same s2
    generalize upd (upd H p (.tup [.int b, .int a, .int (1 - g)])) p2 (.tup [.ref p]) = H2 at g2 g3 k hB ⊢
    obtain ⟨z1, z2, z3, z4⟩ := c_Lon.d H2
    refine ⟨rfl, rfl, ?_⟩
    refine n_long (E := ⟨[], [(b, a, 1 - g)], [], []⟩) (ex := exF d1 p2 d3 d4) (zs := zsF [] [.ref p] [] []) hB (fun u => match u with | .tel => z1 | .gap => SqT.of g3 | .sur => z3 | .cla => z4) ⟨rows_nil9, rows_one (enc := encT) (x := (b, a, 1 - g)) g2, rows_nil9, rows_nil9⟩ (fun u x hx => ?_) h22 (fun u => by cases u <;> simp only [zsF, List.length_nil, List.length_cons] <;> omega) k
    cases u
    · cases hx
    · rw [List.mem_singleton.mp hx]; exact item_gap g2 b0 b1 a0 a1 (fun e => ne e.symm) (by omega) (by omega)
    · cases hx
    · cases hx
theorem ok_denying_bound (F : Fun K "denying_bound" "denying_bound" s_denying_bound f fd) (T : Tb mg) (c_Lon : LonG P w K mg base C CL d1 d2 d3 d4) : FnOk P w K mg base CX0 5 f fd ["book", "e", "side", "x"] (spDB K C CL) := by
  refine F.ok sc_denying_bound (fun vs H Q E h => ?_) (fun cdv A outer s H vs Q E hr h => ?_)
  · obtain ⟨_, _, _, _, _, rfl, _⟩ := h
    rfl
  · obtain ⟨B, D, e, x, sd, rfl, hB, h22, a0, a1, g0, g1, k⟩ := h
    refine ⟨_, (pss_cons (ps_if (pt_cmpR (u_eq hr.units) (pv 2) pe_str (nomark _))
    (pss_one (ps_ret (pe_lonS c_Lon (hr.mono (by decide)) rfl (pa_cons (pv 0) pa_nil) (pk_cons (pe_tup (pa_cons (pe_tup (pa_cons (pv 1) (pa_cons pe_str (pa_cons (pe_op op_sub (pv 3) pe_int) pa_nil)))) pa_nil)) pk_nil))))
    pss_nil)
  (pss_one (ps_ret (pe_lonS c_Lon (hr.mono (by decide)) rfl (pa_cons (pv 0) pa_nil) (pk_cons (pe_tup (pa_cons (pe_tup (pa_cons (pv 1) (pa_cons pe_str (pa_cons (pe_op u_add (pv 3) pe_int) pa_nil)))) pa_nil)) pk_nil))))), ?_⟩
    have dk9 : ∀ a b : Str, decide (V.str a = V.str b) = decide (a = b) := fun a b => by
      rw [Bool.eq_iff_iff, decide_eq_true_iff, decide_eq_true_iff]; exact ⟨fun h => V.str.inj h, fun h => congrArg V.str h⟩
    have fin : ∀ (sd' : Str) (x' : Int), (sd' = "least" ∨ sd' = "most") → -10000000000001 ≤ x' → x' ≤ 10000000000001 → NewL K CL B D ⟨[], [], [(e, sd', x')], []⟩ H Q → ∀ p, H p = none → ∀ p2, upd H p (.tup [.int e, .str sd', .int x']) p2 = none → ∀ (y dx : Addr), upd (upd H p (.tup [.int e, .str sd', .int x'])) p2 (.tup [.ref p]) y = none → upd (upd H p (.tup [.int e, .str sd', .int x'])) p2 (.tup [.ref p]) dx = none → dx ≠ y →
        spLong K C CL [.ref y, .ref B.o, .ref d1, .ref d2, .ref p2, .ref d4] (upd (upd (upd (upd H p (.tup [.int e, .str sd', .int x'])) p2 (.tup [.ref p])) dx (.own y)) y (.ins CL dx [])) (fun v H2 => v = .non ∧ Q (.ref y) H2) E0 := fun sd' x' hs h0 h1 k p hp p2 hp2 => by
      have e1 := nw_of hp (.tup [.int e, .str sd', .int x'])
      have g1' := upd_at hp (.tup [.int e, .str sd', .int x'])
      have e2 := nw_of hp2 (.tup [.ref p])
      have g2 := e2 _ _ g1'
      have g3 := upd_at hp2 (.tup [.ref p])
      have s2 := e1.trans e2
      have k := k.mono s2
      have hB := hB.same s2
      generalize upd (upd H p (.tup [.int e, .str sd', .int x'])) p2 (.tup [.ref p]) = H2 at g2 g3 k hB ⊢
      obtain ⟨z1, z2, z3, z4⟩ := c_Lon.d H2
      refine n_long (E := ⟨[], [], [(e, sd', x')], []⟩) (ex := exF d1 d2 p2 d4) (zs := zsF [] [] [.ref p] []) hB (fun u => match u with | .tel => z1 | .gap => z2 | .sur => SqT.of g3 | .cla => z4) ⟨rows_nil9, rows_nil9, rows_one (enc := encS) (x := (e, sd', x')) g2, rows_nil9⟩ (fun u x hx => ?_) h22 (fun u => by cases u <;> simp only [zsF, List.length_nil, List.length_cons] <;> omega) k
      cases u
      · cases hx
      · cases hx
      · rw [List.mem_singleton.mp hx]; exact item_sur g2 a0 a1 hs (by omega) (by omega)
      · cases hx
    walk_at "el"
    rw [dk9]
    by_cases c : sd = "least"
    · rw [decide_eq_true c]
      rw [if_pos c] at k
      walk_at "el"
      refine ⟨by show 3 ≤ sizeLine; decide, fun p hp => ?_⟩
      walk_at "el"
      refine ⟨by show 1 ≤ sizeLine; decide, fun p2 hp2 => ?_⟩
      exact ⟨rfl, rfl, fin "most" (x - 1) (.inr rfl) (by omega) (by omega) k p hp p2 hp2⟩
    · rw [decide_eq_false c]
      rw [if_neg c] at k
      walk_at "el"
      refine ⟨by show 3 ≤ sizeLine; decide, fun p hp => ?_⟩
      walk_at "el"
      refine ⟨by show 1 ≤ sizeLine; decide, fun p2 hp2 => ?_⟩
      exact ⟨rfl, rfl, fin "least" (x + 1) (.inl rfl) (by omega) (by omega) k p hp p2 hp2⟩
end
end EL

/- part K81C -/
namespace EL
open PySem PySem.Spec PyProof.Rows L2
open PySem.W (Frag)
local macro_rules | `(tactic| walk_at "el1") => `(tactic| with_reducible first
  | refine a_sasg ?_ | refine a_sdrop ?_ | refine a_saugS ?_ | refine a_spar ?_ | refine a_seq ?_ | refine a_asg ?_ | refine a_drop ?_ | refine a_ret ?_ | refine a_if ?_ | refine a_next ?_
  | refine a_op ?_ | refine a_cons ?_ | refine a_nil ?_ | refine a_cb ?_ | refine a_call ?_ | refine a_c ?_ | refine a_gn ?_ | refine a_nx ?_ | refine a_rt ?_ | refine a_un ?_
  | refine a_test ?_ | refine a_B ?_ | refine a_bl ?_ | refine a_and ?_ | refine a_or ?_ | refine a_not ?_ | refine a_andV ?_ | refine a_orV ?_ | refine a_notV ?_ | refine a_ifx ?_ | refine a_chain ?_
  | refine a_nT ?_ | refine a_nF ?_ | refine a_fld ?_ | refine a_getF ?_ | refine a_T ?_ | refine a_F ?_ | refine a_tup ?_ | refine a_lst ?_ | refine a_sub ?_ | refine a_augS ?_ | refine a_two ?_ | refine a_I0 ?_ | refine a_U ?_ | refine n_add ?_ | refine n_int ?_ | refine n_ib ?_ | refine a_ip ?_ | refine a_rng1 ?_ | refine a_rng2 ?_ | refine a_bm ?_ | refine a_abs ?_ | refine a_pairs ?_ | refine a_pairs0 ?_ | refine a_bk ?_ | refine a_prp ?_ | refine a_lc ?_ | refine a_yes ?_ | refine a_sl ?_ | refine a_nop ?_ | refine a_prt ?_ | refine a_ex1 ?_ | refine a_for ?_ | refine a_sfor ?_ | refine a_iE1 ?_ | refine a_iEs ?_ | refine a_iEz ?_ | refine a_iEnum ?_ | refine a_iTup ?_ | refine a_iList ?_ | refine a_gcons ?_ | refine a_gnil ?_ | refine a_revT ?_ | refine a_spar3 ?_ | refine a_par3 ?_ | refine a_three ?_)
local macro_rules | `(tactic| walk_at "el2") => `(tactic| first
  | (refine a_var (by rfl) ?_)
  | (refine n_ixL (SqL.of (by assumption)) (by rfl) ?_) | (refine n_ixT (SqT.of (by assumption)) (by rfl) ?_) | (refine n_eq (by rfl) ?_) | (refine n_ne (by rfl) ?_)
  | (refine n_isN ?_) | (refine n_notN ?_) | (refine n_isB ?_) | (refine n_notB ?_) | (refine n_isBI ?_) | (refine n_notBI ?_) | (refine n_len (.inl (SqL.of (by assumption))) ?_) | (refine n_len (.inr (SqT.of (by assumption))) ?_)
  | (refine a_getL (SqL.of (by assumption)) (by rfl) ?_)
  | (refine n_isInt (by assumption) ?_) | (refine n_isBool (by assumption) ?_) | (refine n_isStr (by assumption) ?_) | (refine n_isTup (by assumption) ?_) | (refine n_isLst (by assumption) ?_))
local macro_rules | `(tactic| walk_at "el") => `(tactic| repeat (first | walk_at "el1" | walk_at "el2"))

def spDT (K : Frag) (C CL : Addr) : Sp := fun vs H Q _ => ∃ (A : BA) (D : PD) (w e x : Int), vs = [.ref A.o, .int w, .int e, .int x] ∧ BookV K C H A D ∧ (∀ u, (A.xs u).length ≤ 22) ∧ 0 ≤ w ∧ w < A.wi ∧ 0 ≤ e ∧ e < A.ev ∧ -10000000000000 ≤ x ∧ x ≤ 10000000000000 ∧ NewLs K CL A D (denyD .tel [.int w, .int e, .int x]) H Q
def spDC (K : Frag) (C CL : Addr) : Sp := fun vs H Q _ => ∃ (A : BA) (D : PD) (w v : Int) (s o : Str), vs = [.ref A.o, .int w, .str s, .int v, .str o] ∧ BookV K C H A D ∧ (∀ u, (A.xs u).length ≤ 22) ∧ 0 ≤ w ∧ w < A.wi ∧ 0 ≤ v ∧ v < A.wi ∧ NewLs K CL A D (denyD .cla [.int w, .str s, .int v, .str o]) H Q
theorem otherK_ok9 {s : Str} : otherK s = "early" ∨ otherK s = "late" := by
  unfold otherK
  by_cases c : s = "early"
  · rw [if_pos c]; exact .inr rfl
  · rw [if_neg c]; exact .inl rfl
theorem NewLs.mono {K : Frag} {CL : Addr} {A : BA} {D : PD} {Es : List PD} {H H1 : Hp} {Q : VK} (h : NewLs K CL A D Es H Q) (s : Same H H1) : NewLs K CL A D Es H1 Q := fun q Bs H' s' n => h q Bs H' (s.trans s') (none_b9 s n)
theorem rows_two9 {α : Type} {enc : α → List V} {H : Hp} {p q : Addr} {x y : α} (h : H p = some (.tup (enc x))) (h2 : H q = some (.tup (enc y))) : RowsAre enc H [.ref p, .ref q] [x, y] := ⟨rfl, fun i v hv => by
  match i with
  | 0 => cases hv; exact ⟨p, x, rfl, rfl, h⟩
  | 1 => cases hv; exact ⟨q, y, rfl, rfl, h2⟩
  | i + 2 => cases hv⟩
/-- a new book with items more, in whatever comes then -/
theorem n_longR {K : Frag} {C CL : Addr} {H : Hp} {R : Addr → VK} {A : BA} {D E : PD} {ex : Pt → Addr} {zs : Pt → List V} (hB : BookV K C H A D) (hz : ∀ u, SqT K H (ex u) (zs u)) (hR : PR H zs E) (hi : ∀ u, ∀ x ∈ zs u, ItemOk u H x A.ev A.wi) (h22 : ∀ u, (A.xs u).length ≤ 22) (h2 : ∀ u, (zs u).length ≤ 2)
    (q : ∀ (B : BA) H', Same H H' → H B.o = none → B.ev = A.ev → B.wi = A.wi → (∀ u, (B.xs u).length ≤ (A.xs u).length + 2) → BookV K CL H' B (catD D E) → R B.o .non H') (x dx : Addr) (nx : H x = none) (nd : H dx = none) (ne : dx ≠ x) :
    spLong K C CL [.ref x, .ref A.o, .ref (ex .tel), .ref (ex .gap), .ref (ex .sur), .ref (ex .cla)] (upd (upd H dx (.own x)) x (.ins CL dx [])) (R x) E0 := by
  have s0 := new_same (C := CL) nx nd ne
  refine ⟨A, D, x, dx, ex, zs, rfl, upd_same, hB.bb.same s0, fun u => (hz u).same s0, fun u => ?_, fun H' φ k ho hs => ?_⟩
  · have := h22 u; have := h2 u; omega
  · have s := made_same nx nd k
    have lens : ∀ u, (A.xs u ++ zs u).length ≤ (A.xs u).length + 2 := fun u => by rw [List.length_append]; have := h2 u; omega
    have R := hB.bb.r.same s
    have Z := hR.same s
    exact q ⟨x, dx, φ .tel, φ .gap, φ .sur, φ .cla, A.ev, A.wi, fun u => A.xs u ++ zs u⟩ H' s nx rfl rfl lens
      ⟨⟨ho, hs .tel, hs .gap, hs .sur, hs .cla, ⟨rows_cat R.t Z.t, rows_cat R.g Z.g, rows_cat R.s Z.s, rows_cat R.l Z.l⟩⟩, hB.e0, hB.e8, hB.w0, hB.w8, fun u => by have := lens u; have := h22 u; show (A.xs u ++ zs u).length ≤ 24; omega,
        fun u y hy => (List.mem_append.mp hy).elim (fun h => (hB.items u y h).same s) fun h => (hi u y h).same s⟩
section
variable {P : Program} {w : World} {K : Frag} {mg : Str → Option Value} {base : Heap} {f : Addr} {fd : FuncData} {C CL d1 d2 d3 d4 : Addr}
theorem ok_denying_telling (F : Fun K "_denying_telling" "_denying_telling" s__denying_telling f fd) (T : Tb mg) (c_Lon : LonG P w K mg base C CL d1 d2 d3 d4) : FnOk P w K mg base CX0 5 f fd ["book", "w", "e", "x"] (spDT K C CL) := by
  refine F.ok sc__denying_telling (fun vs H Q E h => ?_) (fun cdv A outer s H vs Q E hr h => ?_)
  · obtain ⟨_, _, _, _, _, rfl, _⟩ := h
    rfl
  · obtain ⟨B, D, w, e, x, rfl, hB, h22, w0, w1, a0, a1, g0, g1, k⟩ := h
    refine ⟨_, (pss_cons (ps_set (i := 4) sc__denying_telling.nd rfl (Or.inl rfl) (pe_lonSC c_Lon (hr.mono (by decide)) rfl (pa_cons (pv 0) pa_nil) (pk_cons (pe_tup (pa_cons (pe_tup (pa_cons (pv 2) (pa_cons pe_str (pa_cons (pe_op op_sub (pv 3) pe_int) pa_nil)))) pa_nil)) (pk_cons (pe_tup (pa_cons (pe_tup (pa_cons (pv 1) (pa_cons pe_str (pa_cons (pv 1) (pa_cons pe_str pa_nil))))) pa_nil)) pk_nil))))
  (pss_cons (ps_set (i := 5) sc__denying_telling.nd rfl (Or.inl rfl) (pe_lonSC c_Lon (hr.mono (by decide)) rfl (pa_cons (pv 0) pa_nil) (pk_cons (pe_tup (pa_cons (pe_tup (pa_cons (pv 2) (pa_cons pe_str (pa_cons (pe_op u_add (pv 3) pe_int) pa_nil)))) pa_nil)) (pk_cons (pe_tup (pa_cons (pe_tup (pa_cons (pv 1) (pa_cons pe_str (pa_cons (pv 1) (pa_cons pe_str pa_nil))))) pa_nil)) pk_nil))))
  (pss_one (ps_ret (pe_lst (pa_cons (pv 4) (pa_cons (pv 5) pa_nil))))))), ?_⟩
    have fin : ∀ (H : Hp) (R : Addr → VK) (sd kd : Str) (x' : Int), BookV K C H B D → (sd = "least" ∨ sd = "most") → (kd = "early" ∨ kd = "late") → -10000000000001 ≤ x' → x' ≤ 10000000000001 → (∀ (B' : BA) H', Same H H' → B'.ev = B.ev → B'.wi = B.wi → (∀ u, (B'.xs u).length ≤ (B.xs u).length + 2) → BookV K CL H' B' (catD D ⟨[], [], [(e, sd, x')], [(w, kd, w, kd)]⟩) → R B'.o .non H') → ∀ p, H p = none → ∀ p2, upd H p (.tup [.int e, .str sd, .int x']) p2 = none → 
        ∀ p3, upd (upd H p (.tup [.int e, .str sd, .int x'])) p2 (.tup [.ref p]) p3 = none → ∀ p4, upd (upd (upd H p (.tup [.int e, .str sd, .int x'])) p2 (.tup [.ref p])) p3 (.tup [.int w, .str kd, .int w, .str kd]) p4 = none → 
        ∀ (y dx : Addr), upd (upd (upd (upd H p (.tup [.int e, .str sd, .int x'])) p2 (.tup [.ref p])) p3 (.tup [.int w, .str kd, .int w, .str kd])) p4 (.tup [.ref p3]) y = none → upd (upd (upd (upd H p (.tup [.int e, .str sd, .int x'])) p2 (.tup [.ref p])) p3 (.tup [.int w, .str kd, .int w, .str kd])) p4 (.tup [.ref p3]) dx = none → dx ≠ y →
        spLong K C CL [.ref y, .ref B.o, .ref d1, .ref d2, .ref p2, .ref p4] (upd (upd (upd (upd (upd (upd H p (.tup [.int e, .str sd, .int x'])) p2 (.tup [.ref p])) p3 (.tup [.int w, .str kd, .int w, .str kd])) p4 (.tup [.ref p3])) dx (.own y)) y (.ins CL dx [])) (R y) E0 := fun H R sd kd x' hB hs hk h0 h1 k p hp p2 hp2 p3 hp3 p4 hp4 => by
      have e1 := nw_of hp (.tup [.int e, .str sd, .int x'])
      have g1' := upd_at hp (.tup [.int e, .str sd, .int x'])
      have e2 := nw_of hp2 (.tup [.ref p])
      have e3 := nw_of hp3 (.tup [.int w, .str kd, .int w, .str kd])
      have e4 := nw_of hp4 (.tup [.ref p3])
      have g1 := e4 _ _ (e3 _ _ (e2 _ _ g1'))
      have g2 := e4 _ _ (e3 _ _ (upd_at hp2 (.tup [.ref p])))
      have g3 := e4 _ _ (upd_at hp3 (.tup [.int w, .str kd, .int w, .str kd]))
      have g4 := upd_at hp4 (.tup [.ref p3])
      have s2 := ((e1.trans e2).trans e3).trans e4
      have k : ∀ (B' : BA) H', Same _ H' → _ := fun B' H' s' => k B' H' (s2.trans s')
      have hB := hB.same s2
      generalize upd (upd (upd (upd H p (.tup [.int e, .str sd, .int x'])) p2 (.tup [.ref p])) p3 (.tup [.int w, .str kd, .int w, .str kd])) p4 (.tup [.ref p3]) = H2 at g1 g2 g3 g4 k hB ⊢
      obtain ⟨z1, z2, z3, z4⟩ := c_Lon.d H2
      refine n_longR (R := R) (E := ⟨[], [], [(e, sd, x')], [(w, kd, w, kd)]⟩) (ex := exF d1 d2 p2 p4) (zs := zsF [] [] [.ref p] [.ref p3]) hB (fun u => match u with | .tel => z1 | .gap => z2 | .sur => SqT.of g2 | .cla => SqT.of g4) ⟨rows_nil9, rows_nil9, rows_one (enc := encS) (x := (e, sd, x')) g1, rows_one (enc := encL) (x := (w, kd, w, kd)) g3⟩ (fun u x hx => ?_) h22 (fun u => by cases u <;> simp only [zsF, List.length_nil, List.length_cons] <;> omega) (fun B' H' s' _ => k B' H' s')
      cases u
      · cases hx
      · cases hx
      · rw [List.mem_singleton.mp hx]; exact item_sur g1 a0 a1 hs (by omega) (by omega)
      · rw [List.mem_singleton.mp hx]; exact item_cla g3 w0 w1 hk w0 w1 hk
    walk_at "el"
    refine ⟨by show 3 ≤ sizeLine; decide, fun p hp => ?_⟩
    walk_at "el"
    refine ⟨by show 1 ≤ sizeLine; decide, fun p2 hp2 => ?_⟩
    walk_at "el"
    refine ⟨by show 4 ≤ sizeLine; decide, fun p3 hp3 => ?_⟩
    walk_at "el"
    refine ⟨by show 1 ≤ sizeLine; decide, fun p4 hp4 => ?_⟩
    refine ⟨rfl, rfl, fin _ _ "most" "early" (x - 1) hB (.inr rfl) (.inl rfl) (by omega) (by omega) (fun B1 H1 s1 v1 i1 l1 b1 => ?_) p hp p2 hp2 p3 hp3 p4 hp4⟩
    refine ⟨rfl, ?_⟩
    walk_at "el"
    refine ⟨by show 3 ≤ sizeLine; decide, fun p5 hp5 => ?_⟩
    walk_at "el"
    refine ⟨by show 1 ≤ sizeLine; decide, fun p6 hp6 => ?_⟩
    walk_at "el"
    refine ⟨by show 4 ≤ sizeLine; decide, fun p7 hp7 => ?_⟩
    walk_at "el"
    refine ⟨by show 1 ≤ sizeLine; decide, fun p8 hp8 => ?_⟩
    refine ⟨rfl, rfl, fin _ _ "least" "late" (x + 1) (hB.same s1) (.inl rfl) (.inr rfl) (by omega) (by omega) (fun B2 H2 s2 v2 i2 l2 b2 => ?_) p5 hp5 p6 hp6 p7 hp7 p8 hp8⟩
    refine ⟨rfl, ?_⟩
    walk_at "el"
    refine ⟨by show 2 ≤ sizeLine; decide, fun q hq => ?_⟩
    have s3 := nw_of hq (.lst [.ref B1.o, .ref B2.o])
    refine k q [B1, B2] _ ((s1.trans s2).trans s3) (none_b9 (s1.trans s2) hq) upd_same rfl fun j B' E' hj hE => ?_
    match j with
    | 0 => cases hj; cases hE; exact ⟨v1, i1, l1, b1.same (s2.trans s3)⟩
    | 1 => cases hj; cases hE; exact ⟨v2, i2, l2, b2.same s3⟩
    | j + 2 => cases hj
theorem ok_denying_clause (F : Fun K "_denying_clause" "_denying_clause" s__denying_clause f fd) (T : Tb mg) (c_contrary : Cal P w K mg base CX0 1 "contrary" ["kind"] (fun vs H Q _ => ∃ s, vs = [.str s] ∧ Q (.str (otherK s)) H)) (c_Lon : LonG P w K mg base C CL d1 d2 d3 d4) : FnOk P w K mg base CX0 5 f fd ["book", "w", "kind", "v", "other"] (spDC K C CL) := by
  refine F.ok sc__denying_clause (fun vs H Q E h => ?_) (fun cdv A outer s H vs Q E hr h => ?_)
  · obtain ⟨_, _, _, _, _, _, rfl, _⟩ := h
    rfl
  · obtain ⟨B, D, w, v, sk, so, rfl, hB, h22, w0, w1, a0, a1, k⟩ := h
    refine ⟨_, (pss_cons (ps_set (i := 5) sc__denying_clause.nd rfl (Or.inl rfl) (pe_tup (pa_cons (pv 1) (pa_cons (pe_cal c_contrary (hr.mono (by decide)) pass0 (pa_cons (pv 2) pa_nil)) (pa_cons (pv 1) (pa_cons (pe_cal c_contrary (hr.mono (by decide)) pass0 (pa_cons (pv 2) pa_nil)) pa_nil))))))
  (pss_cons (ps_set (i := 6) sc__denying_clause.nd rfl (Or.inl rfl) (pe_tup (pa_cons (pv 3) (pa_cons (pe_cal c_contrary (hr.mono (by decide)) pass0 (pa_cons (pv 4) pa_nil)) (pa_cons (pv 3) (pa_cons (pe_cal c_contrary (hr.mono (by decide)) pass0 (pa_cons (pv 4) pa_nil)) pa_nil))))))
  (pss_one (ps_ret (pe_lst (pa_cons (pe_lonC c_Lon (hr.mono (by decide)) rfl (pa_cons (pv 0) pa_nil) (pk_cons (pe_tup (pa_cons (pv 5) (pa_cons (pv 6) pa_nil))) pk_nil)) pa_nil)))))), ?_⟩
    walk_at "el"
    refine ⟨_, rfl, ?_⟩
    walk_at "el"
    refine ⟨_, rfl, ?_⟩
    walk_at "el"
    refine ⟨by show 4 ≤ sizeLine; decide, fun p hp => ?_⟩
    have e1 := nw_of hp (.tup [.int w, .str (otherK sk), .int w, .str (otherK sk)])
    have g1' := upd_at hp (.tup [.int w, .str (otherK sk), .int w, .str (otherK sk)])
    walk_at "el"
    refine ⟨_, rfl, ?_⟩
    walk_at "el"
    refine ⟨_, rfl, ?_⟩
    walk_at "el"
    refine ⟨by show 4 ≤ sizeLine; decide, fun p2 hp2 => ?_⟩
    have e2 := nw_of hp2 (.tup [.int v, .str (otherK so), .int v, .str (otherK so)])
    have g2' := upd_at hp2 (.tup [.int v, .str (otherK so), .int v, .str (otherK so)])
    walk_at "el"
    refine ⟨by show 2 ≤ sizeLine; decide, fun p3 hp3 => ?_⟩
    have e3 := nw_of hp3 (.tup [.ref p, .ref p2])
    have g3 := upd_at hp3 (.tup [.ref p, .ref p2])
    have g2 := e3 _ _ g2'
    have g1 := e3 _ _ (e2 _ _ g1')
    have s2 := (e1.trans e2).trans e3
    have k := k.mono s2
    have hB := hB.same s2
    generalize upd (upd (upd H p (.tup [.int w, .str (otherK sk), .int w, .str (otherK sk)])) p2 (.tup [.int v, .str (otherK so), .int v, .str (otherK so)])) p3 (.tup [.ref p, .ref p2]) = H2 at g1 g2 g3 k hB ⊢
    obtain ⟨z1, z2, z3, z4⟩ := c_Lon.d H2
    refine ⟨rfl, rfl, ?_⟩
    refine n_longR (E := ⟨[], [], [], [(w, otherK sk, w, otherK sk), (v, otherK so, v, otherK so)]⟩) (ex := exF d1 d2 d3 p3) (zs := zsF [] [] [] [.ref p, .ref p2]) hB (fun u => match u with | .tel => z1 | .gap => z2 | .sur => z3 | .cla => SqT.of g3) ⟨rows_nil9, rows_nil9, rows_nil9, rows_two9 (enc := encL) (x := (w, otherK sk, w, otherK sk)) (y := (v, otherK so, v, otherK so)) g1 g2⟩ (fun u x hx => ?_) h22 (fun u => by cases u <;> simp only [zsF, List.length_nil, List.length_cons] <;> omega) (fun B1 H1 s1 n1 v1 i1 l1 b1 => ?_)
    · cases u
      · cases hx
      · cases hx
      · cases hx
      · rcases List.mem_cons.mp hx with rfl | hx
        · exact item_cla g1 w0 w1 otherK_ok9 w0 w1 otherK_ok9
        · rw [List.mem_singleton.mp hx]; exact item_cla g2 a0 a1 otherK_ok9 a0 a1 otherK_ok9
    · refine ⟨rfl, ?_⟩
      walk_at "el"
      refine ⟨by show 1 ≤ sizeLine; decide, fun q hq => ?_⟩
      have s3 := nw_of hq (.lst [.ref B1.o])
      refine k q [B1] _ (s1.trans s3) (none_b9 s1 hq) upd_same rfl fun j B' E' hj hE => ?_
      match j with
      | 0 => cases hj; cases hE; exact ⟨v1, i1, l1, b1.same s3⟩
      | j + 1 => cases hj
end
end EL

/- part K81D -/
namespace EL
open PySem PySem.Spec PyProof.Rows L2
open PySem.W (Frag)
local macro_rules | `(tactic| walk_at "el1") => `(tactic| with_reducible first
  | refine a_sasg ?_ | refine a_sdrop ?_ | refine a_saugS ?_ | refine a_spar ?_ | refine a_seq ?_ | refine a_asg ?_ | refine a_drop ?_ | refine a_ret ?_ | refine a_if ?_ | refine a_next ?_
  | refine a_op ?_ | refine a_cons ?_ | refine a_nil ?_ | refine a_cb ?_ | refine a_call ?_ | refine a_c ?_ | refine a_gn ?_ | refine a_nx ?_ | refine a_rt ?_ | refine a_un ?_
  | refine a_test ?_ | refine a_B ?_ | refine a_bl ?_ | refine a_and ?_ | refine a_or ?_ | refine a_not ?_ | refine a_andV ?_ | refine a_orV ?_ | refine a_notV ?_ | refine a_ifx ?_ | refine a_chain ?_
  | refine a_nT ?_ | refine a_nF ?_ | refine a_fld ?_ | refine a_getF ?_ | refine a_T ?_ | refine a_F ?_ | refine a_tup ?_ | refine a_lst ?_ | refine a_sub ?_ | refine a_augS ?_ | refine a_two ?_ | refine a_I0 ?_ | refine a_U ?_ | refine n_add ?_ | refine n_int ?_ | refine n_ib ?_ | refine a_ip ?_ | refine a_rng1 ?_ | refine a_rng2 ?_ | refine a_bm ?_ | refine a_abs ?_ | refine a_pairs ?_ | refine a_pairs0 ?_ | refine a_bk ?_ | refine a_prp ?_ | refine a_lc ?_ | refine a_yes ?_ | refine a_sl ?_ | refine a_nop ?_ | refine a_prt ?_ | refine a_ex1 ?_ | refine a_for ?_ | refine a_sfor ?_ | refine a_iE1 ?_ | refine a_iEs ?_ | refine a_iEz ?_ | refine a_iEnum ?_ | refine a_iTup ?_ | refine a_iList ?_ | refine a_gcons ?_ | refine a_gnil ?_ | refine a_revT ?_ | refine a_spar3 ?_ | refine a_par3 ?_ | refine a_three ?_)
local macro_rules | `(tactic| walk_at "el2") => `(tactic| first
  | (refine a_var (by rfl) ?_)
  | (refine n_ixL (SqL.of (by assumption)) (by rfl) ?_) | (refine n_ixT (SqT.of (by assumption)) (by rfl) ?_) | (refine n_eq (by rfl) ?_) | (refine n_ne (by rfl) ?_)
  | (refine n_isN ?_) | (refine n_notN ?_) | (refine n_isB ?_) | (refine n_notB ?_) | (refine n_isBI ?_) | (refine n_notBI ?_) | (refine n_len (.inl (SqL.of (by assumption))) ?_) | (refine n_len (.inr (SqT.of (by assumption))) ?_)
  | (refine a_getL (SqL.of (by assumption)) (by rfl) ?_)
  | (refine n_isInt (by assumption) ?_) | (refine n_isBool (by assumption) ?_) | (refine n_isStr (by assumption) ?_) | (refine n_isTup (by assumption) ?_) | (refine n_isLst (by assumption) ?_))
local macro_rules | `(tactic| walk_at "el") => `(tactic| repeat (first | walk_at "el1" | walk_at "el2"))

def spDn (K : Frag) (C CL : Addr) : Sp := fun vs H Q _ => ∃ (A : BA) (D : PD) (u : Pt) (q : Addr) (zs : List V), vs = [.ref A.o, .str u.name, .ref q] ∧ BookV K C H A D ∧ (∀ u, (A.xs u).length ≤ 22) ∧ H q = some (.tup zs) ∧ ItemOk u H (.ref q) A.ev A.wi ∧ Below H (.ref q) ∧ NewLs K CL A D (denyD u zs) H Q
section
variable {P : Program} {w : World} {K : Frag} {mg : Str → Option Value} {base : Heap} {f : Addr} {fd : FuncData} {C CL d1 d2 d3 d4 : Addr}
theorem ok_denying (F : Fun K "_denying" "_denying" s__denying f fd) (T : Tb mg) (c__denying_telling : Cal P w K mg base CX0 5 "_denying_telling" ["book", "w", "e", "x"] (spDT K C CL)) (c_denying_gap : Cal P w K mg base CX0 5 "denying_gap" ["book", "a", "b", "g"] (spDG K C CL))
    (c_denying_bound : Cal P w K mg base CX0 5 "denying_bound" ["book", "e", "side", "x"] (spDB K C CL)) (c__denying_clause : Cal P w K mg base CX0 5 "_denying_clause" ["book", "w", "kind", "v", "other"] (spDC K C CL)) : FnOk P w K mg base CX0 6 f fd ["book", "sort", "item"] (spDn K C CL) := by
  refine F.ok sc__denying (fun vs H Q E h => ?_) (fun cdv A outer s H vs Q E hr h => ?_)
  · obtain ⟨_, _, _, _, _, rfl, _⟩ := h
    rfl
  · obtain ⟨B, D, u, q, zs, rfl, hB, h22, hq, hi, hb, k⟩ := h
    refine ⟨_, (pss_cons (ps_if (pt_cmpR (u_eq hr.units) (pv 1) pe_str (nomark _))
    (pss_one (ps_ret (pe_calS c__denying_telling (hr.mono (by decide)) pass0 (pa_cons (pv 0) (StX.pa_star (pv 2) pa_nil)))))
    pss_nil)
  (pss_cons (ps_if (pt_cmpR (u_eq hr.units) (pv 1) pe_str (nomark _))
    (pss_one (ps_ret (pe_lst (pa_cons (pe_calS c_denying_gap (hr.mono (by decide)) pass0 (pa_cons (pv 0) (StX.pa_star (pv 2) pa_nil))) pa_nil))))
    pss_nil)
  (pss_cons (ps_if (pt_cmpR (u_eq hr.units) (pv 1) pe_str (nomark _))
    (pss_one (ps_ret (pe_lst (pa_cons (pe_calS c_denying_bound (hr.mono (by decide)) pass0 (pa_cons (pv 0) (StX.pa_star (pv 2) pa_nil))) pa_nil))))
    pss_nil)
  (pss_one (ps_ret (pe_calS c__denying_clause (hr.mono (by decide)) pass0 (pa_cons (pv 0) (StX.pa_star (pv 2) pa_nil)))))))), ?_⟩
    have dk9 : ∀ a b : Str, decide (V.str a = V.str b) = decide (a = b) := fun a b => by
      rw [Bool.eq_iff_iff, decide_eq_true_iff, decide_eq_true_iff]; exact ⟨fun h => V.str.inj h, fun h => congrArg V.str h⟩
    cases u
    · obtain ⟨q', ⟨w, e, x⟩, e1, hq2, ⟨w0, w1⟩, ⟨a0, a1⟩, _⟩ := item_tel_inv hi
      cases e1
      rw [hq] at hq2; cases hq2
      obtain ⟨g0, g1⟩ := hb _ _ x rfl hq (by simp)
      walk_at "el"
      rw [dk9, if_pos (by decide)]
      walk_at "el"
      refine ⟨q, _, rfl, .inl (SqT.of hq), ?_⟩
      exact ⟨B, D, w, e, x, rfl, hB, h22, w0, w1, a0, a1, g0, g1, k⟩
    · obtain ⟨q', a, b, g, e1, hq2, a0, a1, b0, b1, ne⟩ := item_gap_inv hi
      cases e1
      rw [hq] at hq2; cases hq2
      obtain ⟨g0, g1⟩ := hb _ _ g rfl hq (by simp)
      walk_at "el"
      rw [dk9, if_neg (by decide)]
      walk_at "el"
      rw [dk9, if_pos (by decide)]
      walk_at "el"
      refine ⟨q, _, rfl, .inl (SqT.of hq), ?_⟩
      refine ⟨B, D, a, b, g, rfl, hB, h22, a0, a1, b0, b1, ne, g0, g1, fun B1 H1 s1 n1 v1 i1 l1 b1 => ?_⟩
      walk_at "el"
      refine ⟨by show 1 ≤ sizeLine; decide, fun r hr => ?_⟩
      have s3 := nw_of hr (.lst [.ref B1.o])
      refine k r [B1] _ (s1.trans s3) (none_b9 s1 hr) upd_same rfl fun j B' E' hj hE => ?_
      match j with
      | 0 => cases hj; cases hE; exact ⟨v1, i1, l1, b1.same s3⟩
      | j + 1 => cases hj
    · obtain ⟨q', ⟨e, sd, x⟩, e1, hq2, ⟨a0, a1⟩, hs, _⟩ := item_sur_inv hi
      cases e1
      rw [hq] at hq2; cases hq2
      obtain ⟨g0, g1⟩ := hb _ _ x rfl hq (by simp)
      walk_at "el"
      rw [dk9, if_neg (by decide)]
      walk_at "el"
      rw [dk9, if_neg (by decide)]
      walk_at "el"
      rw [dk9, if_pos (by decide)]
      walk_at "el"
      refine ⟨q, _, rfl, .inl (SqT.of hq), ?_⟩
      refine ⟨B, D, e, x, sd, rfl, hB, h22, a0, a1, g0, g1, fun B1 H1 s1 n1 v1 i1 l1 b1 => ?_⟩
      walk_at "el"
      refine ⟨by show 1 ≤ sizeLine; decide, fun r hr => ?_⟩
      have s3 := nw_of hr (.lst [.ref B1.o])
      refine k r [B1] _ (s1.trans s3) (none_b9 s1 hr) upd_same rfl fun j B' E' hj hE => ?_
      match j with
      | 0 => cases hj; cases hE; exact ⟨v1, i1, l1, b1.same s3⟩
      | j + 1 => cases hj
    · obtain ⟨q', ⟨w, sk, v, so⟩, e1, hq2, ⟨w0, w1⟩, _, ⟨a0, a1⟩, _⟩ := item_cla_inv hi
      cases e1
      rw [hq] at hq2; cases hq2
      walk_at "el"
      rw [dk9, if_neg (by decide)]
      walk_at "el"
      rw [dk9, if_neg (by decide)]
      walk_at "el"
      rw [dk9, if_neg (by decide)]
      walk_at "el"
      refine ⟨q, _, rfl, .inl (SqT.of hq), ?_⟩
      exact ⟨B, D, w, v, sk, so, rfl, hB, h22, w0, w1, a0, a1, k⟩
end
end EL

/- part K81E -/
namespace EL
open PySem PySem.Spec PyProof.Rows L2
open PySem.W (Frag)
local macro_rules | `(tactic| walk_at "el1") => `(tactic| with_reducible first
  | refine a_sasg ?_ | refine a_sdrop ?_ | refine a_saugS ?_ | refine a_spar ?_ | refine a_seq ?_ | refine a_asg ?_ | refine a_drop ?_ | refine a_ret ?_ | refine a_if ?_ | refine a_next ?_
  | refine a_op ?_ | refine a_cons ?_ | refine a_nil ?_ | refine a_cb ?_ | refine a_call ?_ | refine a_c ?_ | refine a_gn ?_ | refine a_nx ?_ | refine a_rt ?_ | refine a_un ?_
  | refine a_test ?_ | refine a_B ?_ | refine a_bl ?_ | refine a_and ?_ | refine a_or ?_ | refine a_not ?_ | refine a_andV ?_ | refine a_orV ?_ | refine a_notV ?_ | refine a_ifx ?_ | refine a_chain ?_
  | refine a_nT ?_ | refine a_nF ?_ | refine a_fld ?_ | refine a_getF ?_ | refine a_T ?_ | refine a_F ?_ | refine a_tup ?_ | refine a_lst ?_ | refine a_sub ?_ | refine a_augS ?_ | refine a_two ?_ | refine a_I0 ?_ | refine a_U ?_ | refine n_add ?_ | refine n_int ?_ | refine n_ib ?_ | refine a_ip ?_ | refine a_rng1 ?_ | refine a_rng2 ?_ | refine a_bm ?_ | refine a_abs ?_ | refine a_pairs ?_ | refine a_pairs0 ?_ | refine a_bk ?_ | refine a_prp ?_ | refine a_lc ?_ | refine a_yes ?_ | refine a_sl ?_ | refine a_nop ?_ | refine a_prt ?_ | refine a_ex1 ?_ | refine a_for ?_ | refine a_sfor ?_ | refine a_iE1 ?_ | refine a_iEs ?_ | refine a_iEz ?_ | refine a_iEnum ?_ | refine a_iTup ?_ | refine a_iList ?_ | refine a_gcons ?_ | refine a_gnil ?_ | refine a_revT ?_ | refine a_spar3 ?_ | refine a_par3 ?_ | refine a_three ?_)
local macro_rules | `(tactic| walk_at "el2") => `(tactic| first
  | (refine a_var (by rfl) ?_)
  | (refine n_ixL (SqL.of (by assumption)) (by rfl) ?_) | (refine n_ixT (SqT.of (by assumption)) (by rfl) ?_) | (refine n_eq (by rfl) ?_) | (refine n_ne (by rfl) ?_)
  | (refine n_isN ?_) | (refine n_notN ?_) | (refine n_isB ?_) | (refine n_notB ?_) | (refine n_isBI ?_) | (refine n_notBI ?_) | (refine n_len (.inl (SqL.of (by assumption))) ?_) | (refine n_len (.inr (SqT.of (by assumption))) ?_)
  | (refine a_getL (SqL.of (by assumption)) (by rfl) ?_)
  | (refine n_isInt (by assumption) ?_) | (refine n_isBool (by assumption) ?_) | (refine n_isStr (by assumption) ?_) | (refine n_isTup (by assumption) ?_) | (refine n_isLst (by assumption) ?_))
local macro_rules | `(tactic| walk_at "el") => `(tactic| repeat (first | walk_at "el1" | walk_at "el2"))

def spCt (K : Frag) (C : Addr) : Sp := fun vs H Q _ => ∃ (A : BA) (D : PD) (u : Pt) (q : Addr) (zs : List V), vs = [.ref A.o, .str u.name, .ref q] ∧ BookV K C H A D ∧ (∀ u, (A.xs u).length ≤ 22) ∧ H q = some (.tup zs) ∧ ItemOk u H (.ref q) A.ev A.wi ∧ Below H (.ref q) ∧ NewLs K C A D (denyD u zs) H Q
theorem deny_len {u : Pt} {zs : List V} : (denyD u zs).length ≤ 2 := by
  unfold denyD
  split <;> (simp only [List.length_cons, List.length_nil] <;> omega)
/-! ### what stays when some lists change -/
def KL (as : List Addr) (H H' : Hp) : Prop := ∀ a o, H a = some o → (a ∈ as → ∀ ys, o ≠ .lst ys) → H' a = some o
section
variable {as : List Addr} {H H1 : Hp}
theorem KL.refl : KL as H H := fun _ _ h _ => h
theorem KL.put (k : KL as H H1) {a : Addr} {zs : List V} (ha : a ∈ as) (h : ∀ o, H a = some o → ∃ ys, o = .lst ys) : KL as H (upd H1 a (.lst zs)) := fun c o hc n => by
  have ne : c ≠ a := fun z => by
    subst z
    obtain ⟨ys, e⟩ := h o hc
    exact n ha ys e
  rw [upd_ne ne]
  exact k c o hc n
theorem KL.out (k : KL as H H1) {a : Addr} {o : HO} (h : H a = some o) (n : a ∉ as) : H1 a = some o := k a o h fun z => absurd z n
theorem KL.tup (k : KL as H H1) {a : Addr} {xs : List V} (h : H a = some (.tup xs)) : H1 a = some (.tup xs) := k a _ h fun _ ys e => nomatch e
theorem SqT.kl {K : Frag} (k : KL as H H1) {a : Addr} {xs : List V} (h : SqT K H a xs) : SqT K H1 a xs := by
  rcases h with (h | ⟨o, h⟩) | h
  · exact .inl (.inl (k.tup h))
  · exact .inl (.inr ⟨_, k _ _ h fun _ ys e => nomatch e⟩)
  · exact .inr h
theorem RowsAre.kl (k : KL as H H1) {α : Type} {enc : α → List V} {xs : List V} {D : List α} (h : RowsAre enc H xs D) : RowsAre enc H1 xs D := ⟨h.len, fun i v hv => by
  obtain ⟨q, y, e, hy, hq⟩ := h.at_ i v hv
  exact ⟨q, y, e, hy, k.tup hq⟩⟩
theorem PR.kl (k : KL as H H1) {xs : Pt → List V} {D : PD} (h : PR H xs D) : PR H1 xs D := ⟨h.t.kl k, h.g.kl k, h.s.kl k, h.l.kl k⟩
theorem BB.kl (k : KL as H H1) {K : Frag} {C : Addr} {A : BA} {D : PD} (h : BB K C H A D) : BB K C H1 A D :=
  ⟨k _ _ h.bk (fun _ ys e => nomatch e), SqT.kl k h.tT, SqT.kl k h.tG, SqT.kl k h.tS, SqT.kl k h.tL, h.r.kl k⟩
theorem ItemOk.kl (k : KL as H H1) {t : Pt} {x : V} {ev wi : Int} (h : ItemOk t H x ev wi) : ItemOk t H1 x ev wi := by
  obtain ⟨a, xs, rfl, ha, r⟩ := h
  exact ⟨a, xs, rfl, k.tup ha, r⟩
theorem Below.kl (k : KL as H H1) {t : Pt} {x : V} {ev wi : Int} (h : Below H x) (i : ItemOk t H x ev wi) : Below H1 x := by
  obtain ⟨a, xs, rfl, ha, r⟩ := i
  exact h.of ⟨a, xs, rfl, ha, k.tup ha⟩
end
theorem BookV.kl {as : List Addr} {H H1 : Hp} (k : KL as H H1) {K : Frag} {C : Addr} {A : BA} {D : PD} (h : BookV K C H A D) : BookV K C H1 A D := ⟨h.bb.kl k, h.e0, h.e8, h.w0, h.w8, h.len, fun u x hx => (h.items u x hx).kl k⟩
section
variable {P : Program} {w : World} {K : Frag} {mg : Str → Option Value} {base : Heap} {f : Addr} {fd : FuncData} {C CL d1 d2 d3 d4 : Addr}
theorem ok_contraries (F : Fun K "contraries" "contraries" s_contraries f fd) (T : Tb mg) (c__denying : Cal P w K mg base CX0 6 "_denying" ["book", "sort", "item"] (spDn K C CL)) (c_as_book : Cal P w K mg base CX0 9 "as_book" ["longer"] (spAsB K C CL)) : FnOk P w K mg base CX0 10 f fd ["book", "sort", "item"] (spCt K C) := by
  refine F.ok sc_contraries (fun vs H Q E h => ?_) (fun cdv A outer s H vs Q E hr h => ?_)
  · obtain ⟨_, _, _, _, _, rfl, _⟩ := h
    rfl
  · obtain ⟨B, D, u, q, zs, rfl, hB, h22, hq, hi, hb, k⟩ := h
    refine ⟨_, (pss_one (ps_ret (pe_lc (own := [("denying", 3)]) rfl sc_contraries.nd (u_iter (pe_cal c__denying (hr.mono (by decide)) pass0 (pa_cons (pv 0) (pa_cons (pv 1) (pa_cons (pv 2) pa_nil))))) (blkOk_by (own := [("denying", 3)]) (N := N_contraries) (sc := defScope s_contraries) (by decide +kernel)) (fun _ _ _ _ _ => (pg_name (i := 3) sc_contraries.nd rfl (Or.inl rfl))) (fun _ _ _ _ _ => pts_nil) (fun _ _ _ _ _ => (pe_cal c_as_book (hr.mono (by decide)) pass0 (pa_cons (pv 3) pa_nil)))))), ?_⟩
    walk_at "el"
    refine .inl ?_
    walk_at "el"
    refine ⟨B, D, u, q, zs, rfl, hB, h22, hq, hi, hb, fun r Bs H1 s1 nr hr1 lB hBs => ?_⟩
    refine ⟨r, rfl, ⟨_, SqL.of hr1⟩, fun D0 hD0 => ?_⟩
    have e1 := nw_of hD0 (.lst [])
    have lE : Bs.length ≤ 2 := by rw [lB]; exact deny_len
    refine lc_of (walk_list (xs := Bs.map fun B => V.ref B.o)) (fun i H3 => Same H1 H3 ∧ ∃ Cs : List BA, H3 D0 = some (.lst (Cs.map fun B => V.ref B.o)) ∧ Cs.length = i ∧ ∀ (j : Nat) (B' : BA) (E : PD), Cs[j]? = some B' → (denyD u zs)[j]? = some E → B'.ev = B.ev ∧ B'.wi = B.wi ∧ (∀ u, (B'.xs u).length ≤ (B.xs u).length + 2) ∧ BookV K C H3 B' (catD D E)) ⟨e1, [], upd_same, rfl, fun j B' E h => by cases h⟩ (fun i H3 hi h => SqL.of (h.1 _ _ hr1)) ?_ ?_
    · rintro i x H3 H4 hi ⟨s3, Cs, hD3, lC, hC⟩ ⟨rfl, hx⟩
      rw [List.getElem?_map] at hx
      cases eb : Bs[i]? with
      | none => rw [eb] at hx; cases hx
      | some B1 =>
        rw [eb] at hx; cases hx
        have hil : i < (denyD u zs).length := by rw [← lB]; exact (List.getElem?_eq_some_iff.mp eb).1
        obtain ⟨v1, i1, l1, b1⟩ := hBs i B1 _ eb (List.getElem?_eq_getElem hil)
        walk_at "el"
        refine ⟨rfl, ?_⟩
        walk_at "el"
        refine ⟨B1, _, rfl, b1.same s3, fun o2 dx t g s' c H5 s5 n5 h2 h3 h4 h5 h6 => ?_⟩
        have V1 := b1.same (s3.trans s5)
        have hD5 := s5 _ _ hD3
        have kl : KL [D0] H5 (upd H5 D0 (.lst (Cs.map (fun B => V.ref B.o) ++ [.ref o2]))) := KL.refl.put (List.mem_singleton.mpr rfl) fun o ho => ⟨_, Option.some.inj (ho.symm.trans hD5)⟩
        refine ⟨_, hD5, by rw [List.length_map]; exact Nat.lt_of_le_of_lt (Nat.le_of_lt (lC ▸ hi)) (by rw [List.length_map]; exact Nat.lt_of_le_of_lt lE (by decide)), (s3.trans s5).mu hD0, Cs ++ [⟨o2, dx, t, g, s', c, B1.ev, B1.wi, B1.xs⟩], by rw [upd_same, List.map_append]; rfl, by rw [List.length_append, lC]; rfl, fun j B' E hj hE => ?_⟩
        by_cases c : j < Cs.length
        · rw [List.getElem?_append_left c] at hj
          obtain ⟨q1, q2, q3, q4⟩ := hC j B' E hj hE
          exact ⟨q1, q2, q3, (q4.same s5).kl kl⟩
        · rw [List.getElem?_append_right (by omega)] at hj
          have ej : j = i := by
            have := (List.getElem?_eq_some_iff.mp hj).1
            rw [List.length_singleton] at this
            omega
          subst ej
          rw [lC, Nat.sub_self] at hj
          cases hj
          rw [List.getElem?_eq_getElem hil] at hE
          cases hE
          exact ⟨v1, i1, l1, BookV.kl kl ⟨⟨h2, h3, h4, h5, h6, V1.bb.r⟩, V1.e0, V1.e8, V1.w0, V1.w8, V1.len, V1.items⟩⟩
    · rintro H3 ⟨s3, Cs, hD3, lC, hC⟩
      rw [List.length_map] at lC
      walk_at "el"
      exact k _ Cs H3 (s1.trans s3) (none_b9 s1 hD0) hD3 (lC.trans lB) hC
end
end EL

/- part K81F -/
namespace EL
open PySem PySem.Spec PyProof.Rows L2
open PySem.W (Frag)
abbrev s_l_contrary : Stmt := top 46
abbrev N_l_contrary : List Str := ["_law_kind_here"]
theorem sc_l_contrary : FnScope N_l_contrary ["_law_kind_here"] (defScope s_l_contrary) := ⟨rfl, rfl, rfl, by decide +kernel, rfl, by decide +kernel, by decide +kernel⟩
abbrev s_contrary_parts : Stmt := top 47
abbrev N_contrary_parts : List Str := ["_law_parts_here", "_law_part", "_law_item", "_law_w", "_law_e", "_law_x", "_law_found", "_law_side", "_law_kind_here", "_law_v", "_law_last", "_law_one_here", "_law_two", "_law_gaps", "_law_sure", "_law_some"]
theorem sc_contrary_parts : FnScope N_contrary_parts ["_law_parts_here", "_law_part", "_law_item"] (defScope s_contrary_parts) := ⟨rfl, rfl, rfl, by decide +kernel, rfl, by decide +kernel, by decide +kernel⟩
abbrev s_shown : Stmt := top 48
abbrev N_shown : List Str := ["_law_book_here"]
theorem sc_shown : FnScope N_shown ["_law_book_here"] (defScope s_shown) := ⟨rfl, rfl, rfl, by decide +kernel, rfl, by decide +kernel, by decide +kernel⟩
abbrev s_due : Stmt := top 49
abbrev N_due : List Str := ["_law_events", "_law_witnesses", "_law_parts_here", "_law_items"]
theorem sc_due : FnScope N_due ["_law_events", "_law_witnesses", "_law_parts_here"] (defScope s_due) := ⟨rfl, rfl, rfl, by decide +kernel, rfl, by decide +kernel, by decide +kernel⟩
local macro_rules | `(tactic| walk_at "el1") => `(tactic| with_reducible first
  | refine a_sasg ?_ | refine a_sdrop ?_ | refine a_saugS ?_ | refine a_spar ?_ | refine a_seq ?_ | refine a_asg ?_ | refine a_drop ?_ | refine a_ret ?_ | refine a_if ?_ | refine a_next ?_
  | refine a_op ?_ | refine a_cons ?_ | refine a_nil ?_ | refine a_cb ?_ | refine a_call ?_ | refine a_c ?_ | refine a_gn ?_ | refine a_nx ?_ | refine a_rt ?_ | refine a_un ?_
  | refine a_test ?_ | refine a_B ?_ | refine a_bl ?_ | refine a_and ?_ | refine a_or ?_ | refine a_not ?_ | refine a_andV ?_ | refine a_orV ?_ | refine a_notV ?_ | refine a_ifx ?_ | refine a_chain ?_
  | refine a_nT ?_ | refine a_nF ?_ | refine a_fld ?_ | refine a_getF ?_ | refine a_T ?_ | refine a_F ?_ | refine a_tup ?_ | refine a_lst ?_ | refine a_sub ?_ | refine a_augS ?_ | refine a_two ?_ | refine a_I0 ?_ | refine a_U ?_ | refine n_add ?_ | refine n_int ?_ | refine n_ib ?_ | refine a_ip ?_ | refine a_rng1 ?_ | refine a_rng2 ?_ | refine a_bm ?_ | refine a_abs ?_ | refine a_pairs ?_ | refine a_pairs0 ?_ | refine a_bk ?_ | refine a_prp ?_ | refine a_lc ?_ | refine a_yes ?_ | refine a_sl ?_ | refine a_nop ?_ | refine a_prt ?_ | refine a_ex1 ?_ | refine a_for ?_ | refine a_sfor ?_ | refine a_iE1 ?_ | refine a_iEs ?_ | refine a_iEz ?_ | refine a_iEnum ?_ | refine a_iTup ?_ | refine a_iList ?_ | refine a_gcons ?_ | refine a_gnil ?_ | refine a_revT ?_ | refine a_spar3 ?_ | refine a_par3 ?_ | refine a_three ?_)
local macro_rules | `(tactic| walk_at "el2") => `(tactic| first
  | (refine a_var (by rfl) ?_)
  | (refine n_ixL (SqL.of (by assumption)) (by rfl) ?_) | (refine n_ixT (SqT.of (by assumption)) (by rfl) ?_) | (refine n_eq (by rfl) ?_) | (refine n_ne (by rfl) ?_)
  | (refine n_isN ?_) | (refine n_notN ?_) | (refine n_isB ?_) | (refine n_notB ?_) | (refine n_isBI ?_) | (refine n_notBI ?_) | (refine n_len (.inl (SqL.of (by assumption))) ?_) | (refine n_len (.inr (SqT.of (by assumption))) ?_)
  | (refine a_getL (SqL.of (by assumption)) (by rfl) ?_)
  | (refine n_isInt (by assumption) ?_) | (refine n_isBool (by assumption) ?_) | (refine n_isStr (by assumption) ?_) | (refine n_isTup (by assumption) ?_) | (refine n_isLst (by assumption) ?_))
local macro_rules | `(tactic| walk_at "el") => `(tactic| repeat (first | walk_at "el1" | walk_at "el2"))

abbrev Ln (D : PD) : Prop := D.T.length ≤ 100 ∧ D.G.length ≤ 100 ∧ D.S.length ≤ 100 ∧ D.L.length ≤ 100
def spShw (K : Frag) (C : Addr) : Sp := fun vs H Q _ => ∃ (A : BA) (D : PD), vs = [.ref A.o] ∧ BB K C H A D ∧ D.Ok A.ev A.wi ∧ 0 ≤ A.ev ∧ A.ev ≤ 8 ∧ 0 ≤ A.wi ∧ A.wi ≤ 8 ∧ Ln D ∧ ∀ H', Same H H' → Q (.str (bookD D A.ev A.wi).shown) H'
def spDue8 (K : Frag) : Sp := fun vs H Q _ => ∃ (D : PD) (ev wi : Int) (b p : Addr) (l : Pt → Addr) (xs : Pt → List V), vs = [.int ev, .int wi, .ref p] ∧ LP H b p l xs D ∧ D.Ok ev wi ∧ 0 ≤ ev ∧ ev ≤ 8 ∧ 0 ≤ wi ∧ wi ≤ 8 ∧ Ln D ∧ ∀ H', Same H H' → Q (.str (bookD D ev wi).shown) H'
section
variable {P : Program} {w : World} {K : Frag} {mg : Str → Option Value} {base : Heap} {f : Addr} {fd : FuncData} {C : Addr}
theorem ok_l_contrary8 (F : Fun K "_law_contrary" "_law_contrary" s_l_contrary f fd) (T : Tb mg) : FnOk P w K mg base CX0 1 f fd ["_law_kind_here"] (fun vs H Q _ => ∃ s, vs = [.str s] ∧ Q (.str (otherK s)) H) := by
  refine F.ok sc_l_contrary (fun vs H Q E h => ?_) (fun cdv A outer s H vs Q E hr h => ?_)
  · obtain ⟨_, rfl, _⟩ := h
    rfl
  · obtain ⟨s', rfl, k⟩ := h
    refine ⟨_, (pss_one (ps_ret (pe_ifExp (pt_cmpR (u_eq hr.units) (pv 0) pe_str (nomark _)) pe_str pe_str))), ?_⟩
    have dk9 : ∀ a b : Str, decide (V.str a = V.str b) = decide (a = b) := fun a b => by
      rw [Bool.eq_iff_iff, decide_eq_true_iff, decide_eq_true_iff]; exact ⟨fun h => V.str.inj h, fun h => congrArg V.str h⟩
    walk_at "el"
    rw [dk9]
    unfold otherK at k
    by_cases c : s' = "early"
    · rw [if_pos c] at k
      rw [decide_eq_true c]
      walk_at "el"
      exact k
    · rw [if_neg c] at k
      rw [decide_eq_false c]
      walk_at "el"
      exact k
theorem ok_shown8 (F : Fun K "_law_shown" "_law_shown" s_shown f fd) (T : Tb mg) (p_events : PrpG P w K mg base C "events" "_events") (p_witnesses : PrpG P w K mg base C "witnesses" "_witnesses") (p_tellings : PrpG P w K mg base C "tellings" "_tellings") (p_gaps : PrpG P w K mg base C "gaps" "_gaps") (p_sure : PrpG P w K mg base C "sure" "_sure") (p_clauses : PrpG P w K mg base C "clauses" "_clauses") :
    FnG P w K mg base CX0 3 f fd ["_law_book_here"] (spShw K C) := by
  refine fnG_of F sc_shown (fun vs H Q E h => ?_) (fun cdv A outer s H vs Q E hr hq h => ?_)
  · obtain ⟨_, _, rfl, _⟩ := h
    rfl
  · obtain ⟨B, D, rfl, hB, ok, e0, e8, w0, w8, ln, k⟩ := h
    refine ⟨_, PSs.nox (pss_one (ps_ret (pe_callB (u_show hq hr.units) rfl T.b.repr_ (by decide +kernel) (pa_cons (pe_lst (pa_cons (pe_prp p_events (hr.mono (by decide)) (pv 0)) (pa_cons (pe_prp p_witnesses (hr.mono (by decide)) (pv 0)) (pa_cons (pe_prp p_tellings (hr.mono (by decide)) (pv 0)) (pa_cons (pe_prp p_gaps (hr.mono (by decide)) (pv 0)) (pa_cons (pe_prp p_sure (hr.mono (by decide)) (pv 0)) (pa_cons (pe_prp p_clauses (hr.mono (by decide)) (pv 0)) pa_nil))))))) pa_nil)))), ?_⟩
    have hbk := hB.bk
    have hf := bookD_fine ok e0 e8 w0 w8 ln
    walk_at "el"
    refine n_prp hbk rfl ?_
    walk_at "el"
    refine n_prp hbk rfl ?_
    walk_at "el"
    refine n_prp hbk rfl ?_
    walk_at "el"
    refine n_prp hbk rfl ?_
    walk_at "el"
    refine n_prp hbk rfl ?_
    walk_at "el"
    refine n_prp hbk rfl ?_
    walk_at "el"
    refine ⟨by show 6 ≤ sizeLine; decide, fun m1 hm1 => ?_⟩
    have e1 := nw_of hm1 (.lst [.int B.ev, .int B.wi, .ref B.t, .ref B.g, .ref B.s, .ref B.q])
    have hB1 := hB.same e1
    walk_at "el"
    refine .inl ⟨_, bookD D B.ev B.wi, rfl, .lst (SqL.of upd_same) (.cons (.int _) (.cons (.int _) (.cons (.tup hB1.tT (rows_dp (fun q x h => dp_T h) hB1.r.t)) (.cons (.tup hB1.tG (rows_dp (fun q x h => dp_T h) hB1.r.g)) (.cons (.tup hB1.tS (rows_dp (fun q x h => dp_S h) hB1.r.s)) (.cons (.tup hB1.tL (rows_dp (fun q x h => dp_L h) hB1.r.l)) .nil)))))), gd_showable _ hf.good, by have := hf.depth; omega, hf.len, ?_⟩
    walk_at "el"
    exact k _ e1
theorem ok_due8 (F : Fun K "_law_due" "_law_due" s_due f fd) (T : Tb mg) : FnG P w K mg base CX0 1 f fd ["_law_events", "_law_witnesses", "_law_parts_here"] (spDue8 K) := by
  refine fnG_of F sc_due (fun vs H Q E h => ?_) (fun cdv A outer s H vs Q E hr hq h => ?_)
  · obtain ⟨_, _, _, _, _, _, _, rfl, _⟩ := h
    rfl
  · obtain ⟨D, ev, wi, b, p, l, xs, rfl, hL, ok, e0, e8, w0, w8, ln, k⟩ := h
    refine ⟨_, PSs.nox (pss_one (ps_ret (pe_callB (u_show hq hr.units) rfl T.b.repr_ (by decide +kernel) (pa_cons (pe_op u_add (pe_lst (pa_cons (pv 0) (pa_cons (pv 1) pa_nil))) (pe_lc (own := [("_law_items", 3)]) rfl sc_due.nd (u_iter (pv 2)) (blkOk_by (own := [("_law_items", 3)]) (N := N_due) (sc := defScope s_due) (by decide +kernel)) (fun _ _ _ _ _ => (pg_name (i := 3) sc_due.nd rfl (Or.inl rfl))) (fun _ _ _ _ _ => pts_nil) (fun _ _ _ _ _ => (pe_callTy (show CallR _ (.type "tuple") (rTuple K) from u_tuple) rfl T.b.tuple_ (by decide +kernel) (pa_cons (pv 3) pa_nil))))) pa_nil)))), ?_⟩
    have hf := bookD_fine ok e0 e8 w0 w8 ln
    walk_at "el"
    refine ⟨by show 2 ≤ sizeLine; decide, fun m2 hm2 => ?_⟩
    have e2 := nw_of hm2 (.lst [.int ev, .int wi])
    have g2 := upd_at hm2 (.lst [.int ev, .int wi])
    have hL2 := hL.same e2
    walk_at "el"
    refine a_iSeq (.inl ?_)
    walk_at "el"
    refine ⟨p, rfl, ⟨_, SqL.of hL2.hp⟩, fun D0 hD0 => ?_⟩
    have e3 := nw_of hD0 (.lst [])
    have sw : ∀ {H3 : Hp}, Same (upd H m2 (.lst [.int ev, .int wi])) H3 → Same (upd H m2 (.lst [.int ev, .int wi])) (wo D0 H3) := fun {H3} s a o h => wo_ne (ne_of_none h hD0) (s a o h)
    have pd : ∀ {H3 : Hp}, Same (upd H m2 (.lst [.int ev, .int wi])) H3 → ∀ (i : Nat) (v : V), [V.ref (l .tel), .ref (l .gap), .ref (l .sur), .ref (l .cla)][i]? = some v → ∃ a ys ds, v = .ref a ∧ H3 a = some (.lst ys) ∧ [D.T.map dT, D.G.map dT, D.S.map dS, D.L.map dL][i]? = some ds ∧ DpAll K (wo D0 H3) ys ds := fun {H3} s i v hv => by
      have L3 := hL2.same s
      have R3 := hL2.r.same (sw s)
      rcases i with _ | _ | _ | _ | i <;> cases hv
      · exact ⟨_, _, _, rfl, L3.hl .tel, rfl, rows_dp (fun q x h => dp_T h) R3.t⟩
      · exact ⟨_, _, _, rfl, L3.hl .gap, rfl, rows_dp (fun q x h => dp_T h) R3.g⟩
      · exact ⟨_, _, _, rfl, L3.hl .sur, rfl, rows_dp (fun q x h => dp_S h) R3.s⟩
      · exact ⟨_, _, _, rfl, L3.hl .cla, rfl, rows_dp (fun q x h => dp_L h) R3.l⟩
    refine lc_of (walk_list (xs := [V.ref (l .tel), .ref (l .gap), .ref (l .sur), .ref (l .cla)])) (fun i H3 => Same (upd H m2 (.lst [.int ev, .int wi])) H3 ∧ ∃ ws, H3 D0 = some (.lst ws) ∧ ws.length = i ∧ DpAll K (wo D0 H3) ws (([D.T.map dT, D.G.map dT, D.S.map dS, D.L.map dL].take i).map PyData.tuple)) ⟨e3, [], upd_same, rfl, .nil⟩ (fun i H3 hi h => SqL.of (h.1 _ _ hL2.hp)) ?_ ?_
    · rintro i x H3 H4 hi ⟨s3, ws, hD3, hwl, hwd⟩ ⟨rfl, hxi⟩
      obtain ⟨a, ys, ds, rfl, ha, hds, dp⟩ := pd s3 i x hxi
      walk_at "el"
      refine ⟨rfl, ?_⟩
      walk_at "el"
      refine ⟨a, ys, rfl, .inl ⟨SqL.of ha, fun r hr0 => ?_⟩⟩
      have e4 := nw_of hr0 (.tup ys)
      have ne : r ≠ D0 := fun z => by subst z; rw [hD3] at hr0; cases hr0
      have w4 : Same (wo D0 H4) (wo D0 (upd (upd H4 r (.tup ys)) D0 (.lst (ws ++ [.ref r])))) := wo_kp ((same_kp e4).trans (Kp.bag (Kp.refl D0 _)))
      refine ⟨ws, e4 _ _ hD3, by rw [hwl]; exact Nat.lt_of_lt_of_le hi (by show 4 ≤ sizeLine; decide), (L2.Same.nw s3 hr0).mu hD0, ws ++ [.ref r], upd_same, by rw [List.length_append, hwl]; rfl, ?_⟩
      rw [List.take_add_one, hds, List.map_append]
      refine dp_app (dp_sameAll w4 _ _ hwd) (.cons (.tup (SqT.of (wo_ne ne ?_)) (dp_sameAll w4 _ _ dp)) .nil)
      rw [upd_ne ne]
      exact upd_same
    · rintro H3 ⟨s3, ws, hD3, hwl, hwd⟩
      have hw4 : DpAll K H3 ws [.tuple (D.T.map dT), .tuple (D.G.map dT), .tuple (D.S.map dS), .tuple (D.L.map dL)] := dp_sameAll wo_same _ _ hwd
      walk_at "el"
      refine n_cat (s3 _ _ g2) hD3 (by rw [hwl]; show 2 + 4 ≤ sizeLine; decide) fun r hr0 => ?_
      have e5 := nw_of hr0 (.lst ([.int ev, .int wi] ++ ws))
      walk_at "el"
      refine .inl ⟨_, bookD D ev wi, rfl, .lst (SqL.of upd_same) (.cons (.int _) (.cons (.int _) (dp_sameAll e5 _ _ hw4))), gd_showable _ hf.good, by have := hf.depth; omega, hf.len, ?_⟩
      walk_at "el"
      exact k _ (fun a o h => e5 a o (s3 _ _ (e2 _ _ h)))
end
end EL

/- part K81G -/
namespace EL
open PySem PySem.Spec PyProof.Rows L2
open PySem.W (Frag)
local macro_rules | `(tactic| walk_at "el1") => `(tactic| with_reducible first
  | refine a_sasg ?_ | refine a_sdrop ?_ | refine a_saugS ?_ | refine a_spar ?_ | refine a_seq ?_ | refine a_asg ?_ | refine a_drop ?_ | refine a_ret ?_ | refine a_if ?_ | refine a_next ?_
  | refine a_op ?_ | refine a_cons ?_ | refine a_nil ?_ | refine a_cb ?_ | refine a_call ?_ | refine a_c ?_ | refine a_gn ?_ | refine a_nx ?_ | refine a_rt ?_ | refine a_un ?_
  | refine a_test ?_ | refine a_B ?_ | refine a_bl ?_ | refine a_and ?_ | refine a_or ?_ | refine a_not ?_ | refine a_andV ?_ | refine a_orV ?_ | refine a_notV ?_ | refine a_ifx ?_ | refine a_chain ?_
  | refine a_nT ?_ | refine a_nF ?_ | refine a_fld ?_ | refine a_getF ?_ | refine a_T ?_ | refine a_F ?_ | refine a_tup ?_ | refine a_lst ?_ | refine a_sub ?_ | refine a_augS ?_ | refine a_two ?_ | refine a_I0 ?_ | refine a_U ?_ | refine n_add ?_ | refine n_int ?_ | refine n_ib ?_ | refine a_ip ?_ | refine a_rng1 ?_ | refine a_rng2 ?_ | refine a_bm ?_ | refine a_abs ?_ | refine a_pairs ?_ | refine a_pairs0 ?_ | refine a_bk ?_ | refine a_prp ?_ | refine a_lc ?_ | refine a_yes ?_ | refine a_sl ?_ | refine a_nop ?_ | refine a_prt ?_ | refine a_ex1 ?_ | refine a_for ?_ | refine a_sfor ?_ | refine a_iE1 ?_ | refine a_iEs ?_ | refine a_iEz ?_ | refine a_iEnum ?_ | refine a_iTup ?_ | refine a_iList ?_ | refine a_gcons ?_ | refine a_gnil ?_ | refine a_revT ?_ | refine a_spar3 ?_ | refine a_par3 ?_ | refine a_three ?_)
local macro_rules | `(tactic| walk_at "el2") => `(tactic| first
  | (refine a_var (by rfl) ?_)
  | (refine n_ixL (SqL.of (by assumption)) (by rfl) ?_) | (refine n_ixT (SqT.of (by assumption)) (by rfl) ?_) | (refine n_eq (by rfl) ?_) | (refine n_ne (by rfl) ?_)
  | (refine n_isN ?_) | (refine n_notN ?_) | (refine n_isB ?_) | (refine n_notB ?_) | (refine n_isBI ?_) | (refine n_notBI ?_) | (refine n_len (.inl (SqL.of (by assumption))) ?_) | (refine n_len (.inr (SqT.of (by assumption))) ?_)
  | (refine a_getL (SqL.of (by assumption)) (by rfl) ?_)
  | (refine n_isInt (by assumption) ?_) | (refine n_isBool (by assumption) ?_) | (refine n_isStr (by assumption) ?_) | (refine n_isTup (by assumption) ?_) | (refine n_isLst (by assumption) ?_))
local macro_rules | `(tactic| walk_at "el") => `(tactic| repeat (first | walk_at "el1" | walk_at "el2"))

def exV (a b c d : List V) : Pt → List V | .tel => a | .gap => b | .sur => c | .cla => d
def ixP : Pt → Int | .tel => 0 | .gap => 1 | .sur => 2 | .cla => 3
/-- a row of three lists that says the items of three parts -/
def Tri (H : Hp) (t : Addr) (E : PD) : Prop := ∃ (g s c : Addr) (gs ss cs : List V), H t = some (.tup [.ref g, .ref s, .ref c]) ∧ H g = some (.lst gs) ∧ H s = some (.lst ss) ∧ H c = some (.lst cs) ∧ gs.length ≤ 2 ∧ ss.length ≤ 2 ∧ cs.length ≤ 2 ∧ E.T = [] ∧ RowsAre encT H gs E.G ∧ RowsAre encS H ss E.S ∧ RowsAre encL H cs E.L
theorem Tri.same {H H' : Hp} {t : Addr} {E : PD} (h : Tri H t E) (s : Same H H') : Tri H' t E := by
  obtain ⟨g, z, c, gs, ss, cs, h1, h2, h3, h4, l1, l2, l3, e, r1, r2, r3⟩ := h
  exact ⟨g, z, c, gs, ss, cs, s _ _ h1, s _ _ h2, s _ _ h3, s _ _ h4, l1, l2, l3, e, r1.same s, r2.same s, r3.same s⟩
/-- lists of four parts, one for each of Es, with items more than D -/
def Pls (H : Hp) (b : Addr) (ps : List Addr) (D : PD) (Es : List PD) : Prop := ps.length = Es.length ∧ ∀ (j : Nat) (p' : Addr) (E : PD), ps[j]? = some p' → Es[j]? = some E → ∃ l' xs', LP H b p' l' xs' (catD D E)
def spLcp (K : Frag) : Sp := fun vs H Q _ => ∃ (D : PD) (ev wi : Int) (b p : Addr) (l : Pt → Addr) (xs : Pt → List V) (u : Pt) (q : Addr) (zs : List V), vs = [.ref p, .int (ixP u), .ref q] ∧ (∃ o, H b = some o) ∧ LP H b p l xs D ∧ (∀ u, (xs u).length ≤ 22) ∧ H q = some (.tup zs) ∧ ItemOk u H (.ref q) ev wi ∧ Below H (.ref q) ∧
  ∀ r ps H', Same H H' → H r = none → H' r = some (.lst (ps.map V.ref)) → Pls H' b ps D (denyD u zs) → Q (.ref r) H'
section
variable {P : Program} {w : World} {K : Frag} {mg : Str → Option Value} {base : Heap} {f : Addr} {fd : FuncData} {C : Addr}
set_option maxHeartbeats 16000000 in
theorem ok_lcp (F : Fun K "_law_contrary_parts" "_law_contrary_parts" s_contrary_parts f fd) (T : Tb mg) (c_l_contrary : Cal P w K mg base CX0 1 "_law_contrary" ["_law_kind_here"] (fun vs H Q _ => ∃ s, vs = [.str s] ∧ Q (.str (otherK s)) H)) : FnOk P w K mg base CX0 2 f fd ["_law_parts_here", "_law_part", "_law_item"] (spLcp K) := by
  refine F.ok sc_contrary_parts (fun vs H Q E h => ?_) (fun cdv A outer s H vs Q E hr h => ?_)
  · obtain ⟨_, _, _, _, _, _, _, _, _, _, rfl, _⟩ := h
    rfl
  · obtain ⟨D, ev, wi, b, p, l, xs, u, q, zs, rfl, ⟨ob, hb⟩, hL, h22, hq, hi, hn, k⟩ := h
    refine ⟨_, (Evl.pss_cut (ps_if (pt_cmpR (u_eq hr.units) (pv 1) pe_int (nomark _))
    (pss_cons (ps_asg (pv 2) (pg_tup rfl (pgs_cons (pg_name (i := 3) sc_contrary_parts.nd rfl (Or.inl rfl)) (pgs_cons (pg_name (i := 4) sc_contrary_parts.nd rfl (Or.inl rfl)) (pgs_cons (pg_name (i := 5) sc_contrary_parts.nd rfl (Or.inl rfl)) pgs_nil)))))
  (pss_cons (ps_set (i := 6) sc_contrary_parts.nd rfl (Or.inl rfl) (pe_lst (pa_cons (pe_tup (pa_cons (pe_lst pa_nil) (pa_cons (pe_lst (pa_cons (pe_tup (pa_cons (pv 4) (pa_cons pe_str (pa_cons (pe_op op_sub (pv 5) pe_int) pa_nil)))) pa_nil)) (pa_cons (pe_lst (pa_cons (pe_tup (pa_cons (pv 3) (pa_cons pe_str (pa_cons (pv 3) (pa_cons pe_str pa_nil))))) pa_nil)) pa_nil)))) pa_nil)))
  (pss_one (ps_expr (pe_bm PySem.F.plainAttrs_list PySem.F.slot_list_append PySem.F.type_list_append mt_append (pv 6) (pa_cons (pe_tup (pa_cons (pe_lst pa_nil) (pa_cons (pe_lst (pa_cons (pe_tup (pa_cons (pv 4) (pa_cons pe_str (pa_cons (pe_op u_add (pv 5) pe_int) pa_nil)))) pa_nil)) (pa_cons (pe_lst (pa_cons (pe_tup (pa_cons (pv 3) (pa_cons pe_str (pa_cons (pv 3) (pa_cons pe_str pa_nil))))) pa_nil)) pa_nil)))) pa_nil))))))
    (pss_one (ps_if (pt_cmpR (u_eq hr.units) (pv 1) pe_int (nomark _))
    (pss_one (ps_set (i := 6) sc_contrary_parts.nd rfl (Or.inl rfl) (pe_lst (pa_cons (pe_tup (pa_cons (pe_lst (pa_cons (pe_tup (pa_cons (pe_ix ix_seq (pv 2) pe_int (fun _ _ => rfl)) (pa_cons (pe_ix ix_seq (pv 2) pe_int (fun _ _ => rfl)) (pa_cons (pe_op op_sub pe_int (pe_ix ix_seq (pv 2) pe_int (fun _ _ => rfl))) pa_nil)))) pa_nil)) (pa_cons (pe_lst pa_nil) (pa_cons (pe_lst pa_nil) pa_nil)))) pa_nil))))
    (pss_one (ps_if (pt_cmpR (u_eq hr.units) (pv 1) pe_int (nomark _))
    (pss_cons (ps_asg (pv 2) (pg_tup rfl (pgs_cons (pg_name (i := 4) sc_contrary_parts.nd rfl (Or.inl rfl)) (pgs_cons (pg_name (i := 7) sc_contrary_parts.nd rfl (Or.inl rfl)) (pgs_cons (pg_name (i := 5) sc_contrary_parts.nd rfl (Or.inl rfl)) pgs_nil)))))
  (pss_one (ps_set (i := 6) sc_contrary_parts.nd rfl (Or.inl rfl) (pe_lst (pa_cons (pe_tup (pa_cons (pe_lst pa_nil) (pa_cons (pe_lst (pa_cons (pe_ifExp (pt_cmpR (u_eq hr.units) (pv 7) pe_str (nomark _)) (pe_tup (pa_cons (pv 4) (pa_cons pe_str (pa_cons (pe_op op_sub (pv 5) pe_int) pa_nil)))) (pe_tup (pa_cons (pv 4) (pa_cons pe_str (pa_cons (pe_op u_add (pv 5) pe_int) pa_nil))))) pa_nil)) (pa_cons (pe_lst pa_nil) pa_nil)))) pa_nil)))))
    (pss_cons (ps_asg (pv 2) (pg_tup rfl (pgs_cons (pg_name (i := 3) sc_contrary_parts.nd rfl (Or.inl rfl)) (pgs_cons (pg_name (i := 8) sc_contrary_parts.nd rfl (Or.inl rfl)) (pgs_cons (pg_name (i := 9) sc_contrary_parts.nd rfl (Or.inl rfl)) (pgs_cons (pg_name (i := 10) sc_contrary_parts.nd rfl (Or.inl rfl)) pgs_nil))))))
  (pss_cons (ps_par (i := 11) (j := 12) rfl sc_contrary_parts.nd rfl rfl (by decide) rfl rfl (pa_cons (pe_cal c_l_contrary (hr.mono (by decide)) pass0 (pa_cons (pv 8) pa_nil)) (pa_cons (pe_cal c_l_contrary (hr.mono (by decide)) pass0 (pa_cons (pv 10) pa_nil)) pa_nil)) (by with_unfolding_all rfl))
  (pss_one (ps_set (i := 6) sc_contrary_parts.nd rfl (Or.inl rfl) (pe_lst (pa_cons (pe_tup (pa_cons (pe_lst pa_nil) (pa_cons (pe_lst pa_nil) (pa_cons (pe_lst (pa_cons (pe_tup (pa_cons (pv 3) (pa_cons (pv 11) (pa_cons (pv 3) (pa_cons (pv 11) pa_nil))))) (pa_cons (pe_tup (pa_cons (pv 9) (pa_cons (pv 12) (pa_cons (pv 9) (pa_cons (pv 12) pa_nil))))) pa_nil))) pa_nil)))) pa_nil)))))))))))
  (pss_one (ps_ret (pe_lc (own := [("_law_gaps", 13), ("_law_sure", 14), ("_law_some", 15)]) rfl sc_contrary_parts.nd (u_iter (pv 6)) (blkOk_by (own := [("_law_gaps", 13), ("_law_sure", 14), ("_law_some", 15)]) (N := N_contrary_parts) (sc := defScope s_contrary_parts) (by decide +kernel)) (fun _ _ _ _ _ => (show PG _ _ (gTup K 3 _) from (pg_tup rfl (pgs_cons (pg_name (i := 13) sc_contrary_parts.nd rfl (Or.inl rfl)) (pgs_cons (pg_name (i := 14) sc_contrary_parts.nd rfl (Or.inl rfl)) (pgs_cons (pg_name (i := 15) sc_contrary_parts.nd rfl (Or.inl rfl)) pgs_nil)))))) (fun _ _ _ _ _ => pts_nil) (fun _ _ _ _ _ => (pe_lst (pa_cons (pe_ix (show IxR _ (rIx K) from ix_seq) (pv 0) pe_int (fun _ _ => rfl)) (pa_cons (pe_op (show OpR _ (binaryOp .Add) (rAdd K) from u_add) (pe_ix (show IxR _ (rIx K) from ix_seq) (pv 0) pe_int (fun _ _ => rfl)) (pv 13)) (pa_cons (pe_op (show OpR _ (binaryOp .Add) (rAdd K) from u_add) (pe_ix (show IxR _ (rIx K) from ix_seq) (pv 0) pe_int (fun _ _ => rfl)) (pv 14)) (pa_cons (pe_op (show OpR _ (binaryOp .Add) (rAdd K) from u_add) (pe_ix (show IxR _ (rIx K) from ix_seq) (pv 0) pe_int (fun _ _ => rfl)) (pv 15)) pa_nil)))))))))), ?_⟩
    --CASES
    have dk9 : ∀ a b : Str, decide (V.str a = V.str b) = decide (a = b) := fun a b => by
      rw [Bool.eq_iff_iff, decide_eq_true_iff, decide_eq_true_iff]; exact ⟨fun h => V.str.inj h, fun h => congrArg V.str h⟩
    walk_at "el"
    refine a_cut (fun σ' H' => Same H H' ∧ ∃ (fo : Addr) (ts : List Addr) (v3 v4 v5 v7 v8 v9 v10 v11 v12 v13 v14 v15 : Option V), H fo = none ∧ H' fo = some (.lst (ts.map V.ref)) ∧ ts.length = (denyD u zs).length ∧ (∀ (j : Nat) (t : Addr) (E : PD), ts[j]? = some t → (denyD u zs)[j]? = some E → Tri H' t E) ∧ σ' = [some (.ref p), some (.int (ixP u)), some (.ref q), v3, v4, v5, some (.ref fo), v7, v8, v9, v10, v11, v12, v13, v14, v15]) ?_ ?_
    · clear k hL hb h22
      cases u
      · obtain ⟨q', ⟨w', e, x⟩, e1, hq2, _, _, _⟩ := item_tel_inv hi
        cases e1
        rw [hq] at hq2; cases hq2
        rw [show ixP .tel = 0 from rfl]
        walk_at "el"
        rw [if_pos (by decide)]
        walk_at "el"
        refine a_gtup (SqT.of hq) rfl ?_
        walk_at "el"
        refine ⟨by show 0 ≤ sizeLine; decide, fun m1 hm1 => ?_⟩
        have e1 := nw_of hm1 (.lst [])
        have g1 := upd_at hm1 (.lst [])
        have s1 := e1
        have q1 := e1 _ _ hq
        generalize upd H m1 (.lst []) = G1 at g1 e1 s1 q1 ⊢
        walk_at "el"
        refine ⟨by show 3 ≤ sizeLine; decide, fun m2 hm2 => ?_⟩
        have e2 := nw_of hm2 (.tup [.int e, .str "most", .int (x - 1)])
        have g2 := upd_at hm2 (.tup [.int e, .str "most", .int (x - 1)])
        have g1 := e2 _ _ g1
        have s2 := s1.trans e2
        have q2 := e2 _ _ q1
        generalize upd G1 m2 (.tup [.int e, .str "most", .int (x - 1)]) = G2 at g1 g2 e2 s2 q2 ⊢
        walk_at "el"
        refine ⟨by show 1 ≤ sizeLine; decide, fun m3 hm3 => ?_⟩
        have e3 := nw_of hm3 (.lst [.ref m2])
        have g3 := upd_at hm3 (.lst [.ref m2])
        have g1 := e3 _ _ g1
        have g2 := e3 _ _ g2
        have s3 := s2.trans e3
        have q3 := e3 _ _ q2
        generalize upd G2 m3 (.lst [.ref m2]) = G3 at g1 g2 g3 e3 s3 q3 ⊢
        walk_at "el"
        refine ⟨by show 4 ≤ sizeLine; decide, fun m4 hm4 => ?_⟩
        have e4 := nw_of hm4 (.tup [.int w', .str "early", .int w', .str "early"])
        have g4 := upd_at hm4 (.tup [.int w', .str "early", .int w', .str "early"])
        have g1 := e4 _ _ g1
        have g2 := e4 _ _ g2
        have g3 := e4 _ _ g3
        have s4 := s3.trans e4
        have q4 := e4 _ _ q3
        generalize upd G3 m4 (.tup [.int w', .str "early", .int w', .str "early"]) = G4 at g1 g2 g3 g4 e4 s4 q4 ⊢
        walk_at "el"
        refine ⟨by show 1 ≤ sizeLine; decide, fun m5 hm5 => ?_⟩
        have e5 := nw_of hm5 (.lst [.ref m4])
        have g5 := upd_at hm5 (.lst [.ref m4])
        have g1 := e5 _ _ g1
        have g2 := e5 _ _ g2
        have g3 := e5 _ _ g3
        have g4 := e5 _ _ g4
        have s5 := s4.trans e5
        have q5 := e5 _ _ q4
        generalize upd G4 m5 (.lst [.ref m4]) = G5 at g1 g2 g3 g4 g5 e5 s5 q5 ⊢
        walk_at "el"
        refine ⟨by show 3 ≤ sizeLine; decide, fun m6 hm6 => ?_⟩
        have e6 := nw_of hm6 (.tup [.ref m1, .ref m3, .ref m5])
        have g6 := upd_at hm6 (.tup [.ref m1, .ref m3, .ref m5])
        have g1 := e6 _ _ g1
        have g2 := e6 _ _ g2
        have g3 := e6 _ _ g3
        have g4 := e6 _ _ g4
        have g5 := e6 _ _ g5
        have s6 := s5.trans e6
        have q6 := e6 _ _ q5
        generalize upd G5 m6 (.tup [.ref m1, .ref m3, .ref m5]) = G6 at g1 g2 g3 g4 g5 g6 e6 s6 q6 ⊢
        walk_at "el"
        refine ⟨by show 1 ≤ sizeLine; decide, fun m7 hm7 => ?_⟩
        have e7 := nw_of hm7 (.lst [.ref m6])
        have g7 := upd_at hm7 (.lst [.ref m6])
        have ne1_7 : m1 ≠ m7 := fun z => by rw [z, hm7] at g1; cases g1
        have ne2_7 : m2 ≠ m7 := fun z => by rw [z, hm7] at g2; cases g2
        have ne3_7 : m3 ≠ m7 := fun z => by rw [z, hm7] at g3; cases g3
        have ne4_7 : m4 ≠ m7 := fun z => by rw [z, hm7] at g4; cases g4
        have ne5_7 : m5 ≠ m7 := fun z => by rw [z, hm7] at g5; cases g5
        have ne6_7 : m6 ≠ m7 := fun z => by rw [z, hm7] at g6; cases g6
        have g1 := e7 _ _ g1
        have g2 := e7 _ _ g2
        have g3 := e7 _ _ g3
        have g4 := e7 _ _ g4
        have g5 := e7 _ _ g5
        have g6 := e7 _ _ g6
        have s7 := s6.trans e7
        have q7 := e7 _ _ q6
        generalize upd G6 m7 (.lst [.ref m6]) = G7 at g1 g2 g3 g4 g5 g6 g7 e7 s7 q7 ⊢
        have n0 : H m7 = none := none_b9 s6 hm7
        walk_at "el"
        refine ⟨.inl ⟨rfl, _, SqL.of g7⟩, ?_⟩
        walk_at "el"
        refine ⟨by show 0 ≤ sizeLine; decide, fun m8 hm8 => ?_⟩
        have e8 := nw_of hm8 (.lst [])
        have g8 := upd_at hm8 (.lst [])
        have ne7_8 : m7 ≠ m8 := fun z => by rw [z, hm8] at g7; cases g7
        have g1 := e8 _ _ g1
        have g2 := e8 _ _ g2
        have g3 := e8 _ _ g3
        have g4 := e8 _ _ g4
        have g5 := e8 _ _ g5
        have g6 := e8 _ _ g6
        have g7 := e8 _ _ g7
        have s8 := s7.trans e8
        have q8 := e8 _ _ q7
        generalize upd G7 m8 (.lst []) = G8 at g1 g2 g3 g4 g5 g6 g7 g8 e8 s8 q8 ⊢
        walk_at "el"
        refine ⟨by show 3 ≤ sizeLine; decide, fun m9 hm9 => ?_⟩
        have e9 := nw_of hm9 (.tup [.int e, .str "least", .int (x + 1)])
        have g9 := upd_at hm9 (.tup [.int e, .str "least", .int (x + 1)])
        have ne7_9 : m7 ≠ m9 := fun z => by rw [z, hm9] at g7; cases g7
        have g1 := e9 _ _ g1
        have g2 := e9 _ _ g2
        have g3 := e9 _ _ g3
        have g4 := e9 _ _ g4
        have g5 := e9 _ _ g5
        have g6 := e9 _ _ g6
        have g7 := e9 _ _ g7
        have g8 := e9 _ _ g8
        have s9 := s8.trans e9
        have q9 := e9 _ _ q8
        generalize upd G8 m9 (.tup [.int e, .str "least", .int (x + 1)]) = G9 at g1 g2 g3 g4 g5 g6 g7 g8 g9 e9 s9 q9 ⊢
        walk_at "el"
        refine ⟨by show 1 ≤ sizeLine; decide, fun m10 hm10 => ?_⟩
        have e10 := nw_of hm10 (.lst [.ref m9])
        have g10 := upd_at hm10 (.lst [.ref m9])
        have ne7_10 : m7 ≠ m10 := fun z => by rw [z, hm10] at g7; cases g7
        have g1 := e10 _ _ g1
        have g2 := e10 _ _ g2
        have g3 := e10 _ _ g3
        have g4 := e10 _ _ g4
        have g5 := e10 _ _ g5
        have g6 := e10 _ _ g6
        have g7 := e10 _ _ g7
        have g8 := e10 _ _ g8
        have g9 := e10 _ _ g9
        have s10 := s9.trans e10
        have q10 := e10 _ _ q9
        generalize upd G9 m10 (.lst [.ref m9]) = G10 at g1 g2 g3 g4 g5 g6 g7 g8 g9 g10 e10 s10 q10 ⊢
        walk_at "el"
        refine ⟨by show 4 ≤ sizeLine; decide, fun m11 hm11 => ?_⟩
        have e11 := nw_of hm11 (.tup [.int w', .str "late", .int w', .str "late"])
        have g11 := upd_at hm11 (.tup [.int w', .str "late", .int w', .str "late"])
        have ne7_11 : m7 ≠ m11 := fun z => by rw [z, hm11] at g7; cases g7
        have g1 := e11 _ _ g1
        have g2 := e11 _ _ g2
        have g3 := e11 _ _ g3
        have g4 := e11 _ _ g4
        have g5 := e11 _ _ g5
        have g6 := e11 _ _ g6
        have g7 := e11 _ _ g7
        have g8 := e11 _ _ g8
        have g9 := e11 _ _ g9
        have g10 := e11 _ _ g10
        have s11 := s10.trans e11
        have q11 := e11 _ _ q10
        generalize upd G10 m11 (.tup [.int w', .str "late", .int w', .str "late"]) = G11 at g1 g2 g3 g4 g5 g6 g7 g8 g9 g10 g11 e11 s11 q11 ⊢
        walk_at "el"
        refine ⟨by show 1 ≤ sizeLine; decide, fun m12 hm12 => ?_⟩
        have e12 := nw_of hm12 (.lst [.ref m11])
        have g12 := upd_at hm12 (.lst [.ref m11])
        have ne7_12 : m7 ≠ m12 := fun z => by rw [z, hm12] at g7; cases g7
        have g1 := e12 _ _ g1
        have g2 := e12 _ _ g2
        have g3 := e12 _ _ g3
        have g4 := e12 _ _ g4
        have g5 := e12 _ _ g5
        have g6 := e12 _ _ g6
        have g7 := e12 _ _ g7
        have g8 := e12 _ _ g8
        have g9 := e12 _ _ g9
        have g10 := e12 _ _ g10
        have g11 := e12 _ _ g11
        have s12 := s11.trans e12
        have q12 := e12 _ _ q11
        generalize upd G11 m12 (.lst [.ref m11]) = G12 at g1 g2 g3 g4 g5 g6 g7 g8 g9 g10 g11 g12 e12 s12 q12 ⊢
        walk_at "el"
        refine ⟨by show 3 ≤ sizeLine; decide, fun m13 hm13 => ?_⟩
        have e13 := nw_of hm13 (.tup [.ref m8, .ref m10, .ref m12])
        have g13 := upd_at hm13 (.tup [.ref m8, .ref m10, .ref m12])
        have ne7_13 : m7 ≠ m13 := fun z => by rw [z, hm13] at g7; cases g7
        have g1 := e13 _ _ g1
        have g2 := e13 _ _ g2
        have g3 := e13 _ _ g3
        have g4 := e13 _ _ g4
        have g5 := e13 _ _ g5
        have g6 := e13 _ _ g6
        have g7 := e13 _ _ g7
        have g8 := e13 _ _ g8
        have g9 := e13 _ _ g9
        have g10 := e13 _ _ g10
        have g11 := e13 _ _ g11
        have g12 := e13 _ _ g12
        have s13 := s12.trans e13
        have q13 := e13 _ _ q12
        generalize upd G12 m13 (.tup [.ref m8, .ref m10, .ref m12]) = G13 at g1 g2 g3 g4 g5 g6 g7 g8 g9 g10 g11 g12 g13 e13 s13 q13 ⊢
        walk_at "el"
        refine ⟨m7, [.ref m6], .ref m13, rfl, rfl, g7, by show 1 < sizeLine; decide, ?_⟩
        have g1 : upd G13 m7 (.lst ([.ref m6] ++ [.ref m13])) m1 = _ := (upd_ne ne1_7).trans g1
        have g2 : upd G13 m7 (.lst ([.ref m6] ++ [.ref m13])) m2 = _ := (upd_ne ne2_7).trans g2
        have g3 : upd G13 m7 (.lst ([.ref m6] ++ [.ref m13])) m3 = _ := (upd_ne ne3_7).trans g3
        have g4 : upd G13 m7 (.lst ([.ref m6] ++ [.ref m13])) m4 = _ := (upd_ne ne4_7).trans g4
        have g5 : upd G13 m7 (.lst ([.ref m6] ++ [.ref m13])) m5 = _ := (upd_ne ne5_7).trans g5
        have g6 : upd G13 m7 (.lst ([.ref m6] ++ [.ref m13])) m6 = _ := (upd_ne ne6_7).trans g6
        have g8 : upd G13 m7 (.lst ([.ref m6] ++ [.ref m13])) m8 = _ := (upd_ne (Ne.symm ne7_8)).trans g8
        have g9 : upd G13 m7 (.lst ([.ref m6] ++ [.ref m13])) m9 = _ := (upd_ne (Ne.symm ne7_9)).trans g9
        have g10 : upd G13 m7 (.lst ([.ref m6] ++ [.ref m13])) m10 = _ := (upd_ne (Ne.symm ne7_10)).trans g10
        have g11 : upd G13 m7 (.lst ([.ref m6] ++ [.ref m13])) m11 = _ := (upd_ne (Ne.symm ne7_11)).trans g11
        have g12 : upd G13 m7 (.lst ([.ref m6] ++ [.ref m13])) m12 = _ := (upd_ne (Ne.symm ne7_12)).trans g12
        have g13 : upd G13 m7 (.lst ([.ref m6] ++ [.ref m13])) m13 = _ := (upd_ne (Ne.symm ne7_13)).trans g13
        walk_at "el"
        refine ⟨s13.mu n0, m7, [m6, m13], _, _, _, _, _, _, _, _, _, _, _, _, n0, upd_same, rfl, fun j t E hj hE => ?_, rfl⟩
        match j with
        | 0 => cases hj; cases hE; exact ⟨m1, m3, m5, [], [.ref m2], [.ref m4], g6, g1, g3, g5, by simp, by simp, by simp, rfl, rows_nil9, rows_one (enc := encS) (x := (e, "most", x - 1)) g2, rows_one (enc := encL) (x := (w', "early", w', "early")) g4⟩
        | 1 => cases hj; cases hE; exact ⟨m8, m10, m12, [], [.ref m9], [.ref m11], g13, g8, g10, g12, by simp, by simp, by simp, rfl, rows_nil9, rows_one (enc := encS) (x := (e, "least", x + 1)) g9, rows_one (enc := encL) (x := (w', "late", w', "late")) g11⟩
        | j + 2 => cases hj
      · obtain ⟨q', a, b', g, e1, hq2, _⟩ := item_gap_inv hi
        cases e1
        rw [hq] at hq2; cases hq2
        rw [show ixP .gap = 1 from rfl]
        walk_at "el"
        rw [if_neg (by decide)]
        walk_at "el"
        rw [if_pos (by decide)]
        walk_at "el"
        refine ⟨by show 3 ≤ sizeLine; decide, fun m1 hm1 => ?_⟩
        have e1 := nw_of hm1 (.tup [.int b', .int a, .int (1 - g)])
        have g1 := upd_at hm1 (.tup [.int b', .int a, .int (1 - g)])
        have s1 := e1
        have q1 := e1 _ _ hq
        generalize upd H m1 (.tup [.int b', .int a, .int (1 - g)]) = G1 at g1 e1 s1 q1 ⊢
        walk_at "el"
        refine ⟨by show 1 ≤ sizeLine; decide, fun m2 hm2 => ?_⟩
        have e2 := nw_of hm2 (.lst [.ref m1])
        have g2 := upd_at hm2 (.lst [.ref m1])
        have g1 := e2 _ _ g1
        have s2 := s1.trans e2
        have q2 := e2 _ _ q1
        generalize upd G1 m2 (.lst [.ref m1]) = G2 at g1 g2 e2 s2 q2 ⊢
        walk_at "el"
        refine ⟨by show 0 ≤ sizeLine; decide, fun m3 hm3 => ?_⟩
        have e3 := nw_of hm3 (.lst [])
        have g3 := upd_at hm3 (.lst [])
        have g1 := e3 _ _ g1
        have g2 := e3 _ _ g2
        have s3 := s2.trans e3
        have q3 := e3 _ _ q2
        generalize upd G2 m3 (.lst []) = G3 at g1 g2 g3 e3 s3 q3 ⊢
        walk_at "el"
        refine ⟨by show 0 ≤ sizeLine; decide, fun m4 hm4 => ?_⟩
        have e4 := nw_of hm4 (.lst [])
        have g4 := upd_at hm4 (.lst [])
        have g1 := e4 _ _ g1
        have g2 := e4 _ _ g2
        have g3 := e4 _ _ g3
        have s4 := s3.trans e4
        have q4 := e4 _ _ q3
        generalize upd G3 m4 (.lst []) = G4 at g1 g2 g3 g4 e4 s4 q4 ⊢
        walk_at "el"
        refine ⟨by show 3 ≤ sizeLine; decide, fun m5 hm5 => ?_⟩
        have e5 := nw_of hm5 (.tup [.ref m2, .ref m3, .ref m4])
        have g5 := upd_at hm5 (.tup [.ref m2, .ref m3, .ref m4])
        have g1 := e5 _ _ g1
        have g2 := e5 _ _ g2
        have g3 := e5 _ _ g3
        have g4 := e5 _ _ g4
        have s5 := s4.trans e5
        have q5 := e5 _ _ q4
        generalize upd G4 m5 (.tup [.ref m2, .ref m3, .ref m4]) = G5 at g1 g2 g3 g4 g5 e5 s5 q5 ⊢
        walk_at "el"
        refine ⟨by show 1 ≤ sizeLine; decide, fun m6 hm6 => ?_⟩
        have e6 := nw_of hm6 (.lst [.ref m5])
        have g6 := upd_at hm6 (.lst [.ref m5])
        have g1 := e6 _ _ g1
        have g2 := e6 _ _ g2
        have g3 := e6 _ _ g3
        have g4 := e6 _ _ g4
        have g5 := e6 _ _ g5
        have s6 := s5.trans e6
        have q6 := e6 _ _ q5
        generalize upd G5 m6 (.lst [.ref m5]) = G6 at g1 g2 g3 g4 g5 g6 e6 s6 q6 ⊢
        have n0 : H m6 = none := none_b9 s5 hm6
        walk_at "el"
        refine ⟨s6, m6, [m5], _, _, _, _, _, _, _, _, _, _, _, _, n0, g6, rfl, fun j t E hj hE => ?_, rfl⟩
        match j with
        | 0 => cases hj; cases hE; exact ⟨m2, m3, m4, [.ref m1], [], [], g5, g2, g3, g4, by simp, by simp, by simp, rfl, rows_one (enc := encT) (x := (b', a, 1 - g)) g1, rows_nil9, rows_nil9⟩
        | j + 1 => cases hj
      · obtain ⟨q', ⟨e, sd, x⟩, e1, hq2, _⟩ := item_sur_inv hi
        cases e1
        rw [hq] at hq2; cases hq2
        rw [show ixP .sur = 2 from rfl]
        walk_at "el"
        rw [if_neg (by decide)]
        walk_at "el"
        rw [if_neg (by decide)]
        walk_at "el"
        rw [if_pos (by decide)]
        walk_at "el"
        refine a_gtup (SqT.of hq) rfl ?_
        walk_at "el"
        refine ⟨by show 0 ≤ sizeLine; decide, fun m1 hm1 => ?_⟩
        have e1 := nw_of hm1 (.lst [])
        have g1 := upd_at hm1 (.lst [])
        have s1 := e1
        have q1 := e1 _ _ hq
        generalize upd H m1 (.lst []) = G1 at g1 e1 s1 q1 ⊢
        walk_at "el"
        rw [dk9]
        by_cases c : sd = "least"
        · rw [decide_eq_true c]
          walk_at "el"
          refine ⟨by show 3 ≤ sizeLine; decide, fun m2 hm2 => ?_⟩
          have e2 := nw_of hm2 (.tup [.int e, .str "most", .int (x - 1)])
          have g2 := upd_at hm2 (.tup [.int e, .str "most", .int (x - 1)])
          have g1 := e2 _ _ g1
          have s2 := s1.trans e2
          have q2 := e2 _ _ q1
          generalize upd G1 m2 (.tup [.int e, .str "most", .int (x - 1)]) = G2 at g1 g2 e2 s2 q2 ⊢
          walk_at "el"
          refine ⟨by show 1 ≤ sizeLine; decide, fun m3 hm3 => ?_⟩
          have e3 := nw_of hm3 (.lst [.ref m2])
          have g3 := upd_at hm3 (.lst [.ref m2])
          have g1 := e3 _ _ g1
          have g2 := e3 _ _ g2
          have s3 := s2.trans e3
          have q3 := e3 _ _ q2
          generalize upd G2 m3 (.lst [.ref m2]) = G3 at g1 g2 g3 e3 s3 q3 ⊢
          walk_at "el"
          refine ⟨by show 0 ≤ sizeLine; decide, fun m4 hm4 => ?_⟩
          have e4 := nw_of hm4 (.lst [])
          have g4 := upd_at hm4 (.lst [])
          have g1 := e4 _ _ g1
          have g2 := e4 _ _ g2
          have g3 := e4 _ _ g3
          have s4 := s3.trans e4
          have q4 := e4 _ _ q3
          generalize upd G3 m4 (.lst []) = G4 at g1 g2 g3 g4 e4 s4 q4 ⊢
          walk_at "el"
          refine ⟨by show 3 ≤ sizeLine; decide, fun m5 hm5 => ?_⟩
          have e5 := nw_of hm5 (.tup [.ref m1, .ref m3, .ref m4])
          have g5 := upd_at hm5 (.tup [.ref m1, .ref m3, .ref m4])
          have g1 := e5 _ _ g1
          have g2 := e5 _ _ g2
          have g3 := e5 _ _ g3
          have g4 := e5 _ _ g4
          have s5 := s4.trans e5
          have q5 := e5 _ _ q4
          generalize upd G4 m5 (.tup [.ref m1, .ref m3, .ref m4]) = G5 at g1 g2 g3 g4 g5 e5 s5 q5 ⊢
          walk_at "el"
          refine ⟨by show 1 ≤ sizeLine; decide, fun m6 hm6 => ?_⟩
          have e6 := nw_of hm6 (.lst [.ref m5])
          have g6 := upd_at hm6 (.lst [.ref m5])
          have g1 := e6 _ _ g1
          have g2 := e6 _ _ g2
          have g3 := e6 _ _ g3
          have g4 := e6 _ _ g4
          have g5 := e6 _ _ g5
          have s6 := s5.trans e6
          have q6 := e6 _ _ q5
          generalize upd G5 m6 (.lst [.ref m5]) = G6 at g1 g2 g3 g4 g5 g6 e6 s6 q6 ⊢
          have dz : denyD .sur (encS (e, sd, x)) = [⟨[], [], [(e, "most", x - 1)], []⟩] := by show [PD.mk [] [] [if sd = "least" then (e, "most", x - 1) else (e, "least", x + 1)] []] = _; rw [if_pos c]
          rw [dz]
          have n0 : H m6 = none := none_b9 s5 hm6
          walk_at "el"
          refine ⟨s6, m6, [m5], _, _, _, _, _, _, _, _, _, _, _, _, n0, g6, rfl, fun j t E hj hE => ?_, rfl⟩
          match j with
          | 0 => cases hj; cases hE; exact ⟨m1, m3, m4, [], [.ref m2], [], g5, g1, g3, g4, by simp, by simp, by simp, rfl, rows_nil9, rows_one (enc := encS) (x := (e, "most", x - 1)) g2, rows_nil9⟩
          | j + 1 => cases hj
        · rw [decide_eq_false c]
          walk_at "el"
          refine ⟨by show 3 ≤ sizeLine; decide, fun m2 hm2 => ?_⟩
          have e2 := nw_of hm2 (.tup [.int e, .str "least", .int (x + 1)])
          have g2 := upd_at hm2 (.tup [.int e, .str "least", .int (x + 1)])
          have g1 := e2 _ _ g1
          have s2 := s1.trans e2
          have q2 := e2 _ _ q1
          generalize upd G1 m2 (.tup [.int e, .str "least", .int (x + 1)]) = G2 at g1 g2 e2 s2 q2 ⊢
          walk_at "el"
          refine ⟨by show 1 ≤ sizeLine; decide, fun m3 hm3 => ?_⟩
          have e3 := nw_of hm3 (.lst [.ref m2])
          have g3 := upd_at hm3 (.lst [.ref m2])
          have g1 := e3 _ _ g1
          have g2 := e3 _ _ g2
          have s3 := s2.trans e3
          have q3 := e3 _ _ q2
          generalize upd G2 m3 (.lst [.ref m2]) = G3 at g1 g2 g3 e3 s3 q3 ⊢
          walk_at "el"
          refine ⟨by show 0 ≤ sizeLine; decide, fun m4 hm4 => ?_⟩
          have e4 := nw_of hm4 (.lst [])
          have g4 := upd_at hm4 (.lst [])
          have g1 := e4 _ _ g1
          have g2 := e4 _ _ g2
          have g3 := e4 _ _ g3
          have s4 := s3.trans e4
          have q4 := e4 _ _ q3
          generalize upd G3 m4 (.lst []) = G4 at g1 g2 g3 g4 e4 s4 q4 ⊢
          walk_at "el"
          refine ⟨by show 3 ≤ sizeLine; decide, fun m5 hm5 => ?_⟩
          have e5 := nw_of hm5 (.tup [.ref m1, .ref m3, .ref m4])
          have g5 := upd_at hm5 (.tup [.ref m1, .ref m3, .ref m4])
          have g1 := e5 _ _ g1
          have g2 := e5 _ _ g2
          have g3 := e5 _ _ g3
          have g4 := e5 _ _ g4
          have s5 := s4.trans e5
          have q5 := e5 _ _ q4
          generalize upd G4 m5 (.tup [.ref m1, .ref m3, .ref m4]) = G5 at g1 g2 g3 g4 g5 e5 s5 q5 ⊢
          walk_at "el"
          refine ⟨by show 1 ≤ sizeLine; decide, fun m6 hm6 => ?_⟩
          have e6 := nw_of hm6 (.lst [.ref m5])
          have g6 := upd_at hm6 (.lst [.ref m5])
          have g1 := e6 _ _ g1
          have g2 := e6 _ _ g2
          have g3 := e6 _ _ g3
          have g4 := e6 _ _ g4
          have g5 := e6 _ _ g5
          have s6 := s5.trans e6
          have q6 := e6 _ _ q5
          generalize upd G5 m6 (.lst [.ref m5]) = G6 at g1 g2 g3 g4 g5 g6 e6 s6 q6 ⊢
          have dz : denyD .sur (encS (e, sd, x)) = [⟨[], [], [(e, "least", x + 1)], []⟩] := by show [PD.mk [] [] [if sd = "least" then (e, "most", x - 1) else (e, "least", x + 1)] []] = _; rw [if_neg c]
          rw [dz]
          have n0 : H m6 = none := none_b9 s5 hm6
          walk_at "el"
          refine ⟨s6, m6, [m5], _, _, _, _, _, _, _, _, _, _, _, _, n0, g6, rfl, fun j t E hj hE => ?_, rfl⟩
          match j with
          | 0 => cases hj; cases hE; exact ⟨m1, m3, m4, [], [.ref m2], [], g5, g1, g3, g4, by simp, by simp, by simp, rfl, rows_nil9, rows_one (enc := encS) (x := (e, "least", x + 1)) g2, rows_nil9⟩
          | j + 1 => cases hj
      · obtain ⟨q', ⟨w', sk, v, so⟩, e1, hq2, _⟩ := item_cla_inv hi
        cases e1
        rw [hq] at hq2; cases hq2
        rw [show ixP .cla = 3 from rfl]
        walk_at "el"
        rw [if_neg (by decide)]
        walk_at "el"
        rw [if_neg (by decide)]
        walk_at "el"
        rw [if_neg (by decide)]
        walk_at "el"
        refine a_gtup (SqT.of hq) rfl ?_
        walk_at "el"
        refine ⟨_, rfl, ?_⟩
        walk_at "el"
        refine ⟨_, rfl, ?_⟩
        walk_at "el"
        refine ⟨by show 0 ≤ sizeLine; decide, fun m1 hm1 => ?_⟩
        have e1 := nw_of hm1 (.lst [])
        have g1 := upd_at hm1 (.lst [])
        have s1 := e1
        have q1 := e1 _ _ hq
        generalize upd H m1 (.lst []) = G1 at g1 e1 s1 q1 ⊢
        walk_at "el"
        refine ⟨by show 0 ≤ sizeLine; decide, fun m2 hm2 => ?_⟩
        have e2 := nw_of hm2 (.lst [])
        have g2 := upd_at hm2 (.lst [])
        have g1 := e2 _ _ g1
        have s2 := s1.trans e2
        have q2 := e2 _ _ q1
        generalize upd G1 m2 (.lst []) = G2 at g1 g2 e2 s2 q2 ⊢
        walk_at "el"
        refine ⟨by show 4 ≤ sizeLine; decide, fun m3 hm3 => ?_⟩
        have e3 := nw_of hm3 (.tup [.int w', .str (otherK sk), .int w', .str (otherK sk)])
        have g3 := upd_at hm3 (.tup [.int w', .str (otherK sk), .int w', .str (otherK sk)])
        have g1 := e3 _ _ g1
        have g2 := e3 _ _ g2
        have s3 := s2.trans e3
        have q3 := e3 _ _ q2
        generalize upd G2 m3 (.tup [.int w', .str (otherK sk), .int w', .str (otherK sk)]) = G3 at g1 g2 g3 e3 s3 q3 ⊢
        walk_at "el"
        refine ⟨by show 4 ≤ sizeLine; decide, fun m4 hm4 => ?_⟩
        have e4 := nw_of hm4 (.tup [.int v, .str (otherK so), .int v, .str (otherK so)])
        have g4 := upd_at hm4 (.tup [.int v, .str (otherK so), .int v, .str (otherK so)])
        have g1 := e4 _ _ g1
        have g2 := e4 _ _ g2
        have g3 := e4 _ _ g3
        have s4 := s3.trans e4
        have q4 := e4 _ _ q3
        generalize upd G3 m4 (.tup [.int v, .str (otherK so), .int v, .str (otherK so)]) = G4 at g1 g2 g3 g4 e4 s4 q4 ⊢
        walk_at "el"
        refine ⟨by show 2 ≤ sizeLine; decide, fun m5 hm5 => ?_⟩
        have e5 := nw_of hm5 (.lst [.ref m3, .ref m4])
        have g5 := upd_at hm5 (.lst [.ref m3, .ref m4])
        have g1 := e5 _ _ g1
        have g2 := e5 _ _ g2
        have g3 := e5 _ _ g3
        have g4 := e5 _ _ g4
        have s5 := s4.trans e5
        have q5 := e5 _ _ q4
        generalize upd G4 m5 (.lst [.ref m3, .ref m4]) = G5 at g1 g2 g3 g4 g5 e5 s5 q5 ⊢
        walk_at "el"
        refine ⟨by show 3 ≤ sizeLine; decide, fun m6 hm6 => ?_⟩
        have e6 := nw_of hm6 (.tup [.ref m1, .ref m2, .ref m5])
        have g6 := upd_at hm6 (.tup [.ref m1, .ref m2, .ref m5])
        have g1 := e6 _ _ g1
        have g2 := e6 _ _ g2
        have g3 := e6 _ _ g3
        have g4 := e6 _ _ g4
        have g5 := e6 _ _ g5
        have s6 := s5.trans e6
        have q6 := e6 _ _ q5
        generalize upd G5 m6 (.tup [.ref m1, .ref m2, .ref m5]) = G6 at g1 g2 g3 g4 g5 g6 e6 s6 q6 ⊢
        walk_at "el"
        refine ⟨by show 1 ≤ sizeLine; decide, fun m7 hm7 => ?_⟩
        have e7 := nw_of hm7 (.lst [.ref m6])
        have g7 := upd_at hm7 (.lst [.ref m6])
        have g1 := e7 _ _ g1
        have g2 := e7 _ _ g2
        have g3 := e7 _ _ g3
        have g4 := e7 _ _ g4
        have g5 := e7 _ _ g5
        have g6 := e7 _ _ g6
        have s7 := s6.trans e7
        have q7 := e7 _ _ q6
        generalize upd G6 m7 (.lst [.ref m6]) = G7 at g1 g2 g3 g4 g5 g6 g7 e7 s7 q7 ⊢
        have n0 : H m7 = none := none_b9 s6 hm7
        walk_at "el"
        refine ⟨s7, m7, [m6], _, _, _, _, _, _, _, _, _, _, _, _, n0, g7, rfl, fun j t E hj hE => ?_, rfl⟩
        match j with
        | 0 => cases hj; cases hE; exact ⟨m1, m2, m5, [], [], [.ref m3, .ref m4], g6, g1, g2, g5, by simp, by simp, by simp, rfl, rows_nil9, rows_nil9, rows_two9 (enc := encL) (x := (w', otherK sk, w', otherK sk)) (y := (v, otherK so, v, otherK so)) g3 g4⟩
        | j + 1 => cases hj
    · rintro σ' H1 ⟨s1, fo, ts, v3, v4, v5, v7, v8, v9, v10, v11, v12, v13, v14, v15, nf, hfo, lt, hT, rfl⟩
      have hL1 := hL.same s1
      have e2 : (denyD u zs).length ≤ 2 := deny_len
      walk_at "el"
      refine a_iSeq (.inl ?_)
      walk_at "el"
      refine ⟨fo, rfl, ⟨_, SqL.of hfo⟩, fun D0 hD0 => ?_⟩
      have nb : b ≠ D0 := fun z => by rw [z] at hb; have := s1 _ _ hb; rw [this] at hD0; cases hD0
      have e3 := nw_of hD0 (.lst [])
      refine lc_of (walk_list (xs := ts.map V.ref)) (fun i H3 => Same H1 H3 ∧ ∃ ps : List Addr, H3 D0 = some (.lst (ps.map V.ref)) ∧ ps.length = i ∧ ∀ (j : Nat) (p' : Addr) (E : PD), ps[j]? = some p' → (denyD u zs)[j]? = some E → ∃ l' xs', LP H3 b p' l' xs' (catD D E) ∧ p' ≠ D0 ∧ ∀ u, l' u ≠ D0) ⟨e3, [], upd_same, rfl, fun j p' E h => by cases h⟩ (fun i H3 hi h => SqL.of (h.1 _ _ hfo)) ?_ ?_
      · rintro i x H3 H4 hi ⟨s3, ps, hD3, lp, hP⟩ ⟨rfl, hx⟩
        rw [List.getElem?_map] at hx
        rw [List.length_map] at hi
        obtain ⟨t, et⟩ : ∃ t, ts[i]? = some t := ⟨_, List.getElem?_eq_getElem hi⟩
        rw [et] at hx; cases hx
        have hil : i < (denyD u zs).length := by rw [← lt]; exact hi
        have hE0 := List.getElem?_eq_getElem hil
        generalize (denyD u zs)[i] = E0 at hE0
        obtain ⟨g, z, c, gs, ss, cs, h1, h2, h3, h4, l1, l2, l3, eT, r1, r2, r3⟩ := (hT i t E0 et hE0).same s3
        have hL3 := hL1.same s3
        have t22 := h22 .gap; have t23 := h22 .sur; have t24 := h22 .cla
        walk_at "el"
        refine a_gtup (SqT.of h1) rfl ?_
        walk_at "el"
        refine ⟨rfl, ?_⟩
        walk_at "el"
        refine n_ixL (SqL.of hL3.hp) (show atI [V.ref (l .tel), V.ref (l .gap), V.ref (l .sur), V.ref (l .cla)] 0 = some (V.ref (l .tel)) from rfl) ?_
        walk_at "el"
        refine n_ixL (SqL.of hL3.hp) (show atI [V.ref (l .tel), V.ref (l .gap), V.ref (l .sur), V.ref (l .cla)] 1 = some (V.ref (l .gap)) from rfl) ?_
        walk_at "el"
        refine n_cat (hL3.hl .gap) h2 (Nat.le_trans (m := 24) (by omega) (by decide)) fun n1 hn1 => ?_
        have f1 := nw_of hn1 (.lst (xs .gap ++ gs))
        have k1 := upd_at hn1 (.lst (xs .gap ++ gs))
        have hL4 := hL3.same f1
        have h3' := f1 _ _ h3
        have h4' := f1 _ _ h4
        generalize upd H4 n1 (.lst (xs .gap ++ gs)) = H5 at f1 k1 hL4 h3' h4' ⊢
        walk_at "el"
        refine n_ixL (SqL.of hL4.hp) (show atI [V.ref (l .tel), V.ref (l .gap), V.ref (l .sur), V.ref (l .cla)] 2 = some (V.ref (l .sur)) from rfl) ?_
        walk_at "el"
        refine n_cat (hL4.hl .sur) h3' (Nat.le_trans (m := 24) (by omega) (by decide)) fun n2 hn2 => ?_
        have f2 := nw_of hn2 (.lst (xs .sur ++ ss))
        have k2 := upd_at hn2 (.lst (xs .sur ++ ss))
        have k1 := f2 _ _ k1
        have hL5 := hL4.same f2
        have h4'' := f2 _ _ h4'
        generalize upd H5 n2 (.lst (xs .sur ++ ss)) = H6 at f2 k1 k2 hL5 h4'' ⊢
        walk_at "el"
        refine n_ixL (SqL.of hL5.hp) (show atI [V.ref (l .tel), V.ref (l .gap), V.ref (l .sur), V.ref (l .cla)] 3 = some (V.ref (l .cla)) from rfl) ?_
        walk_at "el"
        refine n_cat (hL5.hl .cla) h4'' (Nat.le_trans (m := 24) (by omega) (by decide)) fun n3 hn3 => ?_
        have f3 := nw_of hn3 (.lst (xs .cla ++ cs))
        have k3 := upd_at hn3 (.lst (xs .cla ++ cs))
        have k1 := f3 _ _ k1
        have k2 := f3 _ _ k2
        have hL6 := hL5.same f3
        generalize upd H6 n3 (.lst (xs .cla ++ cs)) = H7 at f3 k1 k2 k3 hL6 ⊢
        walk_at "el"
        refine ⟨by show 4 ≤ sizeLine; decide, fun n4 hn4 => ?_⟩
        have f4 := nw_of hn4 (.lst [.ref (l .tel), .ref n1, .ref n2, .ref n3])
        have k4 := upd_at hn4 (.lst [.ref (l .tel), .ref n1, .ref n2, .ref n3])
        have k1 := f4 _ _ k1
        have k2 := f4 _ _ k2
        have k3 := f4 _ _ k3
        have hL7 := hL6.same f4
        have s7 : Same H4 (upd H7 n4 (.lst [.ref (l .tel), .ref n1, .ref n2, .ref n3])) := ((f1.trans f2).trans f3).trans f4
        have d1 : n1 ≠ D0 := fun z => by rw [z, hD3] at hn1; cases hn1
        have d2 : n2 ≠ D0 := fun z => by rw [z, f1 _ _ hD3] at hn2; cases hn2
        have d3 : n3 ≠ D0 := fun z => by rw [z, (f1.trans f2) _ _ hD3] at hn3; cases hn3
        have d4 : n4 ≠ D0 := fun z => by rw [z, ((f1.trans f2).trans f3) _ _ hD3] at hn4; cases hn4
        have b3 : H4 b = some ob := s3 _ _ (s1 _ _ hb)
        have c1 : n1 ≠ b := fun z => by rw [z, b3] at hn1; cases hn1
        have c2 : n2 ≠ b := fun z => by rw [z, f1 _ _ b3] at hn2; cases hn2
        have c3 : n3 ≠ b := fun z => by rw [z, (f1.trans f2) _ _ b3] at hn3; cases hn3
        have c4 : n4 ≠ b := fun z => by rw [z, ((f1.trans f2).trans f3) _ _ b3] at hn4; cases hn4
        generalize upd H7 n4 (.lst [.ref (l .tel), .ref n1, .ref n2, .ref n3]) = H8 at f4 k1 k2 k3 k4 hL7 s7 ⊢
        have hD8 := s7 _ _ hD3
        have r1 := r1.same s7
        have r2 := r2.same s7
        have r3 := r3.same s7
        have kl : KL [D0] H8 (upd H8 D0 (.lst (ps.map V.ref ++ [.ref n4]))) := KL.refl.put (List.mem_singleton.mpr rfl) fun o ho => ⟨_, Option.some.inj (ho.symm.trans hD8)⟩
        have kn : ∀ {a : Addr}, a ≠ D0 → a ∉ [D0] := fun h z => h (List.mem_singleton.mp z)
        have dl : ∀ u, l u ≠ D0 := fun u z => by have := hL1.hl u; rw [z, hD0] at this; cases this
        refine ⟨_, hD8, by rw [List.length_map, lp]; exact Nat.lt_of_lt_of_le hil (Nat.le_trans e2 (by decide)), (s3.trans s7).mu hD0, ps ++ [n4], by rw [upd_same, List.map_append]; rfl, by rw [List.length_append, lp]; rfl, fun j p' E hj hE => ?_⟩
        by_cases c : j < ps.length
        · rw [List.getElem?_append_left c] at hj
          obtain ⟨l', xs', L', w1, w2⟩ := hP j p' E hj hE
          have L' := L'.same s7
          exact ⟨l', xs', ⟨kl.out L'.hp (kn w1), L'.np, fun u => kl.out (L'.hl u) (kn (w2 u)), L'.nl, L'.r.kl kl⟩, w1, w2⟩
        · rw [List.getElem?_append_right (by omega)] at hj
          have ej : j = i := by
            have := (List.getElem?_eq_some_iff.mp hj).1
            rw [List.length_singleton] at this
            omega
          subst ej
          rw [lp, Nat.sub_self] at hj
          cases hj
          rw [hE0] at hE
          cases hE
          have R7 := hL7.r
          refine ⟨lOf (l .tel) n1 n2 n3, exV (xs .tel) (xs .gap ++ gs) (xs .sur ++ ss) (xs .cla ++ cs), ⟨kl.out k4 (kn d4), c4, fun u => ?_, fun u => ?_, ?_⟩, d4, fun u => ?_⟩
          · cases u
            · exact kl.out (hL7.hl .tel) (kn (dl .tel))
            · exact kl.out k1 (kn d1)
            · exact kl.out k2 (kn d2)
            · exact kl.out k3 (kn d3)
          · cases u
            · exact hL7.nl .tel
            · exact c1
            · exact c2
            · exact c3
          · refine PR.kl kl ⟨?_, rows_cat R7.g r1, rows_cat R7.s r2, rows_cat R7.l r3⟩
            show RowsAre encT H8 (xs .tel) (D.T ++ E0.T)
            rw [eT, List.append_nil]
            exact R7.t
          · cases u
            · exact dl .tel
            · exact d1
            · exact d2
            · exact d3
      · rintro H3 ⟨s3, ps, hD3, lp, hP⟩
        rw [List.length_map] at lp
        walk_at "el"
        exact k _ ps H3 (s1.trans s3) (none_b9 s1 hD0) hD3 ⟨lp.trans lt, fun j p' E hj hE => let ⟨l', xs', h, _⟩ := hP j p' E hj hE; ⟨l', xs', h⟩⟩
end
end EL

/- part K81H -/
namespace EL
open PySem PySem.Spec PyProof.Rows L2
open PySem.W (Frag)
abbrev s_book : Stmt := top 45
abbrev N_book : List Str := ["_law_events", "_law_witnesses", "_law_parts_here"]
theorem sc_book : FnScope N_book ["_law_events", "_law_witnesses", "_law_parts_here"] (defScope s_book) := ⟨rfl, rfl, rfl, by decide +kernel, rfl, by decide +kernel, by decide +kernel⟩
local macro_rules | `(tactic| walk_at "el1") => `(tactic| with_reducible first
  | refine a_sasg ?_ | refine a_sdrop ?_ | refine a_saugS ?_ | refine a_spar ?_ | refine a_seq ?_ | refine a_asg ?_ | refine a_drop ?_ | refine a_ret ?_ | refine a_if ?_ | refine a_next ?_
  | refine a_op ?_ | refine a_cons ?_ | refine a_nil ?_ | refine a_cb ?_ | refine a_call ?_ | refine a_c ?_ | refine a_gn ?_ | refine a_nx ?_ | refine a_rt ?_ | refine a_un ?_
  | refine a_test ?_ | refine a_B ?_ | refine a_bl ?_ | refine a_and ?_ | refine a_or ?_ | refine a_not ?_ | refine a_andV ?_ | refine a_orV ?_ | refine a_notV ?_ | refine a_ifx ?_ | refine a_chain ?_
  | refine a_nT ?_ | refine a_nF ?_ | refine a_fld ?_ | refine a_getF ?_ | refine a_T ?_ | refine a_F ?_ | refine a_tup ?_ | refine a_lst ?_ | refine a_sub ?_ | refine a_augS ?_ | refine a_two ?_ | refine a_I0 ?_ | refine a_U ?_ | refine n_add ?_ | refine n_int ?_ | refine n_ib ?_ | refine a_ip ?_ | refine a_rng1 ?_ | refine a_rng2 ?_ | refine a_bm ?_ | refine a_abs ?_ | refine a_pairs ?_ | refine a_pairs0 ?_ | refine a_bk ?_ | refine a_prp ?_ | refine a_lc ?_ | refine a_yes ?_ | refine a_sl ?_ | refine a_nop ?_ | refine a_prt ?_ | refine a_ex1 ?_ | refine a_for ?_ | refine a_sfor ?_ | refine a_iE1 ?_ | refine a_iEs ?_ | refine a_iEz ?_ | refine a_iEnum ?_ | refine a_iTup ?_ | refine a_iList ?_ | refine a_gcons ?_ | refine a_gnil ?_ | refine a_revT ?_ | refine a_spar3 ?_ | refine a_par3 ?_ | refine a_three ?_)
local macro_rules | `(tactic| walk_at "el2") => `(tactic| first
  | (refine a_var (by rfl) ?_)
  | (refine n_ixL (SqL.of (by assumption)) (by rfl) ?_) | (refine n_ixT (SqT.of (by assumption)) (by rfl) ?_) | (refine n_eq (by rfl) ?_) | (refine n_ne (by rfl) ?_)
  | (refine n_isN ?_) | (refine n_notN ?_) | (refine n_isB ?_) | (refine n_notB ?_) | (refine n_isBI ?_) | (refine n_notBI ?_) | (refine n_len (.inl (SqL.of (by assumption))) ?_) | (refine n_len (.inr (SqT.of (by assumption))) ?_)
  | (refine a_getL (SqL.of (by assumption)) (by rfl) ?_)
  | (refine n_isInt (by assumption) ?_) | (refine n_isBool (by assumption) ?_) | (refine n_isStr (by assumption) ?_) | (refine n_isTup (by assumption) ?_) | (refine n_isLst (by assumption) ?_))
local macro_rules | `(tactic| walk_at "el") => `(tactic| repeat (first | walk_at "el1" | walk_at "el2"))

/-! ### the signs of what repr tells of a book -/
def okS9 (z : Str) : Prop := ∀ c ∈ z.cps.toList, c < 1114112
theorem strs_shp {zs : List Str} (h : ∀ z ∈ zs, okS9 z) : SeqAt.shaped (.list (zs.map PyData.str)) = true := by
  have a : PyData.canLayAll0 (zs.map PyData.str) = true := by
    induction zs with
    | nil => rfl
    | cons z r ih =>
      have hz : PyData.strOk z = true := by
        unfold PyData.strOk
        rw [Array.all_eq_true']
        exact fun x hx => decide_eq_true (h z List.mem_cons_self x (by simpa using hx))
      show (PyData.strOk z && PyData.canLayAll0 (r.map PyData.str)) = true
      rw [hz, ih fun x hx => h x (List.mem_cons_of_mem _ hx)]; rfl
  have b : PyData.depthAll (zs.map PyData.str) ≤ 0 := by
    clear h a
    induction zs with
    | nil => exact Nat.le_refl _
    | cons z r ih =>
      show max 0 (PyData.depthAll (r.map PyData.str)) ≤ 0
      exact Nat.max_le.mpr ⟨Nat.le_refl _, ih⟩
  show (PyData.canLayAll0 (zs.map PyData.str) && decide (PyData.depthAll (zs.map PyData.str) + 1 ≤ 64)) = true
  rw [a, decide_eq_true (by omega)]; rfl
theorem dp_strs9 {K : Frag} {H : Hp} : ∀ zs : List Str, DpAll K H (zs.map V.str) (zs.map PyData.str)
  | [] => .nil
  | z :: r => .cons (.str z) (dp_strs9 r)
section
variable {k : Nat} (hk : 1114112 ≤ k)
include hk
theorem free_all {xs : List PyData} (h : ∀ x ∈ xs, k ∉ x.shown.cps.toList) : k ∉ (Str.join ", " (PyData.shownAll xs)).cps.toList := fun z => by
  rcases (mem_join _ _ _).mp z with ⟨t, ht, hc⟩ | ⟨_, hc⟩
  · exact shownAll_free h t ht hc
  · rw [signs_sep] at hc
    simp only [List.mem_cons, List.not_mem_nil, or_false] at hc
    omega
theorem free_list {xs : List PyData} (h : ∀ x ∈ xs, k ∉ x.shown.cps.toList) : k ∉ (PyData.list xs).shown.cps.toList := fun z => by
  rw [PyData.shown_list, mem_cps_append, mem_cps_append, signs_lbrack, signs_rbrack] at z
  rcases z with (z | z) | z
  · simp only [List.mem_cons, List.not_mem_nil, or_false] at z; omega
  · exact free_all hk h z
  · simp only [List.mem_cons, List.not_mem_nil, or_false] at z; omega
theorem free_tuple {xs : List PyData} (h : ∀ x ∈ xs, k ∉ x.shown.cps.toList) : k ∉ (PyData.tuple xs).shown.cps.toList := fun z => by
  rw [PyData.shown_tuple, mem_cps_append, mem_cps_append, signs_lparen, signs_tuple_end] at z
  rcases z with (z | z) | z
  · simp only [List.mem_cons, List.not_mem_nil, or_false] at z; omega
  · exact free_all hk h z
  · split at z
    · simp only [List.mem_cons, List.not_mem_nil, or_false] at z; omega
    · simp only [List.mem_cons, List.not_mem_nil, or_false] at z; omega
theorem free_int (i : Int) : k ∉ (PyData.int i).shown.cps.toList := shown_int_free' ⟨by omega, .inr (by omega)⟩ i
theorem free_word {s : Str} (h : s = "early" ∨ s = "late" ∨ s = "least" ∨ s = "most") : k ∉ (PyData.str s).shown.cps.toList := fun z => by
  have w : ∀ s : Str, s = "early" ∨ s = "late" ∨ s = "least" ∨ s = "most" → ∀ c ∈ (PyData.str s).shown.cps.toList, c < 200 := fun s h => by rcases h with rfl | rfl | rfl | rfl <;> decide +kernel
  have := w s h k z
  omega
end
theorem shown_ok {D : PD} {ev wi : Int} (ok : D.Ok ev wi) : okS9 (bookD D ev wi).shown := fun c hc => by
  by_cases h : c < 1114112
  · exact h
  · have hk : 1114112 ≤ c := by omega
    refine absurd hc (free_list hk (all_cons (free_int hk _) (all_cons (free_int hk _) (all_cons (free_tuple hk fun d hd => ?_) (all_cons (free_tuple hk fun d hd => ?_) (all_cons (free_tuple hk fun d hd => ?_) (all_cons (free_tuple hk fun d hd => ?_) all_nil)))))))
    · obtain ⟨x, hx, rfl⟩ := List.mem_map.mp hd
      exact free_tuple hk (all_cons (free_int hk _) (all_cons (free_int hk _) (all_cons (free_int hk _) all_nil)))
    · obtain ⟨x, hx, rfl⟩ := List.mem_map.mp hd
      exact free_tuple hk (all_cons (free_int hk _) (all_cons (free_int hk _) (all_cons (free_int hk _) all_nil)))
    · obtain ⟨x, hx, rfl⟩ := List.mem_map.mp hd
      have o := ok.s x hx
      exact free_tuple hk (all_cons (free_int hk _) (all_cons (free_word hk (o.2.1.elim (fun h => .inr (.inr (.inl h))) fun h => .inr (.inr (.inr h)))) (all_cons (free_int hk _) all_nil)))
    · obtain ⟨x, hx, rfl⟩ := List.mem_map.mp hd
      have o := ok.l x hx
      exact free_tuple hk (all_cons (free_int hk _) (all_cons (free_word hk (o.2.1.elim .inl fun h => .inr (.inl h))) (all_cons (free_int hk _) (all_cons (free_word hk (o.2.2.2.elim .inl fun h => .inr (.inl h))) all_nil))))
section
variable {P : Program} {w : World} {K : Frag} {mg : Str → Option Value} {base : Heap} {f : Addr} {fd : FuncData} {C : Addr} {Dk : BookD}
theorem ok_lbook (F : Fun K "_law_book" "_law_book" s_book f fd) (T : Tb mg) (c_Book : BookG P w K mg base C Dk) : FnOk P w K mg base CX0 9 f fd ["_law_events", "_law_witnesses", "_law_parts_here"] (spMade K C) := by
  refine F.ok sc_book (fun vs H Q E h => ?_) (fun cdv A outer s H vs Q E hr h => ?_)
  · obtain ⟨_, _, _, _, _, rfl, _⟩ := h
    rfl
  · obtain ⟨ev, wi, p, l, xs, rfl, e0, e8, w0, w8, hp, ok, k⟩ := h
    refine ⟨_, (pss_one (ps_ret (pe_bk6 c_Book (hr.mono (by decide)) rfl (pa_cons (pv 0) (pa_cons (pv 1) (pa_cons (pe_ix ix_seq (pv 2) pe_int (fun _ _ => rfl)) (pa_cons (pe_ix ix_seq (pv 2) pe_int (fun _ _ => rfl)) (pa_cons (pe_ix ix_seq (pv 2) pe_int (fun _ _ => rfl)) (pa_cons (pe_ix ix_seq (pv 2) pe_int (fun _ _ => rfl)) pa_nil))))))))), ?_⟩
    walk_at "el"
    refine n_bk6 e0 e8 w0 w8 (ok .tel) (ok .gap) (ok .sur) (ok .cla) fun o dx t g s q H' s' ho ho' h1 h2 h3 h4 => ?_
    exact k H' o dx t g s q s' ho' h1 h2 h3 h4
end
/-! ### what the contraries say is right -/
theorem pd_cat {D E : PD} {ev wi : Int} (h : D.Ok ev wi) (k : E.Ok ev wi) : (catD D E).Ok ev wi := ⟨fun x hx => (List.mem_append.mp hx).elim (h.t x) (k.t x), fun x hx => (List.mem_append.mp hx).elim (h.g x) (k.g x), fun x hx => (List.mem_append.mp hx).elim (h.s x) (k.s x), fun x hx => (List.mem_append.mp hx).elim (h.l x) (k.l x)⟩
theorem deny_ok {H : Hp} {u : Pt} {q : Addr} {zs : List V} {ev wi : Int} (hq : H q = some (.tup zs)) (hi : ItemOk u H (.ref q) ev wi) (hb : Below H (.ref q)) : ∀ E ∈ denyD u zs, E.Ok ev wi ∧ E.T.length ≤ 2 ∧ E.G.length ≤ 2 ∧ E.S.length ≤ 2 ∧ E.L.length ≤ 2 := by
  cases u
  · obtain ⟨q', ⟨w, e, x⟩, e1, hq2, w0, a0, _⟩ := item_tel_inv hi
    cases e1
    rw [hq] at hq2; cases hq2
    obtain ⟨g0, g1⟩ := hb _ _ x rfl hq (by simp)
    exact all_cons ⟨⟨all_nil, all_nil, all_cons ⟨a0, .inr rfl, by show _ ≤ x - 1; omega, by show x - 1 ≤ _; omega⟩ all_nil, all_cons ⟨w0, .inl rfl, w0, .inl rfl⟩ all_nil⟩, by simp, by simp, by simp, by simp⟩ (all_cons ⟨⟨all_nil, all_nil, all_cons ⟨a0, .inl rfl, by show _ ≤ x + 1; omega, by show x + 1 ≤ _; omega⟩ all_nil, all_cons ⟨w0, .inr rfl, w0, .inr rfl⟩ all_nil⟩, by simp, by simp, by simp, by simp⟩ all_nil)
  · obtain ⟨q', a, b, g, e1, hq2, a0, a1, b0, b1, ne⟩ := item_gap_inv hi
    cases e1
    rw [hq] at hq2; cases hq2
    obtain ⟨g0, g1⟩ := hb _ _ g rfl hq (by simp)
    exact all_cons ⟨⟨all_nil, all_cons ⟨⟨b0, b1⟩, ⟨a0, a1⟩, by show _ ≤ 1 - g; omega, by show 1 - g ≤ _; omega⟩ all_nil, all_nil, all_nil⟩, by simp, by simp, by simp, by simp⟩ all_nil
  · obtain ⟨q', ⟨e, sd, x⟩, e1, hq2, a0, hs, _⟩ := item_sur_inv hi
    cases e1
    rw [hq] at hq2; cases hq2
    obtain ⟨g0, g1⟩ := hb _ _ x rfl hq (by simp)
    refine all_cons ⟨⟨all_nil, all_nil, all_cons ?_ all_nil, all_nil⟩, by simp, by simp, by simp, by simp⟩ all_nil
    by_cases c : sd = "least"
    · show (0 ≤ (if sd = "least" then (e, ("most" : Str), x - 1) else (e, "least", x + 1)).1 ∧ _) ∧ _
      rw [if_pos c]
      exact ⟨a0, .inr rfl, by show _ ≤ x - 1; omega, by show x - 1 ≤ _; omega⟩
    · show (0 ≤ (if sd = "least" then (e, ("most" : Str), x - 1) else (e, "least", x + 1)).1 ∧ _) ∧ _
      rw [if_neg c]
      exact ⟨a0, .inl rfl, by show _ ≤ x + 1; omega, by show x + 1 ≤ _; omega⟩
  · obtain ⟨q', ⟨w, sk, v, so⟩, e1, hq2, w0, _, v0, _⟩ := item_cla_inv hi
    cases e1
    rw [hq] at hq2; cases hq2
    exact all_cons ⟨⟨all_nil, all_nil, all_nil, all_cons ⟨w0, otherK_ok9, w0, otherK_ok9⟩ (all_cons ⟨v0, otherK_ok9, v0, otherK_ok9⟩ all_nil)⟩, by simp, by simp, by simp, by simp⟩ all_nil
end EL

/- part K81L -/
namespace EL
open PySem PySem.Spec PyProof.Rows L2
open PySem.W (Frag)
abbrev s_law : Stmt := top 50
abbrev N_law : List Str := ["_law_script", "_law_bag_here", "_law_trip", "_law_events", "_law_witnesses", "_law_parts_here", "_law_more", "_law_part", "_law_book_here", "_law_sort", "_law_item", "_law_due_here", "_law_some", "_law_again", "_law_told", "_law_one_here"]
theorem sc_law : FnScope N_law ["_law_script"] (defScope s_law) := ⟨rfl, rfl, rfl, by decide +kernel, rfl, by decide +kernel, by decide +kernel⟩
local macro_rules | `(tactic| walk_at "el1") => `(tactic| with_reducible first
  | refine a_sasg ?_ | refine a_sdrop ?_ | refine a_saugS ?_ | refine a_spar ?_ | refine a_seq ?_ | refine a_asg ?_ | refine a_drop ?_ | refine a_ret ?_ | refine a_if ?_ | refine a_next ?_
  | refine a_op ?_ | refine a_cons ?_ | refine a_nil ?_ | refine a_cb ?_ | refine a_call ?_ | refine a_c ?_ | refine a_gn ?_ | refine a_nx ?_ | refine a_rt ?_ | refine a_un ?_
  | refine a_test ?_ | refine a_B ?_ | refine a_bl ?_ | refine a_and ?_ | refine a_or ?_ | refine a_not ?_ | refine a_andV ?_ | refine a_orV ?_ | refine a_notV ?_ | refine a_ifx ?_ | refine a_chain ?_
  | refine a_nT ?_ | refine a_nF ?_ | refine a_fld ?_ | refine a_getF ?_ | refine a_T ?_ | refine a_F ?_ | refine a_tup ?_ | refine a_lst ?_ | refine a_sub ?_ | refine a_augS ?_ | refine a_two ?_ | refine a_I0 ?_ | refine a_U ?_ | refine n_add ?_ | refine n_int ?_ | refine n_ib ?_ | refine a_ip ?_ | refine a_rng1 ?_ | refine a_rng2 ?_ | refine a_bm ?_ | refine a_abs ?_ | refine a_pairs ?_ | refine a_pairs0 ?_ | refine a_bk ?_ | refine a_prp ?_ | refine a_lc ?_ | refine a_yes ?_ | refine a_sl ?_ | refine a_nop ?_ | refine a_prt ?_ | refine a_ex1 ?_ | refine a_for ?_ | refine a_sfor ?_ | refine a_iE1 ?_ | refine a_iEs ?_ | refine a_iEz ?_ | refine a_iEnum ?_ | refine a_iTup ?_ | refine a_iList ?_ | refine a_gcons ?_ | refine a_gnil ?_ | refine a_revT ?_ | refine a_spar3 ?_ | refine a_par3 ?_ | refine a_three ?_)
local macro_rules | `(tactic| walk_at "el2") => `(tactic| first
  | (refine a_var (by rfl) ?_)
  | (refine n_ixL (SqL.of (by assumption)) (by rfl) ?_) | (refine n_ixT (SqT.of (by assumption)) (by rfl) ?_) | (refine n_eq (by rfl) ?_) | (refine n_ne (by rfl) ?_)
  | (refine n_isN ?_) | (refine n_notN ?_) | (refine n_isB ?_) | (refine n_notB ?_) | (refine n_isBI ?_) | (refine n_notBI ?_) | (refine n_len (.inl (SqL.of (by assumption))) ?_) | (refine n_len (.inr (SqT.of (by assumption))) ?_)
  | (refine a_getL (SqL.of (by assumption)) (by rfl) ?_)
  | (refine n_isInt (by assumption) ?_) | (refine n_isBool (by assumption) ?_) | (refine n_isStr (by assumption) ?_) | (refine n_isTup (by assumption) ?_) | (refine n_isLst (by assumption) ?_))
local macro_rules | `(tactic| walk_at "el") => `(tactic| repeat (first | walk_at "el1" | walk_at "el2"))

theorem ints_mem {js : List Int} {x : V} {P : Int → Prop} (h : x ∈ js.map V.int) (hp : ∀ j ∈ js, P j) : ∃ z, x = .int z ∧ P z := by
  obtain ⟨j, hj, rfl⟩ := List.mem_map.mp h
  exact ⟨j, rfl, hp j hj⟩
def ptAt : Nat → Pt | 0 => .tel | 1 => .gap | 2 => .sur | _ => .cla
abbrev cut20 (xs : List V) : List V := cutV (List.replicate (20 : Int).toNat xs).flatten none (some 20)
theorem cut20_ok {xs : List V} : (∀ x ∈ cut20 xs, x ∈ xs) ∧ (cut20 xs).length ≤ 20 := by
  have e : (20 : Int) = ((20 : Nat) : Int) := rfl
  unfold cut20
  rw [e, cut_to]
  refine ⟨fun x hx => ?_, by rw [List.length_take]; exact Nat.min_le_left ..⟩
  obtain ⟨ys, hy, hx⟩ := List.mem_flatten.mp (List.mem_of_mem_take hx)
  rw [(List.mem_replicate.mp hy).2] at hx
  exact hx
theorem ln_cat {D E : PD} (h : D.T.length ≤ 20 ∧ D.G.length ≤ 20 ∧ D.S.length ≤ 20 ∧ D.L.length ≤ 20) (k : E.T.length ≤ 2 ∧ E.G.length ≤ 2 ∧ E.S.length ≤ 2 ∧ E.L.length ≤ 2) : Ln (catD D E) := by
  obtain ⟨a, b, c, d⟩ := h
  obtain ⟨a', b', c', d'⟩ := k
  refine ⟨?_, ?_, ?_, ?_⟩
  · show (D.T ++ E.T).length ≤ 100; rw [List.length_append]; omega
  · show (D.G ++ E.G).length ≤ 100; rw [List.length_append]; omega
  · show (D.S ++ E.S).length ≤ 100; rw [List.length_append]; omega
  · show (D.L ++ E.L).length ≤ 100; rw [List.length_append]; omega
theorem ln_w {D : PD} (h : D.T.length ≤ 20 ∧ D.G.length ≤ 20 ∧ D.S.length ≤ 20 ∧ D.L.length ≤ 20) : Ln D := ⟨by have := h.1; omega, by have := h.2.1; omega, by have := h.2.2.1; omega, by have := h.2.2.2; omega⟩
/-- the four lists of a trip -/
structure P9 (H : Hp) (p : Addr) (l : Pt → Addr) (xs : Pt → List V) (ev wi : Int) : Prop where
  hp : H p = some (.lst [.ref (l .tel), .ref (l .gap), .ref (l .sur), .ref (l .cla)])
  hl : ∀ u, H (l u) = some (.lst (xs u))
  it : ∀ u, ∀ x ∈ xs u, ItemOk u H x ev wi
  nb : ∀ u, ∀ x ∈ xs u, Below H x
  ln : ∀ u, (xs u).length ≤ 20
theorem Below.same {H H' : Hp} {x : V} {p : Pt} {ev wi : Int} (h : Below H x) (ok : ItemOk p H x ev wi) (s : Same H H') : Below H' x := h.of (by
  obtain ⟨a, ys, e, ha, _⟩ := ok
  exact ⟨a, ys, e, ha, s _ _ ha⟩)
theorem P9.same {H H' : Hp} {p : Addr} {l : Pt → Addr} {xs : Pt → List V} {ev wi : Int} (h : P9 H p l xs ev wi) (s : Same H H') : P9 H' p l xs ev wi :=
  ⟨s _ _ h.hp, fun u => s _ _ (h.hl u), fun u x hx => (h.it u x hx).same s, fun u x hx => (h.nb u x hx).same (h.it u x hx) s, h.ln⟩
section
variable {P : Program} {w : World} {K : Frag} {mg : Str → Option Value} {base : Heap} {f : Addr} {fd : FuncData} {C : Addr} {Dk : BookD}
set_option maxHeartbeats 16000000 in
theorem ok_law (F : Fun K "law" "law" s_law f fd) (T : Tb mg) (c_bag : Cal P w K mg base CX0 1 "_law_bag" ["_law_script"] (spBag K)) (c_take : Cal P w K mg base CX0 1 "_law_take" ["_law_bag_here", "_law_many"] spTake) (c_one : Cal P w K mg base CX0 2 "_law_one" ["_law_bag_here", "_law_menu"] (spOne K))
    (c_parts : Cal P w K mg base CX0 3 "_law_parts" ["_law_bag_here", "_law_events", "_law_witnesses", "_law_most"] spParts) (c_book : Cal P w K mg base CX0 9 "_law_book" ["_law_events", "_law_witnesses", "_law_parts_here"] (spMade K C))
    (c_contrary_parts : Cal P w K mg base CX0 2 "_law_contrary_parts" ["_law_parts_here", "_law_part", "_law_item"] (spLcp K)) (c_due : CalG P w K mg base CX0 1 "_law_due" ["_law_events", "_law_witnesses", "_law_parts_here"] (spDue8 K)) (c_shown : CalG P w K mg base CX0 3 "_law_shown" ["_law_book_here"] (spShw K C)) (c_contraries : Cal P w K mg base CX0 10 "contraries" ["book", "sort", "item"] (spCt K C)) :
    FnG P w K mg base CX0 11 f fd ["_law_script"] (spLaw K) := by
  refine fnG_of F sc_law (fun vs H Q E h => ?_) (fun cdv A outer s H vs Q E hr hq h => ?_)
  · obtain ⟨_, _, rfl, _⟩ := h
    rfl
  · obtain ⟨a, ns, rfl, ha, k⟩ := h
    refine ⟨_, PSs.nox (pss_cons (ps_set (i := 1) sc_law.nd rfl (Or.inl rfl) (pe_cal c_bag (hr.mono (by decide)) pass0 (pa_cons (pv 0) pa_nil)))
  (pss_cons (ps_for PassesOwn.never rfl (pi_range1 rfl T.b.range_ (pa_cons pe_int pa_nil)) (pg_name (i := 2) sc_law.nd rfl (Or.inl rfl))
    (pss_cons (ps_asg (pe_tup (pa_cons (pe_cal c_one (hr.mono (by decide)) pass0 (pa_cons (pv 1) (pa_cons (pe_lst (pa_cons pe_int (pa_cons pe_int (pa_cons pe_int (pa_cons pe_int (pa_cons pe_int pa_nil)))))) pa_nil))) (pa_cons (pe_op u_add pe_int (pe_cal c_take (hr.mono (by decide)) pass0 (pa_cons (pv 1) (pa_cons pe_int pa_nil)))) pa_nil))) (pg_tup rfl (pgs_cons (pg_name (i := 3) sc_law.nd rfl (Or.inr rfl)) (pgs_cons (pg_name (i := 4) sc_law.nd rfl (Or.inr rfl)) pgs_nil))))
  (pss_cons (ps_par (i := 5) (j := 6) rfl sc_law.nd rfl rfl (by decide) rfl rfl (pa_cons (pe_cal c_parts (hr.mono (by decide)) pass0 (pa_cons (pv 1) (pa_cons (pv 3) (pa_cons (pv 4) (pa_cons pe_int pa_nil))))) (pa_cons (pe_cal c_parts (hr.mono (by decide)) pass0 (pa_cons (pv 1) (pa_cons (pv 3) (pa_cons (pv 4) (pa_cons pe_int pa_nil))))) pa_nil)) (by with_unfolding_all rfl))
  (Evl.pss_cut (ps_if (pt_cmpR (u_eq hr.units) (pe_cal c_take (hr.mono (by decide)) pass0 (pa_cons (pv 1) (pa_cons pe_int pa_nil))) pe_int (nomark _))
    (pss_one (ps_setLc (i := 5) (own := [("_law_part", 7)]) rfl sc_law.nd rfl rfl (sw_true rfl rfl rfl (by decide +kernel)) (u_iter (pv 5)) (blkOk_by (own := [("_law_part", 7)]) (N := N_law) (sc := defScope s_law) (by decide +kernel)) (fun _ _ _ _ _ => (pg_name (i := 7) sc_law.nd rfl (Or.inl rfl))) (fun _ _ _ _ _ => pts_nil) (fun _ _ _ _ _ => (pe_slice (show SlR _ (rSlice K) from u_slice) (pe_op u_mul (pv 7) pe_int) po_none (po_some pe_int)))))
    pss_nil)
  (pss_cons (ps_set (i := 8) sc_law.nd rfl (Or.inl rfl) (pe_cal c_book (hr.mono (by decide)) pass0 (pa_cons (pv 3) (pa_cons (pv 4) (pa_cons (pv 5) pa_nil)))))
  (pss_one (ps_for PassesOwn.never rfl (pi_enum (by rfl) T.b.enumerate_ (pa_cons (pe_lst (pa_cons pe_str (pa_cons pe_str (pa_cons pe_str (pa_cons pe_str pa_nil))))) pa_nil)) (pg_tup rfl (pgs_cons (pg_name (i := 7) sc_law.nd rfl (Or.inl rfl)) (pgs_cons (pg_name (i := 9) sc_law.nd rfl (Or.inl rfl)) pgs_nil)))
    (pss_one (ps_for PassesOwn.never rfl (u_iter (pe_op u_add (pe_ix ix_seq (pv 5) (pv 7) (fun _ _ => rfl)) (pe_ix ix_seq (pv 6) (pv 7) (fun _ _ => rfl)))) (pg_name (i := 10) sc_law.nd rfl (Or.inl rfl))
    (pss_cons (ps_setLc (i := 11) (own := [("_law_some", 12)]) rfl sc_law.nd rfl rfl (sw_true rfl rfl rfl (by decide +kernel)) (u_iter (pe_cal c_contrary_parts (hr.mono (by decide)) pass0 (pa_cons (pv 5) (pa_cons (pv 7) (pa_cons (pv 10) pa_nil))))) (blkOk_by (own := [("_law_some", 12)]) (N := N_law) (sc := defScope s_law) (by decide +kernel)) (fun _ _ _ _ _ => (pg_name (i := 12) sc_law.nd rfl (Or.inl rfl))) (fun _ _ _ _ _ => pts_nil) (fun _ _ _ _ _ => (pe_calG c_due (hr.mono (by decide)) hq pass0 (pa_cons (pv 3) (pa_cons (pv 4) (pa_cons (pv 12) pa_nil))))))
  (pss_cons (ps_for PassesOwn.never rfl (pi_range1 rfl T.b.range_ (pa_cons pe_int pa_nil)) (pg_name (i := 13) sc_law.nd rfl (Or.inl rfl))
    (pss_cons (ps_set (i := 14) sc_law.nd rfl (Or.inl rfl) (pe_cal c_contraries (hr.mono (by decide)) pass0 (pa_cons (pv 8) (pa_cons (pv 9) (pa_cons (pv 10) pa_nil)))))
  (pss_cons (ps_if (PW.pt (pw_or (pt_not (pt_val (pe_callB u_isi rfl T.b.isinstance_ boot_isinstance (pa_cons (pv 14) (pa_cons (pe_bltn (v := V.ty "list") rfl T.b.list_ (by decide +kernel) rfl) pa_nil))))) (pw_or1 (pt_cmpR (u_ne hr.units) (pe_lc (own := [("_law_one_here", 15)]) rfl sc_law.nd (u_iter (pv 14)) (blkOk_by (own := [("_law_one_here", 15)]) (N := N_law) (sc := defScope s_law) (by decide +kernel)) (fun _ _ _ _ _ => (pg_name (i := 15) sc_law.nd rfl (Or.inl rfl))) (fun _ _ _ _ _ => pts_nil) (fun _ _ _ _ _ => (pe_calG c_shown (hr.mono (by decide)) hq pass0 (pa_cons (pv 15) pa_nil)))) (pv 11) (nomark _)))))
    (pss_one (ps_ret pe_bl))
    pss_nil)
  (pss_one (ps_expr (pe_bm PySem.F.plainAttrs_list PySem.F.slot_list_append PySem.F.type_list_append mt_append (pv 14) (pa_cons pe_non pa_nil)))))))
  (pss_one (ps_if (pt_cmpR (u_ne hr.units) (pe_calG c_shown (hr.mono (by decide)) hq pass0 (pa_cons (pv 8) pa_nil)) (pe_calG c_due (hr.mono (by decide)) hq pass0 (pa_cons (pv 3) (pa_cons (pv 4) (pa_cons (pv 5) pa_nil)))) (nomark _))
    (pss_one (ps_ret pe_bl))
    pss_nil)))))))))))))
  (pss_one (ps_ret pe_bl)))), ?_⟩
    have hs0 : sizeLine = 16777216 := rfl
    walk_at "el"
    refine ⟨a, ns, rfl, ha, fun b c H1 hb0 hc0 hb1 s1 => ?_⟩
    walk_at "el"
    refine ⟨by decide, by decide, ?_⟩
    refine lp_range (fun i σ H2 => Bag H2 b c ∧ ∃ v2 v3 v4 v5 v6 v7 v8 v9 v10 v11 v12 v13 v14 v15, σ = [some (.ref a), some (.ref b), v2, v3, v4, v5, v6, v7, v8, v9, v10, v11, v12, v13, v14, v15]) ⟨hb1, _, _, _, _, _, _, _, _, _, _, _, _, _, _, rfl⟩ ?_ ?_
    · rintro i σ H2 hi ⟨hb2, v2, v3, v4, v5, v6, v7, v8, v9, v10, v11, v12, v13, v14, v15, rfl⟩
      walk_at "el"
      refine ⟨by show 5 ≤ sizeLine; decide, fun m1 hm1 => ?_⟩
      have e1 := nw_of hm1
      walk_at "el"
      refine ⟨b, c, m1, _, rfl, hb2.same (e1 _), hb2.ne hm1, .inl upd_same, by decide, by decide, fun x1 H3 hx1 hb3 _ => ?_⟩
      obtain ⟨ev, rfl, e0, e8⟩ := ints_mem (js := [2, 3, 4, 5, 8]) (P := fun z => 0 ≤ z ∧ z ≤ 8) hx1 (by decide)
      walk_at "el"
      refine ⟨b, c, 8, rfl, hb3, by decide, by decide, fun r8 H4 r80 r88 hb4 _ => ?_⟩
      have w0 : (0 : Int) ≤ 1 + r8 := by omega
      have w8 : 1 + r8 ≤ 8 := by omega
      walk_at "el"
      generalize 1 + r8 = wi at w0 w8 ⊢
      refine ⟨by show 2 ≤ sizeLine; decide, fun m3 hm3 => ?_⟩
      have hb4 := hb4.same (nw_of hm3 (.tup [.int ev, .int wi]))
      refine a_gtup (SqT.of upd_same) rfl ?_
      generalize upd H4 m3 (.tup [.int ev, .int wi]) = H5 at hb4 ⊢
      clear hx1 e1 hm1 hb2 hb3 hm3 r80 r88
      walk_at "el"
      refine ⟨ev, wi, 12, b, c, rfl, hb4, e0, e8, w0, w8, by decide, by decide, fun p l H6 xs S I6 lt lg ls lc => ?_⟩
      have sz6 : ∀ u, (xs u).length ≤ 20 := fun u => by cases u <;> omega
      walk_at "el"
      refine ⟨ev, wi, 5, b, c, rfl, I6.bag, e0, e8, w0, w8, by decide, by decide, fun p2 l2 H7' xs2 S2 J6 lt2 lg2 ls2 lc2 => ?_⟩
      have sz2 : ∀ u, (xs2 u).length ≤ 20 := fun u => by cases u <;> omega
      replace I6 := I6.kp' S J6.bag J6.kp
      walk_at "el"
      refine a_cut (fun σ' H' => Bag H' b c ∧ ∃ p l xs p2 l2 xs2, P9 H' p l xs ev wi ∧ P9 H' p2 l2 xs2 ev wi ∧ ∃ v2 v7 v8 v9 v10 v11 v12 v13 v14 v15, σ' = [some (.ref a), some (.ref b), v2, some (.int ev), some (.int wi), some (.ref p), some (.ref p2), v7, v8, v9, v10, v11, v12, v13, v14, v15]) ?_ ?_
      · walk_at "el"
        refine ⟨b, c, 4, rfl, I6.bag, by decide, by decide, fun r H7 _ _ hb7 k7 => ?_⟩
        have I7 := I6.kp' S hb7 k7
        have J7 := J6.kp' S2 hb7 k7
        have P7 : P9 H7 p l xs ev wi := ⟨I7.hp, I7.hl, I7.it, I7.nb, sz6⟩
        have P72 : P9 H7 p2 l2 xs2 ev wi := ⟨J7.hp, J7.hl, J7.it, J7.nb, sz2⟩
        walk_at "el"
        refine ite2 (fun _ => ?_) (fun _ => ?_)
        · walk_at "el"
          refine .inl ?_
          walk_at "el"
          refine ⟨p, rfl, ⟨_, SqL.of P7.hp⟩, fun D0 hD0 => ?_⟩
          have d0 := nw_of hD0 (.lst [])
          refine lc_of (walk_list (xs := [V.ref (l .tel), .ref (l .gap), .ref (l .sur), .ref (l .cla)])) (fun i H3 => Same H7 H3 ∧ ∃ as : List Addr, as.length = i ∧ H3 D0 = some (.lst (as.map V.ref)) ∧ ∀ (j : Nat) (q : Addr), as[j]? = some q → H3 q = some (.lst (cut20 (xs (ptAt j)))) ∧ q ≠ D0) ⟨d0, [], rfl, upd_same, fun j q h => nomatch h⟩ (fun i H3 hi h => SqL.of (h.1 _ _ P7.hp)) ?_ ?_
          · rintro j y H3 H5 hj ⟨s3, as, la, d3, ha3⟩ ⟨rfl, hy⟩
            have hj4 : j < 4 := hj
            have hy' : y = .ref (l (ptAt j)) := by
              rcases j with _ | _ | _ | _ | j
              · cases hy; rfl
              · cases hy; rfl
              · cases hy; rfl
              · cases hy; rfl
              · omega
            subst hy'
            have hl3 := s3 _ _ (P7.hl (ptAt j))
            have l20 := P7.ln (ptAt j)
            walk_at "el"
            refine ⟨rfl, ?_⟩
            walk_at "el"
            refine .inr ⟨_, _, _, rfl, rfl, hl3, by decide, by decide, by show (xs (ptAt j)).length * 20 ≤ sizeLine; omega, fun q1 hq1 => ?_⟩
            have e8' := nw_of hq1 (.lst (List.replicate (20 : Int).toNat (xs (ptAt j))).flatten)
            have g8 := upd_at hq1 (.lst (List.replicate (20 : Int).toNat (xs (ptAt j))).flatten)
            have d8 := e8' _ _ d3
            generalize upd H5 q1 (.lst (List.replicate (20 : Int).toNat (xs (ptAt j))).flatten) = H8 at e8' g8 d8 ⊢
            walk_at "el"
            refine .inl ⟨_, _, rfl, SqL.of g8, fun q2 hq2 => ?_⟩
            have e9 := nw_of hq2 (.lst (cut20 (xs (ptAt j))))
            have n2 : q2 ≠ D0 := fun z => by rw [z, d8] at hq2; cases hq2
            refine ⟨as.map V.ref, e9 _ _ d8, by rw [List.length_map]; omega, L2.Same.mu ((s3.trans e8').trans e9) hD0, as ++ [q2], by rw [List.length_append, la]; rfl, by rw [upd_same, List.map_append]; rfl, fun m q hm => ?_⟩
            by_cases c : m < as.length
            · rw [List.getElem?_append_left c] at hm
              obtain ⟨h1, h2⟩ := ha3 m q hm
              exact ⟨by rw [upd_ne h2]; exact e9 _ _ (e8' _ _ h1), h2⟩
            · rw [List.getElem?_append_right (by omega)] at hm
              have e : m - as.length = 0 := by
                have := (List.getElem?_eq_some_iff.mp hm).1
                simp at this; omega
              rw [e] at hm
              cases hm
              obtain rfl : m = j := by omega
              exact ⟨by rw [upd_ne n2]; exact upd_same, n2⟩
          · rintro H3 ⟨s3, as, la, d3, ha3⟩
            have la4 : as.length = 4 := la
            walk_at "el"
            match as, la4, d3, ha3 with
            | [a0, a1, a2, a3], _, d3, ha3 =>
              refine ⟨hb7.same s3, D0, lOf a0 a1 a2 a3, (fun u => cut20 (xs u)), p2, l2, xs2, ⟨d3, fun u => ?_, fun u x hx => ?_, fun u x hx => ?_, fun u => cut20_ok.2⟩, P72.same s3, _, _, _, _, _, _, _, _, _, _, rfl⟩
              · cases u
                · exact (ha3 0 a0 rfl).1
                · exact (ha3 1 a1 rfl).1
                · exact (ha3 2 a2 rfl).1
                · exact (ha3 3 a3 rfl).1
              · exact (P7.it u x (cut20_ok.1 x hx)).same s3
              · exact (P7.nb u x (cut20_ok.1 x hx)).same (P7.it u x (cut20_ok.1 x hx)) s3
        · walk_at "el"
          exact ⟨hb7, p, l, xs, p2, l2, xs2, P7, P72, _, _, _, _, _, _, _, _, _, _, rfl⟩
      · clear S I6 lt lg ls lc sz6 hb4 xs l p S2 J6 lt2 lg2 ls2 lc2 sz2
        rintro σ' H7 ⟨hb7, p, l, xs, p2, l2, xs2, P7, P72, v2, v7, v8, v9, v10, v11, v12, v13, v14, v15, rfl⟩
        obtain ⟨D, R, ok⟩ := pr_of P7.it
        have hp7 := P7.hp
        walk_at "el"
        refine ⟨ev, wi, p, l, xs, rfl, e0, e8, w0, w8, hp7, fun u => ⟨.inl (P7.hl u), Nat.le_trans (P7.ln u) (by decide), P7.it u⟩, fun H8 o dx t g s q s8 ho t1 t2 t3 t4 => ?_⟩
        have V8 : BookV K C H8 ⟨o, dx, t, g, s, q, ev, wi, xs⟩ D := ⟨⟨ho, t1, t2, t3, t4, R.same s8⟩, e0, e8, w0, w8, fun u => Nat.le_trans (P7.ln u) (by decide), fun u x hx => (P7.it u x hx).same s8⟩
        have P8 := P7.same s8
        have P82 := P72.same s8
        have hb8 := hb7.same s8
        have R8 := R.same s8
        generalize hA : (⟨o, dx, t, g, s, q, ev, wi, xs⟩ : BA) = B at V8
        have hBo : B.o = o := by rw [← hA]
        have hBx : B.xs = xs := by rw [← hA]
        have hBe : B.ev = ev := by rw [← hA]
        have hBw : B.wi = wi := by rw [← hA]
        clear hb7 hp7 P7 P72 R ho t1 t2 t3 t4 s8 hA
        subst hBo hBx hBe hBw
        have ln : ∀ u, (B.xs u).length ≤ 20 := P8.ln
        have lD : D.T.length ≤ 20 ∧ D.G.length ≤ 20 ∧ D.S.length ≤ 20 ∧ D.L.length ≤ 20 := ⟨by have := R8.t.len; have := ln .tel; omega, by have := R8.g.len; have := ln .gap; omega, by have := R8.s.len; have := ln .sur; omega, by have := R8.l.len; have := ln .cla; omega⟩
        walk_at "el"
        refine ⟨by show 4 ≤ sizeLine; decide, fun m hm => ?_⟩
        have e4 := nw_of hm (.lst [.str "tellings", .str "gaps", .str "sure", .str "clauses"])
        have g4 := upd_at hm (.lst [.str "tellings", .str "gaps", .str "sure", .str "clauses"])
        replace V8 := V8.same e4
        replace P8 := P8.same e4
        replace P82 := P82.same e4
        replace hb8 := hb8.same e4
        replace R8 := R8.same e4
        generalize upd H8 m (.lst [.str "tellings", .str "gaps", .str "sure", .str "clauses"]) = H9 at g4 V8 P8 P82 hb8 R8 ⊢
        clear e4 hm
        walk_at "el"
        refine ⟨m, _, rfl, SqL.of g4, ?_⟩
        refine lp_it (walk_enum (xs := [V.str "tellings", .str "gaps", .str "sure", .str "clauses"])) (fun i σ H => Same H9 H ∧ ∃ v7 v9 v10 v11 v12 v13 v14 v15, σ = [some (.ref a), some (.ref b), v2, some (.int B.ev), some (.int B.wi), some (.ref p), some (.ref p2), v7, some (.ref B.o), v9, v10, v11, v12, v13, v14, v15]) ⟨Same.refl _, _, _, _, _, _, _, _, _, rfl⟩ (fun i σ H hi h => SqL.of (h.1 _ _ g4)) ?_ ?_
        · rintro i y σ H10 H11 hi ⟨s10, v7, v9, v10, v11, v12, v13, v14, v15, rfl⟩ ⟨t, x1, x2, rfl, ht, rfl, hx1, hx2⟩
          have hi4 : i < 4 := hi
          cases hx1
          obtain ⟨u, hu, rfl⟩ : ∃ u : Pt, ((i : Nat) : Int) = ixP u ∧ V.str u.name = x2 := by
            rcases i with _ | _ | _ | _ | i
            · cases hx2; exact ⟨.tel, rfl, rfl⟩
            · cases hx2; exact ⟨.gap, rfl, rfl⟩
            · cases hx2; exact ⟨.sur, rfl, rfl⟩
            · cases hx2; exact ⟨.cla, rfl, rfl⟩
            · omega
          rw [hu]
          have s12 := s10.trans (nw_of ht (.tup [.int (ixP u), .str u.name]))
          refine a_gtup (SqT.of upd_same) rfl ?_
          generalize upd H10 t (.tup [.int (ixP u), .str u.name]) = H12 at s12 ⊢
          clear ht s10 hx2
          have P12 := P8.same s12
          have P122 := P82.same s12
          have hp12 := P12.hp
          have hp122 := P122.hp
          walk_at "el"
          refine a_iSeq (.inl ?_)
          walk_at "el"
          refine n_ixL (SqL.of hp12) (show atI [V.ref (l .tel), V.ref (l .gap), V.ref (l .sur), V.ref (l .cla)] (ixP u) = some (V.ref (l u)) by cases u <;> rfl) ?_
          walk_at "el"
          refine n_ixL (SqL.of hp122) (show atI [V.ref (l2 .tel), V.ref (l2 .gap), V.ref (l2 .sur), V.ref (l2 .cla)] (ixP u) = some (V.ref (l2 u)) by cases u <;> rfl) ?_
          walk_at "el"
          refine n_cat (P12.hl u) (P122.hl u) (by have := P12.ln u; have := P122.ln u; omega) fun n hn => ?_
          have e13 := nw_of hn (.lst (B.xs u ++ xs2 u))
          have g13 := upd_at hn (.lst (B.xs u ++ xs2 u))
          replace s12 := s12.trans e13
          generalize upd H12 n (.lst (B.xs u ++ xs2 u)) = H13 at s12 g13 ⊢
          clear e13 hn hp12 hp122 P12 P122
          refine ⟨n, rfl, ⟨_, SqL.of g13⟩, ?_⟩
          refine lp_it (walk_list (xs := B.xs u ++ xs2 u)) (fun i σ H => Same H13 H ∧ ∃ v10 v11 v12 v13 v14 v15, σ = [some (.ref a), some (.ref b), v2, some (.int B.ev), some (.int B.wi), some (.ref p), some (.ref p2), some (.int (ixP u)), some (.ref B.o), some (.str u.name), v10, v11, v12, v13, v14, v15]) ⟨Same.refl _, _, _, _, _, _, _, rfl⟩ (fun i σ H hi h => SqL.of (h.1 _ _ g13)) ?_ ?_
          · rintro i x σ H14 H15 hi ⟨s14, v10, v11, v12, v13, v14, v15, rfl⟩ ⟨rfl, hx⟩
            have hxm := List.mem_of_getElem? hx
            have z14 : Same H9 H15 := s12.trans s14
            have P14 := P8.same z14
            have P142 := P82.same z14
            have hI : ItemOk u H15 x B.ev B.wi ∧ Below H15 x := (List.mem_append.mp hxm).elim (fun h => ⟨P14.it u x h, P14.nb u x h⟩) fun h => ⟨P142.it u x h, P142.nb u x h⟩
            obtain ⟨q, zs, rfl, hq14, _, _⟩ := id hI.1
            have nq : ∀ {a : Addr} {ys : List V}, H15 a = some (.lst ys) → a ≠ q := fun h z => by rw [z, hq14] at h; cases h
            have L14 : LP H15 q p l B.xs D := ⟨P14.hp, nq P14.hp, P14.hl, fun u => nq (P14.hl u), R8.same z14⟩
            have dok := deny_ok hq14 hI.1 hI.2
            have ln22 : ∀ u, (B.xs u).length ≤ 22 := fun u => Nat.le_trans (ln u) (by decide)
            clear P14 P142 hxm hx
            walk_at "el"
            refine a_iSeq (.inl ?_)
            walk_at "el"
            refine ⟨D, B.ev, B.wi, q, p, l, B.xs, u, q, zs, rfl, ⟨_, hq14⟩, L14, ln22, hq14, hI.1, hI.2, fun r ps H16 s16 nr hr16 hP => ?_⟩
            refine ⟨r, rfl, ⟨_, SqL.of hr16⟩, fun D0 hD0 => ?_⟩
            have e17 := nw_of hD0 (.lst [])
            refine lc_of (walk_list (xs := ps.map V.ref)) (fun i H => Same H16 H ∧ H D0 = some (.lst (((denyD u zs).take i).map fun E => V.str (bookD (catD D E) B.ev B.wi).shown))) ⟨e17, upd_same⟩ (fun i H hi h => SqL.of (h.1 _ _ hr16)) ?_ ?_
            · rintro j y H17 H18 hj ⟨s17, d17⟩ ⟨rfl, hy⟩
              rw [List.getElem?_map] at hy
              rw [List.length_map] at hj
              obtain ⟨p', ep⟩ : ∃ p', ps[j]? = some p' := ⟨_, List.getElem?_eq_getElem hj⟩
              rw [ep] at hy; cases hy
              have hjl : j < (denyD u zs).length := by rw [← hP.1]; exact hj
              have hE0 := List.getElem?_eq_getElem hjl
              generalize (denyD u zs)[j] = E0 at hE0
              obtain ⟨l', xs', L'⟩ := hP.2 j p' E0 ep hE0
              obtain ⟨kok, k1, k2, k3, k4⟩ := dok E0 (List.mem_of_getElem? hE0)
              walk_at "el"
              refine ⟨rfl, ?_⟩
              walk_at "el"
              refine ⟨catD D E0, B.ev, B.wi, q, p', l', xs', rfl, L'.same s17, pd_cat ok kok, e0, e8, w0, w8, ln_cat lD ⟨k1, k2, k3, k4⟩, fun H19 s19 => ?_⟩
              refine ⟨_, s19 _ _ d17, by rw [List.length_map, List.length_take]; have := deny_len (u := u) (zs := zs); omega, (s17.trans s19).mu hD0, ?_⟩
              rw [upd_same, List.take_add_one, hE0, List.map_append]
              rfl
            · rintro H17 ⟨s17, d17⟩
              rw [List.length_map, hP.1, List.take_length] at d17
              have z17 : Same H9 H17 := (z14.trans s16).trans s17
              have hq17 := (s16.trans s17) _ _ hq14
              have it17 := hI.1.same (s16.trans s17)
              have nb17 := hI.2.same hI.1 (s16.trans s17)
              walk_at "el"
              refine ⟨by decide, by decide, ?_⟩
              refine lp_range (fun i σ H => Same H17 H ∧ ∃ v12 v13 v14 v15, σ = [some (.ref a), some (.ref b), v2, some (.int B.ev), some (.int B.wi), some (.ref p), some (.ref p2), some (.int (ixP u)), some (.ref B.o), some (.str u.name), some (.ref q), some (.ref D0), v12, v13, v14, v15]) ⟨Same.refl _, _, _, _, _, rfl⟩ ?_ ?_
              · rintro i2 σ H20 hi2 ⟨s20, v12, v13, v14, v15, rfl⟩
                have V20 := V8.same (z17.trans s20)
                walk_at "el"
                refine ⟨B, D, u, q, zs, rfl, V20, ln22, s20 _ _ hq17, it17.same s20, nb17.same it17 s20, fun r2 Bs H21 s21 nr2 hr2 lB hBs => ?_⟩
                walk_at "el"
                obtain ⟨tt, kt⟩ := (Th.lst hr2 : Th K H21 (.ref r2)).kit
                refine n_isLst kt ?_
                rw [show isL H21 (.ref r2) = true from by show obL (H21 r2) = true; rw [hr2]; rfl]
                refine ⟨true, rfl, ?_⟩
                rw [if_neg (by decide)]
                walk_at "el"
                refine a_iSeq (.inl ?_)
                walk_at "el"
                refine ⟨r2, rfl, ⟨_, SqL.of hr2⟩, fun D1 hD1 => ?_⟩
                have e22 := nw_of hD1 (.lst [])
                refine lc_of (walk_list (xs := Bs.map fun B => V.ref B.o)) (fun i H => Same H21 H ∧ H D1 = some (.lst (((denyD u zs).take i).map fun E => V.str (bookD (catD D E) B.ev B.wi).shown))) ⟨e22, upd_same⟩ (fun i H hi h => SqL.of (h.1 _ _ hr2)) ?_ ?_
                · rintro j y H22 H23 hj ⟨s22, d22⟩ ⟨rfl, hy⟩
                  rw [List.getElem?_map] at hy
                  rw [List.length_map] at hj
                  obtain ⟨B1, ep⟩ : ∃ B1, Bs[j]? = some B1 := ⟨_, List.getElem?_eq_getElem hj⟩
                  rw [ep] at hy; cases hy
                  have hjl : j < (denyD u zs).length := by rw [← lB]; exact hj
                  have hE0 := List.getElem?_eq_getElem hjl
                  generalize (denyD u zs)[j] = E0 at hE0
                  obtain ⟨v1, i1, l1, b1⟩ := hBs j B1 E0 ep hE0
                  obtain ⟨kok, k1, k2, k3, k4⟩ := dok E0 (List.mem_of_getElem? hE0)
                  walk_at "el"
                  refine ⟨rfl, ?_⟩
                  walk_at "el"
                  refine ⟨B1, catD D E0, rfl, b1.bb.same s22, by rw [v1, i1]; exact pd_cat ok kok, by rw [v1]; exact e0, by rw [v1]; exact e8, by rw [i1]; exact w0, by rw [i1]; exact w8, ln_cat lD ⟨k1, k2, k3, k4⟩, fun H24 s24 => ?_⟩
                  refine ⟨_, s24 _ _ d22, by rw [List.length_map, List.length_take]; have := deny_len (u := u) (zs := zs); omega, (s22.trans s24).mu hD1, ?_⟩
                  rw [upd_same, List.take_add_one, hE0, List.map_append, v1, i1]
                  rfl
                · rintro H22 ⟨s22, d22⟩
                  rw [List.length_map, lB, List.take_length] at d22
                  have z22 := (s20.trans s21).trans s22
                  have d17 := z22 _ _ d17
                  have toS : ∀ Es : List PD, (Es.map fun E => V.str (bookD (catD D E) B.ev B.wi).shown) = (Es.map fun E => (bookD (catD D E) B.ev B.wi).shown).map V.str := fun Es => by rw [List.map_map]; rfl
                  rw [toS] at d17 d22
                  have okz : ∀ z ∈ (denyD u zs).map fun E => (bookD (catD D E) B.ev B.wi).shown, okS9 z := fun z hz => by
                    obtain ⟨E0, hE0, rfl⟩ := List.mem_map.mp hz
                    exact shown_ok (pd_cat ok (dok E0 hE0).1)
                  walk_at "el"
                  refine n_neD (.lst (SqL.of d22) (dp_strs9 _)) (.lst (SqL.of d17) (dp_strs9 _)) (strs_shp okz) (strs_shp okz) ?_
                  rw [PySem.SeqAt.eqv_refl _ (Bool.and_eq_true_iff.mp (strs_shp okz)).1]
                  walk_at "el"
                  refine ⟨.inl ⟨rfl, _, SqL.of (s22 _ _ hr2)⟩, ?_⟩
                  walk_at "el"
                  refine ⟨r2, _, .non, rfl, rfl, s22 _ _ hr2, by rw [List.length_map, lB]; have := deny_len (u := u) (zs := zs); omega, ?_⟩
                  walk_at "el"
                  exact ⟨s20.trans ((s21.trans s22).mu nr2), _, _, _, _, rfl⟩
              · rintro σ H20 ⟨s20, v12, v13, v14, v15, rfl⟩
                have V20 := V8.same (z17.trans s20)
                walk_at "el"
                refine ⟨B, D, rfl, V20.bb, ok, e0, e8, w0, w8, ln_w lD, fun H21 s21 => ?_⟩
                have L21 := L14.same (((s16.trans s17).trans s20).trans s21)
                walk_at "el"
                refine ⟨D, B.ev, B.wi, q, p, l, B.xs, rfl, L21, ok, e0, e8, w0, w8, ln_w lD, fun H22 s22 => ?_⟩
                walk_at "el"
                rw [decide_eq_true rfl, if_neg (by decide)]
                walk_at "el"
                exact ⟨((((s14.trans s16).trans s17).trans s20).trans s21).trans s22, _, _, _, _, _, _, rfl⟩
          · rintro σ H14 ⟨s14, v10, v11, v12, v13, v14, v15, rfl⟩
            walk_at "el"
            exact ⟨s12.trans s14, _, _, _, _, _, _, _, _, rfl⟩
        · rintro σ H10 ⟨s10, v7, v9, v10, v11, v12, v13, v14, v15, rfl⟩
          walk_at "el"
          exact ⟨hb8.same s10, _, _, _, _, _, _, _, _, _, _, _, _, _, _, rfl⟩
    · rintro σ H2 ⟨hb2, v2, v3, v4, v5, v6, v7, v8, v9, v10, v11, v12, v13, v14, v15, rfl⟩
      walk_at "el"
      exact k _
end
end EL

/- part M81 -/
namespace EL
open PySem PySem.Spec PyProof.Rows L2
open PySem.W (Frag)
set_option maxHeartbeats 0 in
theorem all_mk {P : Program} {w : World} {K : Frag} {h : Heap} {mg : Str → Option Value} {fa : Addr} (X : K.In h) (G : h.Ns mainGlobals mg) (hfa : mg "law" = some (.ref fa))
    {f_is_integer : Addr} {od_is_integer an_is_integer : Option Addr} {sl_is_integer : Array (Option Value)} {oc_is_integer kV_is_integer dc_is_integer pm_is_integer cd_is_integer ct_is_integer : Value}
    {f_is_number : Addr} {od_is_number an_is_number : Option Addr} {sl_is_number : Array (Option Value)} {oc_is_number kV_is_number dc_is_number pm_is_number cd_is_number ct_is_number : Value}
    {f_is_kind : Addr} {od_is_kind an_is_kind : Option Addr} {sl_is_kind : Array (Option Value)} {oc_is_kind kV_is_kind dc_is_kind pm_is_kind cd_is_kind ct_is_kind : Value}
    {f_contrary : Addr} {od_contrary an_contrary : Option Addr} {sl_contrary : Array (Option Value)} {oc_contrary kV_contrary dc_contrary pm_contrary cd_contrary ct_contrary : Value}
    {f_is_tuple : Addr} {od_is_tuple an_is_tuple : Option Addr} {sl_is_tuple : Array (Option Value)} {oc_is_tuple kV_is_tuple dc_is_tuple pm_is_tuple cd_is_tuple ct_is_tuple : Value}
    {f_is_below : Addr} {od_is_below an_is_below : Option Addr} {sl_is_below : Array (Option Value)} {oc_is_below kV_is_below dc_is_below pm_is_below cd_is_below ct_is_below : Value}
    {f_is_side : Addr} {od_is_side an_is_side : Option Addr} {sl_is_side : Array (Option Value)} {oc_is_side kV_is_side dc_is_side pm_is_side cd_is_side ct_is_side : Value}
    {f__can_stand : Addr} {od__can_stand an__can_stand : Option Addr} {sl__can_stand : Array (Option Value)} {oc__can_stand kV__can_stand dc__can_stand pm__can_stand cd__can_stand ct__can_stand : Value}
    {f_first_wrong : Addr} {od_first_wrong an_first_wrong : Option Addr} {sl_first_wrong : Array (Option Value)} {oc_first_wrong kV_first_wrong dc_first_wrong pm_first_wrong cd_first_wrong ct_first_wrong : Value}
    {f_is_item : Addr} {od_is_item an_is_item : Option Addr} {sl_is_item : Array (Option Value)} {oc_is_item kV_is_item dc_is_item pm_is_item cd_is_item ct_is_item : Value}
    {f__check_arguments : Addr} {od__check_arguments an__check_arguments : Option Addr} {sl__check_arguments : Array (Option Value)} {oc__check_arguments kV__check_arguments dc__check_arguments pm__check_arguments cd__check_arguments ct__check_arguments : Value}
    {f__check_items : Addr} {od__check_items an__check_items : Option Addr} {sl__check_items : Array (Option Value)} {oc__check_items kV__check_items dc__check_items pm__check_items cd__check_items ct__check_items : Value}
    {f_bag : Addr} {od_bag an_bag : Option Addr} {sl_bag : Array (Option Value)} {oc_bag kV_bag dc_bag pm_bag cd_bag ct_bag : Value}
    {f_take : Addr} {od_take an_take : Option Addr} {sl_take : Array (Option Value)} {oc_take kV_take dc_take pm_take cd_take ct_take : Value}
    {f_one : Addr} {od_one an_one : Option Addr} {sl_one : Array (Option Value)} {oc_one kV_one dc_one pm_one cd_one ct_one : Value}
    {f_number : Addr} {od_number an_number : Option Addr} {sl_number : Array (Option Value)} {oc_number kV_number dc_number pm_number cd_number ct_number : Value}
    {f_kind : Addr} {od_kind an_kind : Option Addr} {sl_kind : Array (Option Value)} {oc_kind kV_kind dc_kind pm_kind cd_kind ct_kind : Value}
    {f_parts : Addr} {od_parts an_parts : Option Addr} {sl_parts : Array (Option Value)} {oc_parts kV_parts dc_parts pm_parts cd_parts ct_parts : Value}
    {f_book : Addr} {od_book an_book : Option Addr} {sl_book : Array (Option Value)} {oc_book kV_book dc_book pm_book cd_book ct_book : Value}
    {f_l_contrary : Addr} {od_l_contrary an_l_contrary : Option Addr} {sl_l_contrary : Array (Option Value)} {oc_l_contrary kV_l_contrary dc_l_contrary pm_l_contrary cd_l_contrary ct_l_contrary : Value}
    {f_contrary_parts : Addr} {od_contrary_parts an_contrary_parts : Option Addr} {sl_contrary_parts : Array (Option Value)} {oc_contrary_parts kV_contrary_parts dc_contrary_parts pm_contrary_parts cd_contrary_parts ct_contrary_parts : Value}
    {f_due : Addr} {od_due an_due : Option Addr} {sl_due : Array (Option Value)} {oc_due kV_due dc_due pm_due cd_due ct_due : Value}
    {f_shown : Addr} {od_shown an_shown : Option Addr} {sl_shown : Array (Option Value)} {oc_shown kV_shown dc_shown pm_shown cd_shown ct_shown : Value}
    {f_as_book : Addr} {od_as_book an_as_book : Option Addr} {sl_as_book : Array (Option Value)} {oc_as_book kV_as_book dc_as_book pm_as_book cd_as_book ct_as_book : Value}
    {f_denying_gap : Addr} {od_denying_gap an_denying_gap : Option Addr} {sl_denying_gap : Array (Option Value)} {oc_denying_gap kV_denying_gap dc_denying_gap pm_denying_gap cd_denying_gap ct_denying_gap : Value}
    {f_denying_bound : Addr} {od_denying_bound an_denying_bound : Option Addr} {sl_denying_bound : Array (Option Value)} {oc_denying_bound kV_denying_bound dc_denying_bound pm_denying_bound cd_denying_bound ct_denying_bound : Value}
    {f__denying_telling : Addr} {od__denying_telling an__denying_telling : Option Addr} {sl__denying_telling : Array (Option Value)} {oc__denying_telling kV__denying_telling dc__denying_telling pm__denying_telling cd__denying_telling ct__denying_telling : Value}
    {f__denying_clause : Addr} {od__denying_clause an__denying_clause : Option Addr} {sl__denying_clause : Array (Option Value)} {oc__denying_clause kV__denying_clause dc__denying_clause pm__denying_clause cd__denying_clause ct__denying_clause : Value}
    {f__denying : Addr} {od__denying an__denying : Option Addr} {sl__denying : Array (Option Value)} {oc__denying kV__denying dc__denying pm__denying cd__denying ct__denying : Value}
    {f_contraries : Addr} {od_contraries an_contraries : Option Addr} {sl_contraries : Array (Option Value)} {oc_contraries kV_contraries dc_contraries pm_contraries cd_contraries ct_contraries : Value}
    {f_law : Addr} {od_law an_law : Option Addr} {sl_law : Array (Option Value)} {oc_law kV_law dc_law pm_law cd_law ct_law : Value}
    {tGN : Tok}
    {aForms aParts : Addr} {esF : Array DictEntry} {nF nP : Nat} {odP : Option Addr} {slP : Array (Option Value)} {p1 p2 p3 p4 : Tok}
    {a_tel : Addr} {n_tel : Nat} {od_tel : Option Addr} {sl_tel : Array (Option Value)} {t_tel0 t_tel1 t_tel2 : Tok}
    {a_gap : Addr} {n_gap : Nat} {od_gap : Option Addr} {sl_gap : Array (Option Value)} {t_gap0 t_gap1 t_gap2 : Tok}
    {a_sur : Addr} {n_sur : Nat} {od_sur : Option Addr} {sl_sur : Array (Option Value)} {t_sur0 t_sur1 t_sur2 : Tok}
    {a_cla : Addr} {n_cla : Nat} {od_cla : Option Addr} {sl_cla : Array (Option Value)} {t_cla0 t_cla1 t_cla2 t_cla3 : Tok}
    {tE tW tI : Tok}
    {C fI aT d1 d2 d3 d4 : Addr} {odI anI odT o1 o2 o3 o4 : Option Addr} {slI slT s1 s2 s3 s4 : Array (Option Value)} {ocI kVI dcI pmI cdI ctI ocT : Value} {nT n1 n2 n3 n4 : Nat}
    {CLo fLI aTL e1 e2 e3 e4 : Addr} {odLI anLI odTL oe1 oe2 oe3 oe4 : Option Addr} {slLI slTL se1 se2 se3 se4 : Array (Option Value)} {ocLI kVLI dcLI pmLI cdLI ctLI ocTL : Value} {nTL ne1 ne2 ne3 ne4 : Nat}
    {q_events g_events : Addr} {odg_events ang_events : Option Addr} {slg_events : Array (Option Value)} {ocg_events kVg_events dcg_events pmg_events cdg_events ctg_events : Value} {rs_events : List Value}
    {q_witnesses g_witnesses : Addr} {odg_witnesses ang_witnesses : Option Addr} {slg_witnesses : Array (Option Value)} {ocg_witnesses kVg_witnesses dcg_witnesses pmg_witnesses cdg_witnesses ctg_witnesses : Value} {rs_witnesses : List Value}
    {q_tellings g_tellings : Addr} {odg_tellings ang_tellings : Option Addr} {slg_tellings : Array (Option Value)} {ocg_tellings kVg_tellings dcg_tellings pmg_tellings cdg_tellings ctg_tellings : Value} {rs_tellings : List Value}
    {q_gaps g_gaps : Addr} {odg_gaps ang_gaps : Option Addr} {slg_gaps : Array (Option Value)} {ocg_gaps kVg_gaps dcg_gaps pmg_gaps cdg_gaps ctg_gaps : Value} {rs_gaps : List Value}
    {q_sure g_sure : Addr} {odg_sure ang_sure : Option Addr} {slg_sure : Array (Option Value)} {ocg_sure kVg_sure dcg_sure pmg_sure cdg_sure ctg_sure : Value} {rs_sure : List Value}
    {q_clauses g_clauses : Addr} {odg_clauses ang_clauses : Option Addr} {slg_clauses : Array (Option Value)} {ocg_clauses kVg_clauses dcg_clauses pmg_clauses cdg_clauses ctg_clauses : Value} {rs_clauses : List Value}
    (a_is_integer : PySem.W.nsIn K mainGlobals "is_integer" = some (some (.ref f_is_integer)))
    (l_is_integer : K.lookup f_is_integer = some ⟨oc_is_integer, od_is_integer, .func (PySem.W.fnOf "is_integer" "is_integer" (defArgs s_is_integer) (defBody s_is_integer) (defScope s_is_integer) .none kV_is_integer dc_is_integer pm_is_integer an_is_integer cd_is_integer ct_is_integer), sl_is_integer⟩)
    (c_is_integer : PySem.W.codeIn K cd_is_integer "is_integer" = true)
    (k_is_integer : PySem.W.keepIn K (.ref f_is_integer) = true)
    (a_is_number : PySem.W.nsIn K mainGlobals "is_number" = some (some (.ref f_is_number)))
    (l_is_number : K.lookup f_is_number = some ⟨oc_is_number, od_is_number, .func (PySem.W.fnOf "is_number" "is_number" (defArgs s_is_number) (defBody s_is_number) (defScope s_is_number) .none kV_is_number dc_is_number pm_is_number an_is_number cd_is_number ct_is_number), sl_is_number⟩)
    (c_is_number : PySem.W.codeIn K cd_is_number "is_number" = true)
    (k_is_number : PySem.W.keepIn K (.ref f_is_number) = true)
    (a_is_kind : PySem.W.nsIn K mainGlobals "is_kind" = some (some (.ref f_is_kind)))
    (l_is_kind : K.lookup f_is_kind = some ⟨oc_is_kind, od_is_kind, .func (PySem.W.fnOf "is_kind" "is_kind" (defArgs s_is_kind) (defBody s_is_kind) (defScope s_is_kind) .none kV_is_kind dc_is_kind pm_is_kind an_is_kind cd_is_kind ct_is_kind), sl_is_kind⟩)
    (c_is_kind : PySem.W.codeIn K cd_is_kind "is_kind" = true)
    (k_is_kind : PySem.W.keepIn K (.ref f_is_kind) = true)
    (a_contrary : PySem.W.nsIn K mainGlobals "contrary" = some (some (.ref f_contrary)))
    (l_contrary : K.lookup f_contrary = some ⟨oc_contrary, od_contrary, .func (PySem.W.fnOf "contrary" "contrary" (defArgs s_contrary) (defBody s_contrary) (defScope s_contrary) .none kV_contrary dc_contrary pm_contrary an_contrary cd_contrary ct_contrary), sl_contrary⟩)
    (c_contrary : PySem.W.codeIn K cd_contrary "contrary" = true)
    (k_contrary : PySem.W.keepIn K (.ref f_contrary) = true)
    (a_is_tuple : PySem.W.nsIn K mainGlobals "is_tuple" = some (some (.ref f_is_tuple)))
    (l_is_tuple : K.lookup f_is_tuple = some ⟨oc_is_tuple, od_is_tuple, .func (PySem.W.fnOf "is_tuple" "is_tuple" (defArgs s_is_tuple) (defBody s_is_tuple) (defScope s_is_tuple) .none kV_is_tuple dc_is_tuple pm_is_tuple an_is_tuple cd_is_tuple ct_is_tuple), sl_is_tuple⟩)
    (c_is_tuple : PySem.W.codeIn K cd_is_tuple "is_tuple" = true)
    (k_is_tuple : PySem.W.keepIn K (.ref f_is_tuple) = true)
    (a_is_below : PySem.W.nsIn K mainGlobals "is_below" = some (some (.ref f_is_below)))
    (l_is_below : K.lookup f_is_below = some ⟨oc_is_below, od_is_below, .func (PySem.W.fnOf "is_below" "is_below" (defArgs s_is_below) (defBody s_is_below) (defScope s_is_below) .none kV_is_below dc_is_below pm_is_below an_is_below cd_is_below ct_is_below), sl_is_below⟩)
    (c_is_below : PySem.W.codeIn K cd_is_below "is_below" = true)
    (k_is_below : PySem.W.keepIn K (.ref f_is_below) = true)
    (a_is_side : PySem.W.nsIn K mainGlobals "is_side" = some (some (.ref f_is_side)))
    (l_is_side : K.lookup f_is_side = some ⟨oc_is_side, od_is_side, .func (PySem.W.fnOf "is_side" "is_side" (defArgs s_is_side) (defBody s_is_side) (defScope s_is_side) .none kV_is_side dc_is_side pm_is_side an_is_side cd_is_side ct_is_side), sl_is_side⟩)
    (c_is_side : PySem.W.codeIn K cd_is_side "is_side" = true)
    (k_is_side : PySem.W.keepIn K (.ref f_is_side) = true)
    (a__can_stand : PySem.W.nsIn K mainGlobals "_can_stand" = some (some (.ref f__can_stand)))
    (l__can_stand : K.lookup f__can_stand = some ⟨oc__can_stand, od__can_stand, .func (PySem.W.fnOf "_can_stand" "_can_stand" (defArgs s__can_stand) (defBody s__can_stand) (defScope s__can_stand) .none kV__can_stand dc__can_stand pm__can_stand an__can_stand cd__can_stand ct__can_stand), sl__can_stand⟩)
    (c__can_stand : PySem.W.codeIn K cd__can_stand "_can_stand" = true)
    (k__can_stand : PySem.W.keepIn K (.ref f__can_stand) = true)
    (a_first_wrong : PySem.W.nsIn K mainGlobals "first_wrong" = some (some (.ref f_first_wrong)))
    (l_first_wrong : K.lookup f_first_wrong = some ⟨oc_first_wrong, od_first_wrong, .func (PySem.W.fnOf "first_wrong" "first_wrong" (defArgs s_first_wrong) (defBody s_first_wrong) (defScope s_first_wrong) .none kV_first_wrong dc_first_wrong pm_first_wrong an_first_wrong cd_first_wrong ct_first_wrong), sl_first_wrong⟩)
    (c_first_wrong : PySem.W.codeIn K cd_first_wrong "first_wrong" = true)
    (k_first_wrong : PySem.W.keepIn K (.ref f_first_wrong) = true)
    (a_is_item : PySem.W.nsIn K mainGlobals "is_item" = some (some (.ref f_is_item)))
    (l_is_item : K.lookup f_is_item = some ⟨oc_is_item, od_is_item, .func (PySem.W.fnOf "is_item" "is_item" (defArgs s_is_item) (defBody s_is_item) (defScope s_is_item) .none kV_is_item dc_is_item pm_is_item an_is_item cd_is_item ct_is_item), sl_is_item⟩)
    (c_is_item : PySem.W.codeIn K cd_is_item "is_item" = true)
    (k_is_item : PySem.W.keepIn K (.ref f_is_item) = true)
    (a__check_arguments : PySem.W.nsIn K mainGlobals "_check_arguments" = some (some (.ref f__check_arguments)))
    (l__check_arguments : K.lookup f__check_arguments = some ⟨oc__check_arguments, od__check_arguments, .func (PySem.W.fnOf "_check_arguments" "_check_arguments" (defArgs s__check_arguments) (defBody s__check_arguments) (defScope s__check_arguments) .none kV__check_arguments dc__check_arguments pm__check_arguments an__check_arguments cd__check_arguments ct__check_arguments), sl__check_arguments⟩)
    (c__check_arguments : PySem.W.codeIn K cd__check_arguments "_check_arguments" = true)
    (k__check_arguments : PySem.W.keepIn K (.ref f__check_arguments) = true)
    (a__check_items : PySem.W.nsIn K mainGlobals "_check_items" = some (some (.ref f__check_items)))
    (l__check_items : K.lookup f__check_items = some ⟨oc__check_items, od__check_items, .func (PySem.W.fnOf "_check_items" "_check_items" (defArgs s__check_items) (defBody s__check_items) (defScope s__check_items) .none kV__check_items dc__check_items pm__check_items an__check_items cd__check_items ct__check_items), sl__check_items⟩)
    (c__check_items : PySem.W.codeIn K cd__check_items "_check_items" = true)
    (k__check_items : PySem.W.keepIn K (.ref f__check_items) = true)
    (a_bag : PySem.W.nsIn K mainGlobals "_law_bag" = some (some (.ref f_bag)))
    (l_bag : K.lookup f_bag = some ⟨oc_bag, od_bag, .func (PySem.W.fnOf "_law_bag" "_law_bag" (defArgs s_bag) (defBody s_bag) (defScope s_bag) .none kV_bag dc_bag pm_bag an_bag cd_bag ct_bag), sl_bag⟩)
    (c_bag : PySem.W.codeIn K cd_bag "_law_bag" = true)
    (k_bag : PySem.W.keepIn K (.ref f_bag) = true)
    (a_take : PySem.W.nsIn K mainGlobals "_law_take" = some (some (.ref f_take)))
    (l_take : K.lookup f_take = some ⟨oc_take, od_take, .func (PySem.W.fnOf "_law_take" "_law_take" (defArgs s_take) (defBody s_take) (defScope s_take) .none kV_take dc_take pm_take an_take cd_take ct_take), sl_take⟩)
    (c_take : PySem.W.codeIn K cd_take "_law_take" = true)
    (k_take : PySem.W.keepIn K (.ref f_take) = true)
    (a_one : PySem.W.nsIn K mainGlobals "_law_one" = some (some (.ref f_one)))
    (l_one : K.lookup f_one = some ⟨oc_one, od_one, .func (PySem.W.fnOf "_law_one" "_law_one" (defArgs s_one) (defBody s_one) (defScope s_one) .none kV_one dc_one pm_one an_one cd_one ct_one), sl_one⟩)
    (c_one : PySem.W.codeIn K cd_one "_law_one" = true)
    (k_one : PySem.W.keepIn K (.ref f_one) = true)
    (a_number : PySem.W.nsIn K mainGlobals "_law_number" = some (some (.ref f_number)))
    (l_number : K.lookup f_number = some ⟨oc_number, od_number, .func (PySem.W.fnOf "_law_number" "_law_number" (defArgs s_number) (defBody s_number) (defScope s_number) .none kV_number dc_number pm_number an_number cd_number ct_number), sl_number⟩)
    (c_number : PySem.W.codeIn K cd_number "_law_number" = true)
    (k_number : PySem.W.keepIn K (.ref f_number) = true)
    (a_kind : PySem.W.nsIn K mainGlobals "_law_kind" = some (some (.ref f_kind)))
    (l_kind : K.lookup f_kind = some ⟨oc_kind, od_kind, .func (PySem.W.fnOf "_law_kind" "_law_kind" (defArgs s_kind) (defBody s_kind) (defScope s_kind) .none kV_kind dc_kind pm_kind an_kind cd_kind ct_kind), sl_kind⟩)
    (c_kind : PySem.W.codeIn K cd_kind "_law_kind" = true)
    (k_kind : PySem.W.keepIn K (.ref f_kind) = true)
    (a_parts : PySem.W.nsIn K mainGlobals "_law_parts" = some (some (.ref f_parts)))
    (l_parts : K.lookup f_parts = some ⟨oc_parts, od_parts, .func (PySem.W.fnOf "_law_parts" "_law_parts" (defArgs s_parts) (defBody s_parts) (defScope s_parts) .none kV_parts dc_parts pm_parts an_parts cd_parts ct_parts), sl_parts⟩)
    (c_parts : PySem.W.codeIn K cd_parts "_law_parts" = true)
    (k_parts : PySem.W.keepIn K (.ref f_parts) = true)
    (a_book : PySem.W.nsIn K mainGlobals "_law_book" = some (some (.ref f_book)))
    (l_book : K.lookup f_book = some ⟨oc_book, od_book, .func (PySem.W.fnOf "_law_book" "_law_book" (defArgs s_book) (defBody s_book) (defScope s_book) .none kV_book dc_book pm_book an_book cd_book ct_book), sl_book⟩)
    (c_book : PySem.W.codeIn K cd_book "_law_book" = true)
    (k_book : PySem.W.keepIn K (.ref f_book) = true)
    (a_l_contrary : PySem.W.nsIn K mainGlobals "_law_contrary" = some (some (.ref f_l_contrary)))
    (l_l_contrary : K.lookup f_l_contrary = some ⟨oc_l_contrary, od_l_contrary, .func (PySem.W.fnOf "_law_contrary" "_law_contrary" (defArgs s_l_contrary) (defBody s_l_contrary) (defScope s_l_contrary) .none kV_l_contrary dc_l_contrary pm_l_contrary an_l_contrary cd_l_contrary ct_l_contrary), sl_l_contrary⟩)
    (c_l_contrary : PySem.W.codeIn K cd_l_contrary "_law_contrary" = true)
    (k_l_contrary : PySem.W.keepIn K (.ref f_l_contrary) = true)
    (a_contrary_parts : PySem.W.nsIn K mainGlobals "_law_contrary_parts" = some (some (.ref f_contrary_parts)))
    (l_contrary_parts : K.lookup f_contrary_parts = some ⟨oc_contrary_parts, od_contrary_parts, .func (PySem.W.fnOf "_law_contrary_parts" "_law_contrary_parts" (defArgs s_contrary_parts) (defBody s_contrary_parts) (defScope s_contrary_parts) .none kV_contrary_parts dc_contrary_parts pm_contrary_parts an_contrary_parts cd_contrary_parts ct_contrary_parts), sl_contrary_parts⟩)
    (c_contrary_parts : PySem.W.codeIn K cd_contrary_parts "_law_contrary_parts" = true)
    (k_contrary_parts : PySem.W.keepIn K (.ref f_contrary_parts) = true)
    (a_due : PySem.W.nsIn K mainGlobals "_law_due" = some (some (.ref f_due)))
    (l_due : K.lookup f_due = some ⟨oc_due, od_due, .func (PySem.W.fnOf "_law_due" "_law_due" (defArgs s_due) (defBody s_due) (defScope s_due) .none kV_due dc_due pm_due an_due cd_due ct_due), sl_due⟩)
    (c_due : PySem.W.codeIn K cd_due "_law_due" = true)
    (k_due : PySem.W.keepIn K (.ref f_due) = true)
    (a_shown : PySem.W.nsIn K mainGlobals "_law_shown" = some (some (.ref f_shown)))
    (l_shown : K.lookup f_shown = some ⟨oc_shown, od_shown, .func (PySem.W.fnOf "_law_shown" "_law_shown" (defArgs s_shown) (defBody s_shown) (defScope s_shown) .none kV_shown dc_shown pm_shown an_shown cd_shown ct_shown), sl_shown⟩)
    (c_shown : PySem.W.codeIn K cd_shown "_law_shown" = true)
    (k_shown : PySem.W.keepIn K (.ref f_shown) = true)
    (a_as_book : PySem.W.nsIn K mainGlobals "as_book" = some (some (.ref f_as_book)))
    (l_as_book : K.lookup f_as_book = some ⟨oc_as_book, od_as_book, .func (PySem.W.fnOf "as_book" "as_book" (defArgs s_as_book) (defBody s_as_book) (defScope s_as_book) .none kV_as_book dc_as_book pm_as_book an_as_book cd_as_book ct_as_book), sl_as_book⟩)
    (c_as_book : PySem.W.codeIn K cd_as_book "as_book" = true)
    (k_as_book : PySem.W.keepIn K (.ref f_as_book) = true)
    (a_denying_gap : PySem.W.nsIn K mainGlobals "denying_gap" = some (some (.ref f_denying_gap)))
    (l_denying_gap : K.lookup f_denying_gap = some ⟨oc_denying_gap, od_denying_gap, .func (PySem.W.fnOf "denying_gap" "denying_gap" (defArgs s_denying_gap) (defBody s_denying_gap) (defScope s_denying_gap) .none kV_denying_gap dc_denying_gap pm_denying_gap an_denying_gap cd_denying_gap ct_denying_gap), sl_denying_gap⟩)
    (c_denying_gap : PySem.W.codeIn K cd_denying_gap "denying_gap" = true)
    (k_denying_gap : PySem.W.keepIn K (.ref f_denying_gap) = true)
    (a_denying_bound : PySem.W.nsIn K mainGlobals "denying_bound" = some (some (.ref f_denying_bound)))
    (l_denying_bound : K.lookup f_denying_bound = some ⟨oc_denying_bound, od_denying_bound, .func (PySem.W.fnOf "denying_bound" "denying_bound" (defArgs s_denying_bound) (defBody s_denying_bound) (defScope s_denying_bound) .none kV_denying_bound dc_denying_bound pm_denying_bound an_denying_bound cd_denying_bound ct_denying_bound), sl_denying_bound⟩)
    (c_denying_bound : PySem.W.codeIn K cd_denying_bound "denying_bound" = true)
    (k_denying_bound : PySem.W.keepIn K (.ref f_denying_bound) = true)
    (a__denying_telling : PySem.W.nsIn K mainGlobals "_denying_telling" = some (some (.ref f__denying_telling)))
    (l__denying_telling : K.lookup f__denying_telling = some ⟨oc__denying_telling, od__denying_telling, .func (PySem.W.fnOf "_denying_telling" "_denying_telling" (defArgs s__denying_telling) (defBody s__denying_telling) (defScope s__denying_telling) .none kV__denying_telling dc__denying_telling pm__denying_telling an__denying_telling cd__denying_telling ct__denying_telling), sl__denying_telling⟩)
    (c__denying_telling : PySem.W.codeIn K cd__denying_telling "_denying_telling" = true)
    (k__denying_telling : PySem.W.keepIn K (.ref f__denying_telling) = true)
    (a__denying_clause : PySem.W.nsIn K mainGlobals "_denying_clause" = some (some (.ref f__denying_clause)))
    (l__denying_clause : K.lookup f__denying_clause = some ⟨oc__denying_clause, od__denying_clause, .func (PySem.W.fnOf "_denying_clause" "_denying_clause" (defArgs s__denying_clause) (defBody s__denying_clause) (defScope s__denying_clause) .none kV__denying_clause dc__denying_clause pm__denying_clause an__denying_clause cd__denying_clause ct__denying_clause), sl__denying_clause⟩)
    (c__denying_clause : PySem.W.codeIn K cd__denying_clause "_denying_clause" = true)
    (k__denying_clause : PySem.W.keepIn K (.ref f__denying_clause) = true)
    (a__denying : PySem.W.nsIn K mainGlobals "_denying" = some (some (.ref f__denying)))
    (l__denying : K.lookup f__denying = some ⟨oc__denying, od__denying, .func (PySem.W.fnOf "_denying" "_denying" (defArgs s__denying) (defBody s__denying) (defScope s__denying) .none kV__denying dc__denying pm__denying an__denying cd__denying ct__denying), sl__denying⟩)
    (c__denying : PySem.W.codeIn K cd__denying "_denying" = true)
    (k__denying : PySem.W.keepIn K (.ref f__denying) = true)
    (a_contraries : PySem.W.nsIn K mainGlobals "contraries" = some (some (.ref f_contraries)))
    (l_contraries : K.lookup f_contraries = some ⟨oc_contraries, od_contraries, .func (PySem.W.fnOf "contraries" "contraries" (defArgs s_contraries) (defBody s_contraries) (defScope s_contraries) .none kV_contraries dc_contraries pm_contraries an_contraries cd_contraries ct_contraries), sl_contraries⟩)
    (c_contraries : PySem.W.codeIn K cd_contraries "contraries" = true)
    (k_contraries : PySem.W.keepIn K (.ref f_contraries) = true)
    (a_law : PySem.W.nsIn K mainGlobals "law" = some (some (.ref f_law)))
    (l_law : K.lookup f_law = some ⟨oc_law, od_law, .func (PySem.W.fnOf "law" "law" (defArgs s_law) (defBody s_law) (defScope s_law) .none kV_law dc_law pm_law an_law cd_law ct_law), sl_law⟩)
    (c_law : PySem.W.codeIn K cd_law "law" = true)
    (k_law : PySem.W.keepIn K (.ref f_law) = true)
    (z_len : PySem.W.nsIn K mainGlobals "len" = some none)
    (z_isinstance : PySem.W.nsIn K mainGlobals "isinstance" = some none)
    (z_int : PySem.W.nsIn K mainGlobals "int" = some none)
    (z_bool : PySem.W.nsIn K mainGlobals "bool" = some none)
    (z_str : PySem.W.nsIn K mainGlobals "str" = some none)
    (z_list : PySem.W.nsIn K mainGlobals "list" = some none)
    (z_tuple : PySem.W.nsIn K mainGlobals "tuple" = some none)
    (z_range : PySem.W.nsIn K mainGlobals "range" = some none)
    (z_enumerate : PySem.W.nsIn K mainGlobals "enumerate" = some none)
    (z_zip : PySem.W.nsIn K mainGlobals "zip" = some none)
    (z_abs : PySem.W.nsIn K mainGlobals "abs" = some none)
    (z_repr : PySem.W.nsIn K mainGlobals "repr" = some none)
    (z_min : PySem.W.nsIn K mainGlobals "min" = some none)
    (z_max : PySem.W.nsIn K mainGlobals "max" = some none)
    (z_sum : PySem.W.nsIn K mainGlobals "sum" = some none)
    (z_all : PySem.W.nsIn K mainGlobals "all" = some none)
    (gGN : PySem.W.nsIn K mainGlobals "GREATEST_NUMBER" = some (some (.int 1000000000000000 tGN)))
    (gForms : PySem.W.nsIn K mainGlobals "FORMS" = some (some (.ref aForms)))
    (lForms : K.lookup aForms = some { cls := .type "dict", data := .dict esF nF })
    (kForms : PySem.W.KeysLit w.params esF.toList)
    (ntel : PySem.W.nsIn K aForms "tellings" = some (some (.ref a_tel)))
    (ltel : K.lookup a_tel = some ⟨.type "tuple", od_tel, .seq #[.str "witness" t_tel0, .str "event" t_tel1, .str "number" t_tel2] n_tel, sl_tel⟩)
    (ngap : PySem.W.nsIn K aForms "gaps" = some (some (.ref a_gap)))
    (lgap : K.lookup a_gap = some ⟨.type "tuple", od_gap, .seq #[.str "event" t_gap0, .str "another event" t_gap1, .str "number" t_gap2] n_gap, sl_gap⟩)
    (nsur : PySem.W.nsIn K aForms "sure" = some (some (.ref a_sur)))
    (lsur : K.lookup a_sur = some ⟨.type "tuple", od_sur, .seq #[.str "event" t_sur0, .str "side" t_sur1, .str "number" t_sur2] n_sur, sl_sur⟩)
    (ncla : PySem.W.nsIn K aForms "clauses" = some (some (.ref a_cla)))
    (lcla : K.lookup a_cla = some ⟨.type "tuple", od_cla, .seq #[.str "witness" t_cla0, .str "kind" t_cla1, .str "witness" t_cla2, .str "kind" t_cla3] n_cla, sl_cla⟩)
    (gParts : PySem.W.nsIn K mainGlobals "PARTS" = some (some (.ref aParts)))
    (lParts : K.lookup aParts = some ⟨.type "tuple", odP, .seq #[.str "tellings" p1, .str "gaps" p2, .str "sure" p3, .str "clauses" p4] nP, slP⟩)
    (gtE : PySem.W.nsIn K mainGlobals "MOST_EVENTS" = some (some (.int 8 tE)))
    (gtW : PySem.W.nsIn K mainGlobals "MOST_WITNESSES" = some (some (.int 8 tW)))
    (gtI : PySem.W.nsIn K mainGlobals "MOST_ITEMS" = some (some (.int 24 tI)))
    (aC : PySem.W.nsIn K mainGlobals "Book" = some (some (.ref C)))
    (iC : PySem.W.findIn K (.ref C) "__init__" = some (some (.ref fI)))
    (fI_ : PySem.W.isFn K (.ref fI) = true)
    (lI : K.lookup fI = some ⟨ocI, odI, .func (PySem.W.fnOf "__init__" "Book.__init__" (defArgs s_Book_init) (defBody s_Book_init) (defScope s_Book_init) (.ref aT) kVI dcI pmI anI cdI ctI), slI⟩)
    (cI : PySem.W.codeIn K cdI "Book.__init__" = true)
    (kI : PySem.W.keepIn K (.ref fI) = true)
    (lT : K.lookup aT = some ⟨ocT, odT, .seq [.ref d1, .ref d2, .ref d3, .ref d4].toArray nT, slT⟩)
    (ld1 : K.lookup d1 = some ⟨.type "tuple", o1, .seq #[] n1, s1⟩)
    (ld2 : K.lookup d2 = some ⟨.type "tuple", o2, .seq #[] n2, s2⟩)
    (ld3 : K.lookup d3 = some ⟨.type "tuple", o3, .seq #[] n3, s3⟩)
    (ld4 : K.lookup d4 = some ⟨.type "tuple", o4, .seq #[] n4, s4⟩)
    (pg : PySem.W.plainGet K C Str.empty = true)
    (hd : PySem.W.hasDictIn K C = true)
    (po : PySem.W.plainOver K C = true)
    (sa : PySem.W.findIn K (.ref C) "__setattr__" = some (some (.builtin "object.__setattr__")))
    (mkC : PySem.W.makesIn K C = true)
    (kC : PySem.W.keepIn K (.ref C) = true)
    (nf0 : PySem.W.findIn K (.ref C) "_events" = some none)
    (nf1 : PySem.W.findIn K (.ref C) "_witnesses" = some none)
    (nf2 : PySem.W.findIn K (.ref C) "_tellings" = some none)
    (nf3 : PySem.W.findIn K (.ref C) "_gaps" = some none)
    (nf4 : PySem.W.findIn K (.ref C) "_sure" = some none)
    (nf5 : PySem.W.findIn K (.ref C) "_clauses" = some none)
    (oc1 : PySem.W.findIn K (.ref C) "__class__" = some (some (.builtin "object.__class__")))
    (oc2 : PySem.W.specialIn K (.builtin "object.__class__") "__get__" = some (some (.builtin "getset_descriptor.__get__")))
    (oc3 : PySem.W.takesIn K (.builtin "object.__class__") = some true)
    (oc4 : PySem.W.mroIn K C (.type "object") = some true)
    (kt0 : PySem.W.mroIn K C (.type "int") = some false)
    (kt1 : PySem.W.mroIn K C (.type "bool") = some false)
    (kt2 : PySem.W.mroIn K C (.type "str") = some false)
    (kt3 : PySem.W.mroIn K C (.type "tuple") = some false)
    (kt4 : PySem.W.mroIn K C (.type "list") = some false)
    (aL : PySem.W.nsIn K mainGlobals "Longer" = some (some (.ref CLo)))
    (iL : PySem.W.findIn K (.ref CLo) "__init__" = some (some (.ref fLI)))
    (lLI : K.lookup fLI = some ⟨ocLI, odLI, .func (PySem.W.fnOf "__init__" "Longer.__init__" (defArgs s_Longer_init) (defBody s_Longer_init) (defScope s_Longer_init) (.ref aTL) kVLI dcLI pmLI anLI cdLI ctLI), slLI⟩)
    (cLI : PySem.W.codeIn K cdLI "Longer.__init__" = true)
    (kLI : PySem.W.keepIn K (.ref fLI) = true)
    (lTL : K.lookup aTL = some ⟨ocTL, odTL, .seq [.ref e1, .ref e2, .ref e3, .ref e4].toArray nTL, slTL⟩)
    (le1 : K.lookup e1 = some ⟨.type "tuple", oe1, .seq #[] ne1, se1⟩)
    (le2 : K.lookup e2 = some ⟨.type "tuple", oe2, .seq #[] ne2, se2⟩)
    (le3 : K.lookup e3 = some ⟨.type "tuple", oe3, .seq #[] ne3, se3⟩)
    (le4 : K.lookup e4 = some ⟨.type "tuple", oe4, .seq #[] ne4, se4⟩)
    (fL_ : PySem.W.isFn K (.ref fLI) = true)
    (pgR : PySem.W.plainGet K CLo Str.empty = true)
    (hdR : PySem.W.hasDictIn K CLo = true)
    (poR : PySem.W.plainOver K CLo = true)
    (saR : PySem.W.findIn K (.ref CLo) "__setattr__" = some (some (.builtin "object.__setattr__")))
    (mkR : PySem.W.makesIn K CLo = true)
    (kR : PySem.W.keepIn K (.ref CLo) = true)
    (nr0 : PySem.W.findIn K (.ref CLo) "_events" = some none)
    (nr1 : PySem.W.findIn K (.ref CLo) "_witnesses" = some none)
    (nr2 : PySem.W.findIn K (.ref CLo) "_tellings" = some none)
    (nr3 : PySem.W.findIn K (.ref CLo) "_gaps" = some none)
    (nr4 : PySem.W.findIn K (.ref CLo) "_sure" = some none)
    (nr5 : PySem.W.findIn K (.ref CLo) "_clauses" = some none)
    (ocR1 : PySem.W.findIn K (.ref CLo) "__class__" = some (some (.builtin "object.__class__")))
    (ocR4 : PySem.W.mroIn K CLo (.type "object") = some true)
    (ktR0 : PySem.W.mroIn K CLo (.type "int") = some false)
    (ktR1 : PySem.W.mroIn K CLo (.type "bool") = some false)
    (ktR2 : PySem.W.mroIn K CLo (.type "str") = some false)
    (ktR3 : PySem.W.mroIn K CLo (.type "tuple") = some false)
    (ktR4 : PySem.W.mroIn K CLo (.type "list") = some false)
    (u1_events : PySem.W.findIn K (.ref C) "events" = some (some (.ref q_events)))
    (u2_events : PySem.W.specialIn K (.ref q_events) "__get__" = some (some (.builtin "property.__get__")))
    (u3_events : PySem.W.takesIn K (.ref q_events) = some true)
    (u4_events : PySem.W.recIn K q_events "property" = some (.ref g_events :: rs_events))
    (u5_events : K.lookup g_events = some ⟨ocg_events, odg_events, .func (PySem.W.fnOf "events" "Book.events" (defArgs s_Book_events) (defBody s_Book_events) (defScope s_Book_events) .none kVg_events dcg_events pmg_events ang_events cdg_events ctg_events), slg_events⟩)
    (u6_events : PySem.W.codeIn K cdg_events "Book.events" = true)
    (u7_events : PySem.W.keepIn K (.ref g_events) = true)
    (u1r_events : PySem.W.findIn K (.ref CLo) "events" = some (some (.ref q_events)))
    (u1_witnesses : PySem.W.findIn K (.ref C) "witnesses" = some (some (.ref q_witnesses)))
    (u2_witnesses : PySem.W.specialIn K (.ref q_witnesses) "__get__" = some (some (.builtin "property.__get__")))
    (u3_witnesses : PySem.W.takesIn K (.ref q_witnesses) = some true)
    (u4_witnesses : PySem.W.recIn K q_witnesses "property" = some (.ref g_witnesses :: rs_witnesses))
    (u5_witnesses : K.lookup g_witnesses = some ⟨ocg_witnesses, odg_witnesses, .func (PySem.W.fnOf "witnesses" "Book.witnesses" (defArgs s_Book_witnesses) (defBody s_Book_witnesses) (defScope s_Book_witnesses) .none kVg_witnesses dcg_witnesses pmg_witnesses ang_witnesses cdg_witnesses ctg_witnesses), slg_witnesses⟩)
    (u6_witnesses : PySem.W.codeIn K cdg_witnesses "Book.witnesses" = true)
    (u7_witnesses : PySem.W.keepIn K (.ref g_witnesses) = true)
    (u1r_witnesses : PySem.W.findIn K (.ref CLo) "witnesses" = some (some (.ref q_witnesses)))
    (u1_tellings : PySem.W.findIn K (.ref C) "tellings" = some (some (.ref q_tellings)))
    (u2_tellings : PySem.W.specialIn K (.ref q_tellings) "__get__" = some (some (.builtin "property.__get__")))
    (u3_tellings : PySem.W.takesIn K (.ref q_tellings) = some true)
    (u4_tellings : PySem.W.recIn K q_tellings "property" = some (.ref g_tellings :: rs_tellings))
    (u5_tellings : K.lookup g_tellings = some ⟨ocg_tellings, odg_tellings, .func (PySem.W.fnOf "tellings" "Book.tellings" (defArgs s_Book_tellings) (defBody s_Book_tellings) (defScope s_Book_tellings) .none kVg_tellings dcg_tellings pmg_tellings ang_tellings cdg_tellings ctg_tellings), slg_tellings⟩)
    (u6_tellings : PySem.W.codeIn K cdg_tellings "Book.tellings" = true)
    (u7_tellings : PySem.W.keepIn K (.ref g_tellings) = true)
    (u1r_tellings : PySem.W.findIn K (.ref CLo) "tellings" = some (some (.ref q_tellings)))
    (u1_gaps : PySem.W.findIn K (.ref C) "gaps" = some (some (.ref q_gaps)))
    (u2_gaps : PySem.W.specialIn K (.ref q_gaps) "__get__" = some (some (.builtin "property.__get__")))
    (u3_gaps : PySem.W.takesIn K (.ref q_gaps) = some true)
    (u4_gaps : PySem.W.recIn K q_gaps "property" = some (.ref g_gaps :: rs_gaps))
    (u5_gaps : K.lookup g_gaps = some ⟨ocg_gaps, odg_gaps, .func (PySem.W.fnOf "gaps" "Book.gaps" (defArgs s_Book_gaps) (defBody s_Book_gaps) (defScope s_Book_gaps) .none kVg_gaps dcg_gaps pmg_gaps ang_gaps cdg_gaps ctg_gaps), slg_gaps⟩)
    (u6_gaps : PySem.W.codeIn K cdg_gaps "Book.gaps" = true)
    (u7_gaps : PySem.W.keepIn K (.ref g_gaps) = true)
    (u1r_gaps : PySem.W.findIn K (.ref CLo) "gaps" = some (some (.ref q_gaps)))
    (u1_sure : PySem.W.findIn K (.ref C) "sure" = some (some (.ref q_sure)))
    (u2_sure : PySem.W.specialIn K (.ref q_sure) "__get__" = some (some (.builtin "property.__get__")))
    (u3_sure : PySem.W.takesIn K (.ref q_sure) = some true)
    (u4_sure : PySem.W.recIn K q_sure "property" = some (.ref g_sure :: rs_sure))
    (u5_sure : K.lookup g_sure = some ⟨ocg_sure, odg_sure, .func (PySem.W.fnOf "sure" "Book.sure" (defArgs s_Book_sure) (defBody s_Book_sure) (defScope s_Book_sure) .none kVg_sure dcg_sure pmg_sure ang_sure cdg_sure ctg_sure), slg_sure⟩)
    (u6_sure : PySem.W.codeIn K cdg_sure "Book.sure" = true)
    (u7_sure : PySem.W.keepIn K (.ref g_sure) = true)
    (u1r_sure : PySem.W.findIn K (.ref CLo) "sure" = some (some (.ref q_sure)))
    (u1_clauses : PySem.W.findIn K (.ref C) "clauses" = some (some (.ref q_clauses)))
    (u2_clauses : PySem.W.specialIn K (.ref q_clauses) "__get__" = some (some (.builtin "property.__get__")))
    (u3_clauses : PySem.W.takesIn K (.ref q_clauses) = some true)
    (u4_clauses : PySem.W.recIn K q_clauses "property" = some (.ref g_clauses :: rs_clauses))
    (u5_clauses : K.lookup g_clauses = some ⟨ocg_clauses, odg_clauses, .func (PySem.W.fnOf "clauses" "Book.clauses" (defArgs s_Book_clauses) (defBody s_Book_clauses) (defScope s_Book_clauses) .none kVg_clauses dcg_clauses pmg_clauses ang_clauses cdg_clauses ctg_clauses), slg_clauses⟩)
    (u6_clauses : PySem.W.codeIn K cdg_clauses "Book.clauses" = true)
    (u7_clauses : PySem.W.keepIn K (.ref g_clauses) = true)
    (u1r_clauses : PySem.W.findIn K (.ref CLo) "clauses" = some (some (.ref q_clauses))) :
    ∃ fd : FuncData, (∀ (s : Shared) (v : Value), BindsTo s fd ⟨[v], []⟩ [("_law_script", v)]) ∧ ∀ base : Heap, K.In base → base.Ns mainGlobals mg → FnG P w K mg base CX0 11 fa fd ["_law_script"] (spLaw K) := by
  have e := hfa.symm.trans (PySem.W.mg_of X G a_law)
  cases e
  have F_is_integer := fun_mk (st := s_is_integer) l_is_integer c_is_integer k_is_integer
  have b_is_integer := F_is_integer.binds (ps := ["thing"]) fun _ _ _ _ _ _ us hl => match us, hl with | [_], _ => rfl
  have F_is_number := fun_mk (st := s_is_number) l_is_number c_is_number k_is_number
  have b_is_number := F_is_number.binds (ps := ["thing"]) fun _ _ _ _ _ _ us hl => match us, hl with | [_], _ => rfl
  have F_is_kind := fun_mk (st := s_is_kind) l_is_kind c_is_kind k_is_kind
  have b_is_kind := F_is_kind.binds (ps := ["thing"]) fun _ _ _ _ _ _ us hl => match us, hl with | [_], _ => rfl
  have F_contrary := fun_mk (st := s_contrary) l_contrary c_contrary k_contrary
  have b_contrary := F_contrary.binds (ps := ["kind"]) fun _ _ _ _ _ _ us hl => match us, hl with | [_], _ => rfl
  have F_is_tuple := fun_mk (st := s_is_tuple) l_is_tuple c_is_tuple k_is_tuple
  have b_is_tuple := F_is_tuple.binds (ps := ["thing", "many"]) fun _ _ _ _ _ _ us hl => match us, hl with | [_, _], _ => rfl
  have F_is_below := fun_mk (st := s_is_below) l_is_below c_is_below k_is_below
  have b_is_below := F_is_below.binds (ps := ["thing", "many"]) fun _ _ _ _ _ _ us hl => match us, hl with | [_, _], _ => rfl
  have F_is_side := fun_mk (st := s_is_side) l_is_side c_is_side k_is_side
  have b_is_side := F_is_side.binds (ps := ["thing"]) fun _ _ _ _ _ _ us hl => match us, hl with | [_], _ => rfl
  have F__can_stand := fun_mk (st := s__can_stand) l__can_stand c__can_stand k__can_stand
  have b__can_stand := F__can_stand.binds (ps := ["word", "values", "place", "events", "witnesses"]) fun _ _ _ _ _ _ us hl => match us, hl with | [_, _, _, _, _], _ => rfl
  have F_first_wrong := fun_mk (st := s_first_wrong) l_first_wrong c_first_wrong k_first_wrong
  have b_first_wrong := F_first_wrong.binds (ps := ["part", "values", "events", "witnesses"]) fun _ _ _ _ _ _ us hl => match us, hl with | [_, _, _, _], _ => rfl
  have F_is_item := fun_mk (st := s_is_item) l_is_item c_is_item k_is_item
  have b_is_item := F_is_item.binds (ps := ["part", "thing", "events", "witnesses"]) fun _ _ _ _ _ _ us hl => match us, hl with | [_, _, _, _], _ => rfl
  have F__check_arguments := fun_mk (st := s__check_arguments) l__check_arguments c__check_arguments k__check_arguments
  have b__check_arguments := F__check_arguments.binds (ps := ["events", "witnesses", "parts"]) fun _ _ _ _ _ _ us hl => match us, hl with | [_, _, _], _ => rfl
  have F__check_items := fun_mk (st := s__check_items) l__check_items c__check_items k__check_items
  have b__check_items := F__check_items.binds (ps := ["place", "part", "items", "events", "witnesses"]) fun _ _ _ _ _ _ us hl => match us, hl with | [_, _, _, _, _], _ => rfl
  have F_bag := fun_mk (st := s_bag) l_bag c_bag k_bag
  have b_bag := F_bag.binds (ps := ["_law_script"]) fun _ _ _ _ _ _ us hl => match us, hl with | [_], _ => rfl
  have F_take := fun_mk (st := s_take) l_take c_take k_take
  have b_take := F_take.binds (ps := ["_law_bag_here", "_law_many"]) fun _ _ _ _ _ _ us hl => match us, hl with | [_, _], _ => rfl
  have F_one := fun_mk (st := s_one) l_one c_one k_one
  have b_one := F_one.binds (ps := ["_law_bag_here", "_law_menu"]) fun _ _ _ _ _ _ us hl => match us, hl with | [_, _], _ => rfl
  have F_number := fun_mk (st := s_number) l_number c_number k_number
  have b_number := F_number.binds (ps := ["_law_bag_here"]) fun _ _ _ _ _ _ us hl => match us, hl with | [_], _ => rfl
  have F_kind := fun_mk (st := s_kind) l_kind c_kind k_kind
  have b_kind := F_kind.binds (ps := ["_law_bag_here"]) fun _ _ _ _ _ _ us hl => match us, hl with | [_], _ => rfl
  have F_parts := fun_mk (st := s_parts) l_parts c_parts k_parts
  have b_parts := F_parts.binds (ps := ["_law_bag_here", "_law_events", "_law_witnesses", "_law_most"]) fun _ _ _ _ _ _ us hl => match us, hl with | [_, _, _, _], _ => rfl
  have F_book := fun_mk (st := s_book) l_book c_book k_book
  have b_book := F_book.binds (ps := ["_law_events", "_law_witnesses", "_law_parts_here"]) fun _ _ _ _ _ _ us hl => match us, hl with | [_, _, _], _ => rfl
  have F_l_contrary := fun_mk (st := s_l_contrary) l_l_contrary c_l_contrary k_l_contrary
  have b_l_contrary := F_l_contrary.binds (ps := ["_law_kind_here"]) fun _ _ _ _ _ _ us hl => match us, hl with | [_], _ => rfl
  have F_contrary_parts := fun_mk (st := s_contrary_parts) l_contrary_parts c_contrary_parts k_contrary_parts
  have b_contrary_parts := F_contrary_parts.binds (ps := ["_law_parts_here", "_law_part", "_law_item"]) fun _ _ _ _ _ _ us hl => match us, hl with | [_, _, _], _ => rfl
  have F_due := fun_mk (st := s_due) l_due c_due k_due
  have b_due := F_due.binds (ps := ["_law_events", "_law_witnesses", "_law_parts_here"]) fun _ _ _ _ _ _ us hl => match us, hl with | [_, _, _], _ => rfl
  have F_shown := fun_mk (st := s_shown) l_shown c_shown k_shown
  have b_shown := F_shown.binds (ps := ["_law_book_here"]) fun _ _ _ _ _ _ us hl => match us, hl with | [_], _ => rfl
  have F_as_book := fun_mk (st := s_as_book) l_as_book c_as_book k_as_book
  have b_as_book := F_as_book.binds (ps := ["longer"]) fun _ _ _ _ _ _ us hl => match us, hl with | [_], _ => rfl
  have F_denying_gap := fun_mk (st := s_denying_gap) l_denying_gap c_denying_gap k_denying_gap
  have b_denying_gap := F_denying_gap.binds (ps := ["book", "a", "b", "g"]) fun _ _ _ _ _ _ us hl => match us, hl with | [_, _, _, _], _ => rfl
  have F_denying_bound := fun_mk (st := s_denying_bound) l_denying_bound c_denying_bound k_denying_bound
  have b_denying_bound := F_denying_bound.binds (ps := ["book", "e", "side", "x"]) fun _ _ _ _ _ _ us hl => match us, hl with | [_, _, _, _], _ => rfl
  have F__denying_telling := fun_mk (st := s__denying_telling) l__denying_telling c__denying_telling k__denying_telling
  have b__denying_telling := F__denying_telling.binds (ps := ["book", "w", "e", "x"]) fun _ _ _ _ _ _ us hl => match us, hl with | [_, _, _, _], _ => rfl
  have F__denying_clause := fun_mk (st := s__denying_clause) l__denying_clause c__denying_clause k__denying_clause
  have b__denying_clause := F__denying_clause.binds (ps := ["book", "w", "kind", "v", "other"]) fun _ _ _ _ _ _ us hl => match us, hl with | [_, _, _, _, _], _ => rfl
  have F__denying := fun_mk (st := s__denying) l__denying c__denying k__denying
  have b__denying := F__denying.binds (ps := ["book", "sort", "item"]) fun _ _ _ _ _ _ us hl => match us, hl with | [_, _, _], _ => rfl
  have F_contraries := fun_mk (st := s_contraries) l_contraries c_contraries k_contraries
  have b_contraries := F_contraries.binds (ps := ["book", "sort", "item"]) fun _ _ _ _ _ _ us hl => match us, hl with | [_, _, _], _ => rfl
  have F_law := fun_mk (st := s_law) l_law c_law k_law
  have b_law := F_law.binds (ps := ["_law_script"]) fun _ _ _ _ _ _ us hl => match us, hl with | [_], _ => rfl
  have B : Bi mg := ⟨PySem.W.mg_none_of X G z_len, PySem.W.mg_none_of X G z_isinstance, PySem.W.mg_none_of X G z_int, PySem.W.mg_none_of X G z_bool, PySem.W.mg_none_of X G z_str, PySem.W.mg_none_of X G z_list, PySem.W.mg_none_of X G z_tuple, PySem.W.mg_none_of X G z_range, PySem.W.mg_none_of X G z_enumerate, PySem.W.mg_none_of X G z_zip, PySem.W.mg_none_of X G z_abs, PySem.W.mg_none_of X G z_repr, PySem.W.mg_none_of X G z_min, PySem.W.mg_none_of X G z_max, PySem.W.mg_none_of X G z_sum, PySem.W.mg_none_of X G z_all⟩
  have Tl : Tb mg := ⟨B⟩
  have Tw : Wo K mg := ⟨B, ⟨_, PySem.W.mg_of X G gGN, ⟨_, rfl⟩⟩⟩
  have Ti : It4 K w mg aForms aParts := ⟨B, PySem.W.mg_of X G gForms, PySem.W.mg_of X G gParts, fun p => match p with
    | .tel => ⟨a_tel, ⟨_, _, _, lForms, kForms, ntel, rfl⟩, fun H => .inr ⟨_, _, _, ltel, rfl, rfl, by show 3 ≤ sizeLine; decide, .cons ⟨_, rfl⟩ (.cons ⟨_, rfl⟩ (.cons ⟨_, rfl⟩ (.nil)))⟩⟩
    | .gap => ⟨a_gap, ⟨_, _, _, lForms, kForms, ngap, rfl⟩, fun H => .inr ⟨_, _, _, lgap, rfl, rfl, by show 3 ≤ sizeLine; decide, .cons ⟨_, rfl⟩ (.cons ⟨_, rfl⟩ (.cons ⟨_, rfl⟩ (.nil)))⟩⟩
    | .sur => ⟨a_sur, ⟨_, _, _, lForms, kForms, nsur, rfl⟩, fun H => .inr ⟨_, _, _, lsur, rfl, rfl, by show 3 ≤ sizeLine; decide, .cons ⟨_, rfl⟩ (.cons ⟨_, rfl⟩ (.cons ⟨_, rfl⟩ (.nil)))⟩⟩
    | .cla => ⟨a_cla, ⟨_, _, _, lForms, kForms, ncla, rfl⟩, fun H => .inr ⟨_, _, _, lcla, rfl, rfl, by show 4 ≤ sizeLine; decide, .cons ⟨_, rfl⟩ (.cons ⟨_, rfl⟩ (.cons ⟨_, rfl⟩ (.cons ⟨_, rfl⟩ (.nil))))⟩⟩,
    fun H => .inr ⟨_, _, _, lParts, rfl, rfl, by show 4 ≤ sizeLine; decide, .cons ⟨_, rfl⟩ (.cons ⟨_, rfl⟩ (.cons ⟨_, rfl⟩ (.cons ⟨_, rfl⟩ .nil)))⟩⟩
  have Tbo : BoT K w mg aForms aParts := { toIt4 := Ti, toBo := ⟨⟨_, PySem.W.mg_of X G gtE, ⟨_, rfl⟩⟩, ⟨_, PySem.W.mg_of X G gtW, ⟨_, rfl⟩⟩, ⟨_, PySem.W.mg_of X G gtI, ⟨_, rfl⟩⟩⟩ }
  have Bk : BkC K C := ⟨⟨⟨pg, hd, po, sa⟩, oc1, oc2, oc3, oc4, own_kit rfl kt0, own_kit rfl kt1, own_kit rfl kt2, own_kit rfl kt3, own_kit rfl kt4⟩, nf0, nf1, nf2, nf3, nf4, nf5⟩
  have F_init : FunD K "__init__" "Book.__init__" (defArgs s_Book_init) (defBody s_Book_init) (defScope s_Book_init) [.ref d1, .ref d2, .ref d3, .ref d4] [] fI _ := ⟨⟨_, _, _, _, _, _, _, _, _, _, rfl, lI, cI, .inr ⟨(fun z => nomatch z), _, _, _, _, rfl, lT, rfl, .cons rfl (.cons rfl (.cons rfl (.cons rfl .nil)))⟩, .inl rfl⟩, kI⟩
  obtain ⟨ds, v2, b2⟩ := F_init.binds1 (ps := psBook) 3 0 (fun z => nomatch z) rfl fun T kV doc pm an cdv ct us its h1 h2 => match us, its, h1, h2 with | [_, _, _], [_, _, _, _], _, _ => ⟨_, rfl, rfl⟩
  obtain ⟨ds4, v4, b4⟩ := F_init.binds1 (ps := psBook) 5 2 (fun z => nomatch z) rfl fun T kV doc pm an cdv ct us its h1 h2 => match us, its, h1, h2 with | [_, _, _, _, _], [_, _, _, _], _, _ => ⟨_, rfl, rfl⟩
  obtain ⟨ds3, v3, b3⟩ := F_init.binds1 (ps := psBook) 4 1 (fun z => nomatch z) rfl fun T kV doc pm an cdv ct us its h1 h2 => match us, its, h1, h2 with | [_, _, _, _], [_, _, _, _], _, _ => ⟨_, rfl, rfl⟩
  obtain ⟨ds0, v0, b0⟩ := F_init.binds1 (ps := psBook) 7 4 (fun z => nomatch z) rfl fun T kV doc pm an cdv ct us its h1 h2 => match us, its, h1, h2 with | [_, _, _, _, _, _, _], [_, _, _, _], _, _ => ⟨_, rfl, rfl⟩
  have e0 : ds0 = [] := by cases v0; rfl
  subst e0
  have F_LI : FunD K "__init__" "Longer.__init__" (defArgs s_Longer_init) (defBody s_Longer_init) (defScope s_Longer_init) [.ref e1, .ref e2, .ref e3, .ref e4] [] fLI _ := ⟨⟨_, _, _, _, _, _, _, _, _, _, rfl, lLI, cLI, .inr ⟨(fun z => nomatch z), _, _, _, _, rfl, lTL, rfl, .cons rfl (.cons rfl (.cons rfl (.cons rfl .nil)))⟩, .inl rfl⟩, kLI⟩
  obtain ⟨iL1, kL1⟩ := F_LI.kbindsD (ps := psLong) 2 ["gaps"] (fun {α} us its ws => putK 1 1 us its ws) (fun z => nomatch z) (fun a b c => putK_rel a b c) fun T kV doc pm an cdv ct us its ws h1 h2 h3 => match us, its, ws, h1, h2, h3 with | [_, _], [_, _, _, _], [_], _, _, _ => ⟨_, rfl, rfl⟩
  obtain ⟨iL2, kL2⟩ := F_LI.kbindsD (ps := psLong) 2 ["sure"] (fun {α} us its ws => putK 2 1 us its ws) (fun z => nomatch z) (fun a b c => putK_rel a b c) fun T kV doc pm an cdv ct us its ws h1 h2 h3 => match us, its, ws, h1, h2, h3 with | [_, _], [_, _, _, _], [_], _, _, _ => ⟨_, rfl, rfl⟩
  obtain ⟨iL3, kL3⟩ := F_LI.kbindsD (ps := psLong) 2 ["clauses"] (fun {α} us its ws => putK 3 1 us its ws) (fun z => nomatch z) (fun a b c => putK_rel a b c) fun T kV doc pm an cdv ct us its ws h1 h2 h3 => match us, its, ws, h1, h2, h3 with | [_, _], [_, _, _, _], [_], _, _, _ => ⟨_, rfl, rfl⟩
  obtain ⟨iL4, kL4⟩ := F_LI.kbindsD (ps := psLong) 2 ["sure", "clauses"] (fun {α} us its ws => putK 2 2 us its ws) (fun z => nomatch z) (fun a b c => putK_rel a b c) fun T kV doc pm an cdv ct us its ws h1 h2 h3 => match us, its, ws, h1, h2, h3 with | [_, _], [_, _, _, _], [_, _], _, _, _ => ⟨_, rfl, rfl⟩
  have BkR : BkC K CLo := ⟨⟨⟨pgR, hdR, poR, saR⟩, ocR1, oc2, oc3, ocR4, own_kit rfl ktR0, own_kit rfl ktR1, own_kit rfl ktR2, own_kit rfl ktR3, own_kit rfl ktR4⟩, nr0, nr1, nr2, nr3, nr4, nr5⟩
  have F_g_events := fun_mk (st := s_Book_events) u5_events u6_events u7_events
  have b_g_events := F_g_events.binds (ps := ["self"]) fun _ _ _ _ _ _ us hl => match us, hl with | [_], _ => rfl
  have F_g_witnesses := fun_mk (st := s_Book_witnesses) u5_witnesses u6_witnesses u7_witnesses
  have b_g_witnesses := F_g_witnesses.binds (ps := ["self"]) fun _ _ _ _ _ _ us hl => match us, hl with | [_], _ => rfl
  have F_g_tellings := fun_mk (st := s_Book_tellings) u5_tellings u6_tellings u7_tellings
  have b_g_tellings := F_g_tellings.binds (ps := ["self"]) fun _ _ _ _ _ _ us hl => match us, hl with | [_], _ => rfl
  have F_g_gaps := fun_mk (st := s_Book_gaps) u5_gaps u6_gaps u7_gaps
  have b_g_gaps := F_g_gaps.binds (ps := ["self"]) fun _ _ _ _ _ _ us hl => match us, hl with | [_], _ => rfl
  have F_g_sure := fun_mk (st := s_Book_sure) u5_sure u6_sure u7_sure
  have b_g_sure := F_g_sure.binds (ps := ["self"]) fun _ _ _ _ _ _ us hl => match us, hl with | [_], _ => rfl
  have F_g_clauses := fun_mk (st := s_Book_clauses) u5_clauses u6_clauses u7_clauses
  have b_g_clauses := F_g_clauses.binds (ps := ["self"]) fun _ _ _ _ _ _ us hl => match us, hl with | [_], _ => rfl
  refine ⟨PySem.W.fnOf "law" "law" (defArgs s_law) (defBody s_law) (defScope s_law) .none kV_law dc_law pm_law an_law cd_law ct_law, fun s v => .of_eq rfl, fun base _ _ => ?_⟩
  have p_events : PrpG P w K mg base C "events" "_events" := ⟨⟨_, _, _, ⟨u1_events, u2_events, u3_events, ⟨_, u4_events⟩⟩, ok_get_events F_g_events Bk, b_g_events⟩, Bk.own.cl⟩
  have p_witnesses : PrpG P w K mg base C "witnesses" "_witnesses" := ⟨⟨_, _, _, ⟨u1_witnesses, u2_witnesses, u3_witnesses, ⟨_, u4_witnesses⟩⟩, ok_get_witnesses F_g_witnesses Bk, b_g_witnesses⟩, Bk.own.cl⟩
  have p_tellings : PrpG P w K mg base C "tellings" "_tellings" := ⟨⟨_, _, _, ⟨u1_tellings, u2_tellings, u3_tellings, ⟨_, u4_tellings⟩⟩, ok_get_tellings F_g_tellings Bk, b_g_tellings⟩, Bk.own.cl⟩
  have p_gaps : PrpG P w K mg base C "gaps" "_gaps" := ⟨⟨_, _, _, ⟨u1_gaps, u2_gaps, u3_gaps, ⟨_, u4_gaps⟩⟩, ok_get_gaps F_g_gaps Bk, b_g_gaps⟩, Bk.own.cl⟩
  have p_sure : PrpG P w K mg base C "sure" "_sure" := ⟨⟨_, _, _, ⟨u1_sure, u2_sure, u3_sure, ⟨_, u4_sure⟩⟩, ok_get_sure F_g_sure Bk, b_g_sure⟩, Bk.own.cl⟩
  have p_clauses : PrpG P w K mg base C "clauses" "_clauses" := ⟨⟨_, _, _, ⟨u1_clauses, u2_clauses, u3_clauses, ⟨_, u4_clauses⟩⟩, ok_get_clauses F_g_clauses Bk, b_g_clauses⟩, Bk.own.cl⟩
  have pr_events : PrpG P w K mg base CLo "events" "_events" := ⟨⟨_, _, _, ⟨u1r_events, u2_events, u3_events, ⟨_, u4_events⟩⟩, ok_get_events F_g_events BkR, b_g_events⟩, BkR.own.cl⟩
  have pr_witnesses : PrpG P w K mg base CLo "witnesses" "_witnesses" := ⟨⟨_, _, _, ⟨u1r_witnesses, u2_witnesses, u3_witnesses, ⟨_, u4_witnesses⟩⟩, ok_get_witnesses F_g_witnesses BkR, b_g_witnesses⟩, BkR.own.cl⟩
  have pr_tellings : PrpG P w K mg base CLo "tellings" "_tellings" := ⟨⟨_, _, _, ⟨u1r_tellings, u2_tellings, u3_tellings, ⟨_, u4_tellings⟩⟩, ok_get_tellings F_g_tellings BkR, b_g_tellings⟩, BkR.own.cl⟩
  have pr_gaps : PrpG P w K mg base CLo "gaps" "_gaps" := ⟨⟨_, _, _, ⟨u1r_gaps, u2_gaps, u3_gaps, ⟨_, u4_gaps⟩⟩, ok_get_gaps F_g_gaps BkR, b_g_gaps⟩, BkR.own.cl⟩
  have pr_sure : PrpG P w K mg base CLo "sure" "_sure" := ⟨⟨_, _, _, ⟨u1r_sure, u2_sure, u3_sure, ⟨_, u4_sure⟩⟩, ok_get_sure F_g_sure BkR, b_g_sure⟩, BkR.own.cl⟩
  have pr_clauses : PrpG P w K mg base CLo "clauses" "_clauses" := ⟨⟨_, _, _, ⟨u1r_clauses, u2_clauses, u3_clauses, ⟨_, u4_clauses⟩⟩, ok_get_clauses F_g_clauses BkR, b_g_clauses⟩, BkR.own.cl⟩
  have h_is_integer : Cal P w K mg base CX0 1 "is_integer" ["thing"] (spB intB K) := ⟨_, _, PySem.W.mg_of X G a_is_integer, k_is_integer, b_is_integer, ok_is_integer F_is_integer Tw⟩
  have h_is_number : Cal P w K mg base CX0 2 "is_number" ["thing"] (spB numB K) := ⟨_, _, PySem.W.mg_of X G a_is_number, k_is_number, b_is_number, ok_is_number F_is_number Tw h_is_integer⟩
  have h_is_kind : Cal P w K mg base CX0 1 "is_kind" ["thing"] (spB kindB K) := ⟨_, _, PySem.W.mg_of X G a_is_kind, k_is_kind, b_is_kind, ok_is_kind F_is_kind Tw⟩
  have h_contrary : Cal P w K mg base CX0 1 "contrary" ["kind"] (fun vs H Q _ => ∃ s, vs = [.str s] ∧ Q (.str (otherK s)) H) := ⟨_, _, PySem.W.mg_of X G a_contrary, k_contrary, b_contrary, ok_contrary F_contrary⟩
  have h_is_tuple : Cal P w K mg base CX0 1 "is_tuple" ["thing", "many"] (spTu K) := ⟨_, _, PySem.W.mg_of X G a_is_tuple, k_is_tuple, b_is_tuple, ok_is_tuple F_is_tuple Tw⟩
  have h_is_below : Cal P w K mg base CX0 2 "is_below" ["thing", "many"] (spBelow K) := ⟨_, _, PySem.W.mg_of X G a_is_below, k_is_below, b_is_below, ok_is_below F_is_below h_is_integer⟩
  have h_is_side : Cal P w K mg base CX0 1 "is_side" ["thing"] (spB sideB K) := ⟨_, _, PySem.W.mg_of X G a_is_side, k_is_side, b_is_side, ok_is_side F_is_side Tbo.toIt4⟩
  have h__can_stand : Cal P w K mg base CX0 3 "_can_stand" ["word", "values", "place", "events", "witnesses"] (spCan K) := ⟨_, _, PySem.W.mg_of X G a__can_stand, k__can_stand, b__can_stand, ok_can_stand F__can_stand h_is_below h_is_side h_is_kind h_is_number⟩
  have h_first_wrong : Cal P w K mg base CX0 4 "first_wrong" ["part", "values", "events", "witnesses"] (spFw K) := ⟨_, _, PySem.W.mg_of X G a_first_wrong, k_first_wrong, b_first_wrong, ok_first_wrong F_first_wrong Tbo.toIt4 h__can_stand⟩
  have h_is_item : Cal P w K mg base CX0 5 "is_item" ["part", "thing", "events", "witnesses"] (spItem K) := ⟨_, _, PySem.W.mg_of X G a_is_item, k_is_item, b_is_item, ok_is_item F_is_item Tbo.toIt4 h_is_tuple h_first_wrong⟩
  have h__check_arguments : Cal P w K mg base CX0 3 "_check_arguments" ["events", "witnesses", "parts"] (spCa K) := ⟨_, _, PySem.W.mg_of X G a__check_arguments, k__check_arguments, b__check_arguments, ok_check_arguments F__check_arguments Tbo h_is_below⟩
  have h__check_items : Cal P w K mg base CX0 6 "_check_items" ["place", "part", "items", "events", "witnesses"] (spCi K) := ⟨_, _, PySem.W.mg_of X G a__check_items, k__check_items, b__check_items, ok_check_items F__check_items Tbo h_is_item⟩
  have c_Book : BookG P w K mg base C ⟨fI, _, d1, d2, d3, d4, ds, ds4, ds3⟩ := ⟨⟨mkC, iC, fI_, kC⟩, ok_init F_init Tbo Bk h__check_arguments h__check_items, b0, v2, b2, v4, b4, v3, b3, fun H => ⟨.inr ⟨_, _, _, ld1, rfl, rfl, by show 0 ≤ sizeLine; decide, .nil⟩, .inr ⟨_, _, _, ld2, rfl, rfl, by show 0 ≤ sizeLine; decide, .nil⟩, .inr ⟨_, _, _, ld3, rfl, rfl, by show 0 ≤ sizeLine; decide, .nil⟩, .inr ⟨_, _, _, ld4, rfl, rfl, by show 0 ≤ sizeLine; decide, .nil⟩⟩, PySem.W.mg_of X G aC, Bk⟩
  have h_bag : Cal P w K mg base CX0 1 "_law_bag" ["_law_script"] (spBag K) := ⟨_, _, PySem.W.mg_of X G a_bag, k_bag, b_bag, ok_bag F_bag Tl⟩
  have h_take : Cal P w K mg base CX0 1 "_law_take" ["_law_bag_here", "_law_many"] spTake := ⟨_, _, PySem.W.mg_of X G a_take, k_take, b_take, ok_take F_take Tl⟩
  have h_one : Cal P w K mg base CX0 2 "_law_one" ["_law_bag_here", "_law_menu"] (spOne K) := ⟨_, _, PySem.W.mg_of X G a_one, k_one, b_one, ok_one F_one Tl h_take⟩
  have h_number : Cal P w K mg base CX0 2 "_law_number" ["_law_bag_here"] spNum := ⟨_, _, PySem.W.mg_of X G a_number, k_number, b_number, ok_number F_number Tl h_take⟩
  have h_kind : Cal P w K mg base CX0 2 "_law_kind" ["_law_bag_here"] spKnd := ⟨_, _, PySem.W.mg_of X G a_kind, k_kind, b_kind, ok_kind F_kind Tl h_take⟩
  have h_parts : Cal P w K mg base CX0 3 "_law_parts" ["_law_bag_here", "_law_events", "_law_witnesses", "_law_most"] spParts := ⟨_, _, PySem.W.mg_of X G a_parts, k_parts, b_parts, ok_parts F_parts Tl h_take h_number h_kind⟩
  have h_book : Cal P w K mg base CX0 9 "_law_book" ["_law_events", "_law_witnesses", "_law_parts_here"] (spMade K C) := ⟨_, _, PySem.W.mg_of X G a_book, k_book, b_book, ok_lbook F_book Tl c_Book⟩
  have h_l_contrary : Cal P w K mg base CX0 1 "_law_contrary" ["_law_kind_here"] (fun vs H Q _ => ∃ s, vs = [.str s] ∧ Q (.str (otherK s)) H) := ⟨_, _, PySem.W.mg_of X G a_l_contrary, k_l_contrary, b_l_contrary, ok_l_contrary8 F_l_contrary Tl⟩
  have h_contrary_parts : Cal P w K mg base CX0 2 "_law_contrary_parts" ["_law_parts_here", "_law_part", "_law_item"] (spLcp K) := ⟨_, _, PySem.W.mg_of X G a_contrary_parts, k_contrary_parts, b_contrary_parts, ok_lcp F_contrary_parts Tl h_l_contrary⟩
  have h_due : CalG P w K mg base CX0 1 "_law_due" ["_law_events", "_law_witnesses", "_law_parts_here"] (spDue8 K) := ⟨_, _, PySem.W.mg_of X G a_due, k_due, b_due, ok_due8 F_due Tl⟩
  have h_shown : CalG P w K mg base CX0 3 "_law_shown" ["_law_book_here"] (spShw K C) := ⟨_, _, PySem.W.mg_of X G a_shown, k_shown, b_shown, ok_shown8 F_shown Tl p_events p_witnesses p_tellings p_gaps p_sure p_clauses⟩
  have c_Lon : LonG P w K mg base C CLo e1 e2 e3 e4 := ⟨⟨fLI, _, _, _, _, _, ⟨mkR, iL, fL_, kR⟩, ok_longer F_LI Tl BkR p_events p_witnesses p_tellings p_gaps p_sure p_clauses, kL1, kL2, kL3, kL4⟩, PySem.W.mg_of X G aL, fun H => ⟨.inr ⟨_, _, _, le1, rfl, rfl, by show 0 ≤ sizeLine; decide, .nil⟩, .inr ⟨_, _, _, le2, rfl, rfl, by show 0 ≤ sizeLine; decide, .nil⟩, .inr ⟨_, _, _, le3, rfl, rfl, by show 0 ≤ sizeLine; decide, .nil⟩, .inr ⟨_, _, _, le4, rfl, rfl, by show 0 ≤ sizeLine; decide, .nil⟩⟩⟩
  have h_as_book : Cal P w K mg base CX0 9 "as_book" ["longer"] (spAsB K C CLo) := ⟨_, _, PySem.W.mg_of X G a_as_book, k_as_book, b_as_book, ok_as_book F_as_book Tl c_Book pr_events pr_witnesses pr_tellings pr_gaps pr_sure pr_clauses⟩
  have h_denying_gap : Cal P w K mg base CX0 5 "denying_gap" ["book", "a", "b", "g"] (spDG K C CLo) := ⟨_, _, PySem.W.mg_of X G a_denying_gap, k_denying_gap, b_denying_gap, ok_denying_gap F_denying_gap Tl c_Lon⟩
  have h_denying_bound : Cal P w K mg base CX0 5 "denying_bound" ["book", "e", "side", "x"] (spDB K C CLo) := ⟨_, _, PySem.W.mg_of X G a_denying_bound, k_denying_bound, b_denying_bound, ok_denying_bound F_denying_bound Tl c_Lon⟩
  have h__denying_telling : Cal P w K mg base CX0 5 "_denying_telling" ["book", "w", "e", "x"] (spDT K C CLo) := ⟨_, _, PySem.W.mg_of X G a__denying_telling, k__denying_telling, b__denying_telling, ok_denying_telling F__denying_telling Tl c_Lon⟩
  have h__denying_clause : Cal P w K mg base CX0 5 "_denying_clause" ["book", "w", "kind", "v", "other"] (spDC K C CLo) := ⟨_, _, PySem.W.mg_of X G a__denying_clause, k__denying_clause, b__denying_clause, ok_denying_clause F__denying_clause Tl h_contrary c_Lon⟩
  have h__denying : Cal P w K mg base CX0 6 "_denying" ["book", "sort", "item"] (spDn K C CLo) := ⟨_, _, PySem.W.mg_of X G a__denying, k__denying, b__denying, ok_denying F__denying Tl h__denying_telling h_denying_gap h_denying_bound h__denying_clause⟩
  have h_contraries : Cal P w K mg base CX0 10 "contraries" ["book", "sort", "item"] (spCt K C) := ⟨_, _, PySem.W.mg_of X G a_contraries, k_contraries, b_contraries, ok_contraries F_contraries Tl h__denying h_as_book⟩
  exact ok_law F_law Tl h_bag h_take h_one h_parts h_book h_contrary_parts h_due h_shown h_contraries
end EL

open PySem PySem.W PyProof.Rows
set_option maxRecDepth 100000 in
set_option maxHeartbeats 0 in
theorem PySem.Challenge.cw_earlyorlate_k81_contraries_told_holds : PySem.Challenge.rw_earlyorlate_k81_contraries_told.Holds := by
  w_on; o_law; k_head; (case hw => w_witness2)
  k_fill
  refine EL.walk_all (l := PySem.Challenge.rw_earlyorlate_k81_contraries_told) (k := 11) rfl rfl ⟨rfl, by decide, by decide⟩ (fun w h Y => PySem.W.kIn_of Y) ?F
  case F =>
    intro w mg fa h KX G hmg
    refine' EL.all_mk KX G hmg ?a_is_integer ?l_is_integer ?c_is_integer ?k_is_integer ?a_is_number ?l_is_number ?c_is_number ?k_is_number ?a_is_kind ?l_is_kind ?c_is_kind ?k_is_kind ?a_contrary ?l_contrary ?c_contrary ?k_contrary ?a_is_tuple ?l_is_tuple ?c_is_tuple ?k_is_tuple ?a_is_below ?l_is_below ?c_is_below ?k_is_below ?a_is_side ?l_is_side ?c_is_side ?k_is_side ?a__can_stand ?l__can_stand ?c__can_stand ?k__can_stand ?a_first_wrong ?l_first_wrong ?c_first_wrong ?k_first_wrong ?a_is_item ?l_is_item ?c_is_item ?k_is_item ?a__check_arguments ?l__check_arguments ?c__check_arguments ?k__check_arguments ?a__check_items ?l__check_items ?c__check_items ?k__check_items ?a_bag ?l_bag ?c_bag ?k_bag ?a_take ?l_take ?c_take ?k_take ?a_one ?l_one ?c_one ?k_one ?a_number ?l_number ?c_number ?k_number ?a_kind ?l_kind ?c_kind ?k_kind ?a_parts ?l_parts ?c_parts ?k_parts ?a_book ?l_book ?c_book ?k_book ?a_l_contrary ?l_l_contrary ?c_l_contrary ?k_l_contrary ?a_contrary_parts ?l_contrary_parts ?c_contrary_parts ?k_contrary_parts ?a_due ?l_due ?c_due ?k_due ?a_shown ?l_shown ?c_shown ?k_shown ?a_as_book ?l_as_book ?c_as_book ?k_as_book ?a_denying_gap ?l_denying_gap ?c_denying_gap ?k_denying_gap ?a_denying_bound ?l_denying_bound ?c_denying_bound ?k_denying_bound ?a__denying_telling ?l__denying_telling ?c__denying_telling ?k__denying_telling ?a__denying_clause ?l__denying_clause ?c__denying_clause ?k__denying_clause ?a__denying ?l__denying ?c__denying ?k__denying ?a_contraries ?l_contraries ?c_contraries ?k_contraries ?a_law ?l_law ?c_law ?k_law ?z_len ?z_isinstance ?z_int ?z_bool ?z_str ?z_list ?z_tuple ?z_range ?z_enumerate ?z_zip ?z_abs ?z_repr ?z_min ?z_max ?z_sum ?z_all ?gGN ?gForms ?lForms ?kForms ?ntel ?ltel ?ngap ?lgap ?nsur ?lsur ?ncla ?lcla ?gParts ?lParts ?gtE ?gtW ?gtI ?aC ?iC ?fI_ ?lI ?cI ?kI ?lT ?ld1 ?ld2 ?ld3 ?ld4 ?pg ?hd ?po ?sa ?mkC ?kC ?nf0 ?nf1 ?nf2 ?nf3 ?nf4 ?nf5 ?oc1 ?oc2 ?oc3 ?oc4 ?kt0 ?kt1 ?kt2 ?kt3 ?kt4 ?aL ?iL ?lLI ?cLI ?kLI ?lTL ?le1 ?le2 ?le3 ?le4 ?fL_ ?pgR ?hdR ?poR ?saR ?mkR ?kR ?nr0 ?nr1 ?nr2 ?nr3 ?nr4 ?nr5 ?ocR1 ?ocR4 ?ktR0 ?ktR1 ?ktR2 ?ktR3 ?ktR4 ?u1_events ?u2_events ?u3_events ?u4_events ?u5_events ?u6_events ?u7_events ?u1r_events ?u1_witnesses ?u2_witnesses ?u3_witnesses ?u4_witnesses ?u5_witnesses ?u6_witnesses ?u7_witnesses ?u1r_witnesses ?u1_tellings ?u2_tellings ?u3_tellings ?u4_tellings ?u5_tellings ?u6_tellings ?u7_tellings ?u1r_tellings ?u1_gaps ?u2_gaps ?u3_gaps ?u4_gaps ?u5_gaps ?u6_gaps ?u7_gaps ?u1r_gaps ?u1_sure ?u2_sure ?u3_sure ?u4_sure ?u5_sure ?u6_sure ?u7_sure ?u1r_sure ?u1_clauses ?u2_clauses ?u3_clauses ?u4_clauses ?u5_clauses ?u6_clauses ?u7_clauses ?u1r_clauses
    (case a_is_integer => k_is)
    (case l_is_integer => k_is)
    (case c_is_integer => k_is)
    (case k_is_integer => k_is)
    (case a_is_number => k_is)
    (case l_is_number => k_is)
    (case c_is_number => k_is)
    (case k_is_number => k_is)
    (case a_is_kind => k_is)
    (case l_is_kind => k_is)
    (case c_is_kind => k_is)
    (case k_is_kind => k_is)
    (case a_contrary => k_is)
    (case l_contrary => k_is)
    (case c_contrary => k_is)
    (case k_contrary => k_is)
    (case a_is_tuple => k_is)
    (case l_is_tuple => k_is)
    (case c_is_tuple => k_is)
    (case k_is_tuple => k_is)
    (case a_is_below => k_is)
    (case l_is_below => k_is)
    (case c_is_below => k_is)
    (case k_is_below => k_is)
    (case a_is_side => k_is)
    (case l_is_side => k_is)
    (case c_is_side => k_is)
    (case k_is_side => k_is)
    (case a__can_stand => k_is)
    (case l__can_stand => k_is)
    (case c__can_stand => k_is)
    (case k__can_stand => k_is)
    (case a_first_wrong => k_is)
    (case l_first_wrong => k_is)
    (case c_first_wrong => k_is)
    (case k_first_wrong => k_is)
    (case a_is_item => k_is)
    (case l_is_item => k_is)
    (case c_is_item => k_is)
    (case k_is_item => k_is)
    (case a__check_arguments => k_is)
    (case l__check_arguments => k_is)
    (case c__check_arguments => k_is)
    (case k__check_arguments => k_is)
    (case a__check_items => k_is)
    (case l__check_items => k_is)
    (case c__check_items => k_is)
    (case k__check_items => k_is)
    (case a_bag => k_is)
    (case l_bag => k_is)
    (case c_bag => k_is)
    (case k_bag => k_is)
    (case a_take => k_is)
    (case l_take => k_is)
    (case c_take => k_is)
    (case k_take => k_is)
    (case a_one => k_is)
    (case l_one => k_is)
    (case c_one => k_is)
    (case k_one => k_is)
    (case a_number => k_is)
    (case l_number => k_is)
    (case c_number => k_is)
    (case k_number => k_is)
    (case a_kind => k_is)
    (case l_kind => k_is)
    (case c_kind => k_is)
    (case k_kind => k_is)
    (case a_parts => k_is)
    (case l_parts => k_is)
    (case c_parts => k_is)
    (case k_parts => k_is)
    (case a_book => k_is)
    (case l_book => k_is)
    (case c_book => k_is)
    (case k_book => k_is)
    (case a_l_contrary => k_is)
    (case l_l_contrary => k_is)
    (case c_l_contrary => k_is)
    (case k_l_contrary => k_is)
    (case a_contrary_parts => k_is)
    (case l_contrary_parts => k_is)
    (case c_contrary_parts => k_is)
    (case k_contrary_parts => k_is)
    (case a_due => k_is)
    (case l_due => k_is)
    (case c_due => k_is)
    (case k_due => k_is)
    (case a_shown => k_is)
    (case l_shown => k_is)
    (case c_shown => k_is)
    (case k_shown => k_is)
    (case a_as_book => k_is)
    (case l_as_book => k_is)
    (case c_as_book => k_is)
    (case k_as_book => k_is)
    (case a_denying_gap => k_is)
    (case l_denying_gap => k_is)
    (case c_denying_gap => k_is)
    (case k_denying_gap => k_is)
    (case a_denying_bound => k_is)
    (case l_denying_bound => k_is)
    (case c_denying_bound => k_is)
    (case k_denying_bound => k_is)
    (case a__denying_telling => k_is)
    (case l__denying_telling => k_is)
    (case c__denying_telling => k_is)
    (case k__denying_telling => k_is)
    (case a__denying_clause => k_is)
    (case l__denying_clause => k_is)
    (case c__denying_clause => k_is)
    (case k__denying_clause => k_is)
    (case a__denying => k_is)
    (case l__denying => k_is)
    (case c__denying => k_is)
    (case k__denying => k_is)
    (case a_contraries => k_is)
    (case l_contraries => k_is)
    (case c_contraries => k_is)
    (case k_contraries => k_is)
    (case a_law => k_is)
    (case l_law => k_is)
    (case c_law => k_is)
    (case k_law => k_is)
    (case z_len => k_is)
    (case z_isinstance => k_is)
    (case z_int => k_is)
    (case z_bool => k_is)
    (case z_str => k_is)
    (case z_list => k_is)
    (case z_tuple => k_is)
    (case z_range => k_is)
    (case z_enumerate => k_is)
    (case z_zip => k_is)
    (case z_abs => k_is)
    (case z_repr => k_is)
    (case z_min => k_is)
    (case z_max => k_is)
    (case z_sum => k_is)
    (case z_all => k_is)
    (case gGN => k_is)
    (case gForms => k_is)
    (case lForms => k_is)
    (case kForms => exact ⟨⟨_, _, rfl, rfl⟩, ⟨_, _, rfl, rfl⟩, ⟨_, _, rfl, rfl⟩, ⟨_, _, rfl, rfl⟩, trivial⟩)
    (case ntel => k_is)
    (case ltel => k_is)
    (case ngap => k_is)
    (case lgap => k_is)
    (case nsur => k_is)
    (case lsur => k_is)
    (case ncla => k_is)
    (case lcla => k_is)
    (case gParts => k_is)
    (case lParts => k_is)
    (case gtE => k_is)
    (case gtW => k_is)
    (case gtI => k_is)
    (case aC => k_is)
    (case iC => k_is)
    (case fI_ => k_is)
    (case lI => k_is)
    (case cI => k_is)
    (case kI => k_is)
    (case lT => k_is)
    (case ld1 => k_is)
    (case ld2 => k_is)
    (case ld3 => k_is)
    (case ld4 => k_is)
    (case pg => k_is)
    (case hd => k_is)
    (case po => k_is)
    (case sa => k_is)
    (case mkC => k_is)
    (case kC => k_is)
    (case nf0 => k_is)
    (case nf1 => k_is)
    (case nf2 => k_is)
    (case nf3 => k_is)
    (case nf4 => k_is)
    (case nf5 => k_is)
    (case oc1 => k_is)
    (case oc2 => k_is)
    (case oc3 => k_is)
    (case oc4 => k_is)
    (case kt0 => k_is)
    (case kt1 => k_is)
    (case kt2 => k_is)
    (case kt3 => k_is)
    (case kt4 => k_is)
    (case aL => k_is)
    (case iL => k_is)
    (case lLI => k_is)
    (case cLI => k_is)
    (case kLI => k_is)
    (case lTL => k_is)
    (case le1 => k_is)
    (case le2 => k_is)
    (case le3 => k_is)
    (case le4 => k_is)
    (case fL_ => k_is)
    (case pgR => k_is)
    (case hdR => k_is)
    (case poR => k_is)
    (case saR => k_is)
    (case mkR => k_is)
    (case kR => k_is)
    (case nr0 => k_is)
    (case nr1 => k_is)
    (case nr2 => k_is)
    (case nr3 => k_is)
    (case nr4 => k_is)
    (case nr5 => k_is)
    (case ocR1 => k_is)
    (case ocR4 => k_is)
    (case ktR0 => k_is)
    (case ktR1 => k_is)
    (case ktR2 => k_is)
    (case ktR3 => k_is)
    (case ktR4 => k_is)
    (case u1_events => k_is)
    (case u2_events => k_is)
    (case u3_events => k_is)
    (case u4_events => k_is)
    (case u5_events => k_is)
    (case u6_events => k_is)
    (case u7_events => k_is)
    (case u1r_events => k_is)
    (case u1_witnesses => k_is)
    (case u2_witnesses => k_is)
    (case u3_witnesses => k_is)
    (case u4_witnesses => k_is)
    (case u5_witnesses => k_is)
    (case u6_witnesses => k_is)
    (case u7_witnesses => k_is)
    (case u1r_witnesses => k_is)
    (case u1_tellings => k_is)
    (case u2_tellings => k_is)
    (case u3_tellings => k_is)
    (case u4_tellings => k_is)
    (case u5_tellings => k_is)
    (case u6_tellings => k_is)
    (case u7_tellings => k_is)
    (case u1r_tellings => k_is)
    (case u1_gaps => k_is)
    (case u2_gaps => k_is)
    (case u3_gaps => k_is)
    (case u4_gaps => k_is)
    (case u5_gaps => k_is)
    (case u6_gaps => k_is)
    (case u7_gaps => k_is)
    (case u1r_gaps => k_is)
    (case u1_sure => k_is)
    (case u2_sure => k_is)
    (case u3_sure => k_is)
    (case u4_sure => k_is)
    (case u5_sure => k_is)
    (case u6_sure => k_is)
    (case u7_sure => k_is)
    (case u1r_sure => k_is)
    (case u1_clauses => k_is)
    (case u2_clauses => k_is)
    (case u3_clauses => k_is)
    (case u4_clauses => k_is)
    (case u5_clauses => k_is)
    (case u6_clauses => k_is)
    (case u7_clauses => k_is)
    (case u1r_clauses => k_is)
